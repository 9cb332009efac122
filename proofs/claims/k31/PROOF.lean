import PyProof.Rows.All
import Wide.All
import OpenK.AllK
import Wide.FinOn
import Lean
import PyProof.EqAt
import PyProof.EqKinds
import PyProof.TupleCall
import PySem.Challenge.RW_boardglue_k31_deeds_one_by_one
set_option Elab.async false
set_option linter.all false
set_option maxRecDepth 100000
namespace L2
open PySem PySem.Spec PyProof.Rows
abbrev Key := Sum Int Str
def keyIs : Key → Value → Bool
  | .inl k, v => Value.isInt k v
  | .inr x, v => Value.isStrOf x v
def keyH (w : World) : Key → Int
  | .inl k => hashInt k
  | .inr x => hashStr w x
theorem keyIs_shape : ∀ {k : Key} {v : Value}, keyIs k v = true → (∃ i t, k = Sum.inl i ∧ v = Value.int i t) ∨ (∃ x t, k = Sum.inr x ∧ v = Value.str x t)
  | .inl i, v, h => by
    obtain ⟨t, e⟩ := Value.isInt_shape (k := i) (v := v) h
    exact .inl ⟨i, t, rfl, e⟩
  | .inr x, v, h => by
    obtain ⟨t, e⟩ := Value.isStrOf_shape (x := x) (v := v) h
    exact .inr ⟨x, t, rfl, e⟩
theorem keyIs_int (i : Int) (t : Tok) : keyIs (.inl i) (.int i t) = true := by simp [keyIs, Value.isInt]
theorem keyIs_str (x : Str) (t : Tok) : keyIs (.inr x) (.str x t) = true := by simp [keyIs, Value.isStrOf]
theorem key_ll (a b : Int) : decide ((Sum.inl a : Key) = Sum.inl b) = (a == b) := by
  by_cases e : a = b
  · subst e; simp
  · have h : ¬ (Sum.inl a : Key) = Sum.inl b := fun q => e (Sum.inl.inj q)
    rw [decide_eq_false h]
    exact (beq_eq_false_iff_ne.mpr e).symm
theorem key_rr (a b : Str) : decide ((Sum.inr a : Key) = Sum.inr b) = decide (a = b) := by
  by_cases e : a = b
  · subst e; simp
  · have h : ¬ (Sum.inr a : Key) = Sum.inr b := fun q => e (Sum.inr.inj q)
    rw [decide_eq_false h, decide_eq_false e]
theorem key_lr (a : Int) (b : Str) : decide ((Sum.inl a : Key) = Sum.inr b) = false := decide_eq_false (fun q => nomatch q)
theorem key_rl (a : Str) (b : Int) : decide ((Sum.inr a : Key) = Sum.inl b) = false := decide_eq_false (fun q => nomatch q)
def mixKind (prog : Program) (w : World) : PySem.KeyKind prog w Key where
  is := keyIs
  hash := keyH w
  inj := fun v a b ha hb => by
    rcases keyIs_shape ha with ⟨i, t, rfl, rfl⟩ | ⟨x, t, rfl, rfl⟩
    · rcases keyIs_shape hb with ⟨j, u, rfl, e⟩ | ⟨y, u, rfl, e⟩
      · injection e with e1 _; rw [e1]
      · exact nomatch e
    · rcases keyIs_shape hb with ⟨j, u, rfl, e⟩ | ⟨y, u, rfl, e⟩
      · exact nomatch e
      · injection e with e1 _; rw [e1]
  byValue := fun k v h => by
    rcases keyIs_shape h with ⟨i, t, rfl, rfl⟩ | ⟨x, t, rfl, rfl⟩ <;> rfl
  pyHash := fun hv h => by
    rcases keyIs_shape hv with ⟨i, t, rfl, rfl⟩ | ⟨x, t, rfl, rfl⟩
    · exact wpAny_pyHash_int h
    · exact wpAny_pyHash_str h
  eqBool := fun hu hv h => by
    rcases keyIs_shape hu with ⟨i, t, rfl, rfl⟩ | ⟨x, t, rfl, rfl⟩
    · rcases keyIs_shape hv with ⟨j, u, rfl, rfl⟩ | ⟨y, u, rfl, rfl⟩
      · rw [key_ll] at h; exact wpAny_eqBool_int h
      · rw [key_lr] at h; exact SeqAt.EqAt.int_str i t y u _ _ _ _ h
    · rcases keyIs_shape hv with ⟨j, u, rfl, rfl⟩ | ⟨y, u, rfl, rfl⟩
      · rw [key_rl] at h; exact SeqAt.EqAt.str_int x t j u _ _ _ _ h
      · rw [key_rr] at h; exact wpAny_eqBool_str h
  «strs» := fun k x t v h => by
    rcases keyIs_shape h with ⟨i, u, rfl, e⟩ | ⟨y, u, rfl, e⟩
    · exact nomatch e
    · injection e with e1 _
      subst e1
      cases v <;> rfl
theorem mixKind_int (prog : Program) (w : World) (i : Int) (t : Tok) : (mixKind prog w).is (.inl i) (.int i t) = true := keyIs_int i t
theorem mixKind_str (prog : Program) (w : World) (x : Str) (t : Tok) : (mixKind prog w).is (.inr x) (.str x t) = true := keyIs_str x t
end L2
namespace L2
open PySem PySem.Spec PyProof.Rows
inductive V where
  | non | bl (b : Bool) | int (i : Int) | str (x : Str) | byt (b : Array UInt8) | flt (b : UInt64) | ref (a : Addr) | ty (n : String)
  deriving DecidableEq
def RelV : V → Value → Prop
  | .non, u => u = Value.none
  | .bl b, u => u = Value.bool b
  | .int i, u => ∃ t, u = Value.int i t
  | .str x, u => ∃ t, u = Value.str x t
  | .byt b, u => ∃ t, u = Value.bytes b t
  | .flt b, u => ∃ t, u = Value.float b t
  | .ref a, u => u = Value.ref a
  | .ty n, u => u = Value.type n
abbrev Vals : List V → List Value → Prop := Paired RelV
theorem Vals.length {xs : List V} {us : List Value} (r : Vals xs us) : xs.length = us.length := Paired.length r
theorem Vals.get : ∀ {xs : List V} {us : List Value} {i : Nat} {x : V}, Vals xs us → xs[i]? = some x → ∃ u, us[i]? = some u ∧ RelV x u
  | _, _, _, _, .nil, e => by simp at e
  | _, _, 0, _, .cons r _, e => by simp at e; subst e; exact ⟨_, rfl, r⟩
  | _, _, i + 1, x, .cons _ t, e => by
    obtain ⟨u, h1, h2⟩ := Vals.get (i := i) (x := x) t (by simpa using e)
    exact ⟨u, by simpa using h1, h2⟩
theorem Vals.append : ∀ {xs ys : List V} {us ws : List Value}, Vals xs us → Vals ys ws → Vals (xs ++ ys) (us ++ ws)
  | _, _, _, _, .nil, s => s
  | _, _, _, _, .cons r t, s => .cons r (Vals.append t s)
theorem Vals.take : ∀ {xs : List V} {us : List Value} (n : Nat), Vals xs us → Vals (xs.take n) (us.take n)
  | _, _, 0, _ => .nil
  | _, _, _ + 1, .nil => .nil
  | _, _, n + 1, .cons r t => .cons r (Vals.take n t)
theorem Vals.drop : ∀ {xs : List V} {us : List Value} (n : Nat), Vals xs us → Vals (xs.drop n) (us.drop n)
  | _, _, 0, r => r
  | _, _, _ + 1, .nil => .nil
  | _, _, n + 1, .cons _ t => Vals.drop n t
def RelO : Option V → Option Value → Prop
  | some v, some u => RelV v u
  | none, none => True
  | _, _ => False
def KV {κ : Type} : List (κ × V) → List (κ × Value) → Prop := Paired fun (p : κ × V) (q : κ × Value) => p.1 = q.1 ∧ RelV p.2 q.2
def kV : Key → V
  | .inl i => .int i
  | .inr x => .str x
inductive HO where
  | lst (xs : List V)
  | tup (xs : List V)
  | dK (kvs : List (Key × V)) | dT (kvs : List (List Key × V))
  | set (S : Int → Bool) (n : Nat)
  | ins (C dx : Addr) (fs : List (Str × V))
  | own (x : Addr)
  | xd (fs : List (Str × V))
  | met (f x : Addr)
  | rng (lo hi : Int)
  | frz (o : Obj) (u : HO)
  | tbl (ps : Array Value)
  | ext (φ : Heap → Prop)
abbrev Hp := Addr → Option HO
def upd (H : Hp) (a : Addr) (o : HO) : Hp := fun b => if b = a then some o else H b
theorem upd_same {H : Hp} {a : Addr} {o : HO} : upd H a o a = some o := by unfold upd; rw [if_pos rfl]
theorem upd_ne {H : Hp} {a b : Addr} {o : HO} (h : b ≠ a) : upd H a o b = H b := by unfold upd; rw [if_neg h]
theorem ne_of {H : Hp} {a b : Addr} {o u : HO} (h : H a = some o) (h' : H b = some u) (d : o ≠ u) : a ≠ b := by
  intro e; subst e; rw [h] at h'; exact d (Option.some.inj h')
theorem ne_of_none {H : Hp} {a b : Addr} {o : HO} (h : H a = some o) (h' : H b = none) : a ≠ b := by
  intro e; subst e; rw [h] at h'; cases h'
section
variable (P : Program) (w : World)
def ObjOk (H : Hp) (h : Heap) (a : Addr) : HO → Prop
  | .lst xs => xs.length ≤ sizeLine ∧ ∃ (its : List Value) (n : Nat), Vals xs its ∧ h.get? a = some { cls := .type "list", data := .seq its.toArray n }
  | .tup xs => xs.length ≤ sizeLine ∧ ∃ its : List Value, Vals xs its ∧ IsTup h a its.toArray
  | .dK kvs => kvs.length ≤ sizeLine ∧ (a == sysModules) = false ∧ ∃ vs, KV kvs vs ∧ h.DictOf (mixKind P w) a vs
  | .dT kvs => kvs.length ≤ sizeLine ∧ (a == sysModules) = false ∧ ∃ xs : List (List Key × Addr × Value),
      Paired (fun (p : List Key × V) (q : List Key × Addr × Value) => p.1 = q.1 ∧ H q.2.1 = some (.tup (p.1.map kV)) ∧ RelV p.2 q.2.2) kvs xs ∧
      ∃ o es ep, h.get? a = some o ∧ o.ExactDict ∧ o.data = .dict es ep ∧ es.toList = xs.map (entryOfKey (tupleKind (mixKind P w))) ∧ (xs.map (·.1)).Nodup
  | .set S n => h.SetOf (intKind P w) a S n
  | .ins C dx fs => H dx = some (.own a) ∧ fs.length ≤ 1000 ∧ dx ≠ a ∧ h.get? a = some (PySem.W.instObj C dx) ∧
      ∃ mA, h.Ns1 dx mA ∧ (∀ f, RelO (fs.lookup f) (mA f)) ∧ PySem.Within mA (fs.map (·.1))
  | .own _ => ∃ o, h.get? a = some o
  | .xd fs => ∃ mA, h.Ns1 a mA ∧ ∀ f, RelO (fs.lookup f) (mA f)
  | .rng lo hi => ∃ t u v, h.get? a = some { cls := .type "range", data := .fields #[.int lo t, .int hi u, .int 1 v] }
  | .frz o u => h.get? a = some o ∧ ObjOk H h a u
  | .tbl ps => h.get? a = some { cls := .none, data := .fields ps }
  | .met f x => h.get? a = some (PySem.W.methodObj (.ref f) (.ref x))
  | .ext φ => φ h ∧ (∃ o, h.get? a = some o) ∧ ∀ h1 h2 : Heap, φ h1 → (∀ o, h1.get? a = some o → h2.get? a = some o) → φ h2
def HOk (H : Hp) (h : Heap) : Prop := ∀ a o, H a = some o → ObjOk P w H h a o
end
section
variable {P : Program} {w : World} {H H' : Hp} {h h' : Heap} {a : Addr} {o : HO}
theorem ObjOk.lt (x : ObjOk P w H h a o) : a < h.objs.size := by
  cases o with
  | lst xs => obtain ⟨_, _, _, _, e⟩ := x; exact Heap.lt_size e
  | tup xs => obtain ⟨_, _, _, p⟩ := x; exact p.lt
  | dK kvs => obtain ⟨_, _, _, _, o, _, _, e, _⟩ := x; exact Heap.lt_size e
  | dT kvs => obtain ⟨_, _, _, _, o, _, _, e, _⟩ := x; exact Heap.lt_size e
  | set S n => obtain ⟨o, _, _, _, e, _⟩ := x; exact Heap.lt_size e
  | ins C dx fs => obtain ⟨_, _, _, e, _⟩ := x; exact Heap.lt_size e
  | own y => obtain ⟨_, e⟩ := x; exact Heap.lt_size e
  | xd fs => obtain ⟨_, ⟨_, _, _, e, _⟩, _⟩ := x; exact Heap.lt_size e
  | rng lo hi => obtain ⟨_, _, _, e⟩ := x; exact Heap.lt_size e
  | frz ob u => obtain ⟨e, _⟩ := x; exact Heap.lt_size e
  | tbl ps => exact Heap.lt_size (show h.get? a = some _ from x)
  | met f y => exact Heap.lt_size (show h.get? a = some _ from x)
  | ext φ => obtain ⟨_, ⟨_, e⟩, _⟩ := x; exact Heap.lt_size e
theorem Paired.mapP {α β : Type} {F G : α → β → Prop} : ∀ {l₁ : List α} {l₂ : List β}, Paired F l₁ l₂ → (∀ a b, F a b → G a b) → Paired G l₁ l₂
  | _, _, .nil, _ => .nil
  | _, _, .cons r t, f => .cons (f _ _ r) (Paired.mapP t f)
theorem ObjOk.stay (x : ObjOk P w H h a o) (k : ∀ b u, (b = a ∨ H b = some (.own a)) → h.get? b = some u → h'.get? b = some u)
    (ho : ∀ b, H b = some (.own a) → H' b = some (.own a)) (ht : ∀ b xs, H b = some (.tup xs) → H' b = some (.tup xs)) : ObjOk P w H' h' a o := by
  induction o with
  | lst xs => obtain ⟨z, its, n, r, e⟩ := x; exact ⟨z, its, n, r, k _ _ (.inl rfl) e⟩
  | tup xs => obtain ⟨z, its, r, ob, e, c⟩ := x; exact ⟨z, its, r, ob, k _ _ (.inl rfl) e, c⟩
  | dK kvs => obtain ⟨z, y, vs, r, ob, es, ep, e, c⟩ := x; exact ⟨z, y, vs, r, ob, es, ep, k _ _ (.inl rfl) e, c⟩
  | dT kvs =>
    obtain ⟨z, y, xs, r, ob, es, ep, e, c⟩ := x
    exact ⟨z, y, xs, Paired.mapP r fun p q z => ⟨z.1, ht _ _ z.2.1, z.2.2⟩, ob, es, ep, k _ _ (.inl rfl) e, c⟩
  | set S n => obtain ⟨ob, es, ep, t, e, c⟩ := x; exact ⟨ob, es, ep, t, k _ _ (.inl rfl) e, c⟩
  | ins C dx fs =>
    obtain ⟨d, z, ne, e, mA, ⟨od, es, ep, e2, c⟩, r⟩ := x
    exact ⟨ho _ d, z, ne, k _ _ (.inl rfl) e, mA, ⟨od, es, ep, k _ _ (.inr d) e2, c⟩, r⟩
  | own y => obtain ⟨ob, e⟩ := x; exact ⟨ob, k _ _ (.inl rfl) e⟩
  | xd fs => obtain ⟨mA, ⟨od, es, ep, e, c⟩, r⟩ := x; exact ⟨mA, ⟨od, es, ep, k _ _ (.inl rfl) e, c⟩, r⟩
  | rng lo hi => obtain ⟨t, u, v, e⟩ := x; exact ⟨t, u, v, k _ _ (.inl rfl) e⟩
  | frz ob u ih => obtain ⟨e, q⟩ := x; exact ⟨k _ _ (.inl rfl) e, ih q⟩
  | tbl ps =>
    have e : h.get? a = some { cls := .none, data := .fields ps } := x
    show h'.get? a = some { cls := .none, data := .fields ps }
    exact k a _ (.inl rfl) e
  | met f y =>
    have e : h.get? a = some (PySem.W.methodObj (.ref f) (.ref y)) := x
    show h'.get? a = some (PySem.W.methodObj (.ref f) (.ref y))
    exact k a _ (.inl rfl) e
  | ext φ => obtain ⟨p, ⟨o, e⟩, st⟩ := x; exact ⟨st _ _ p fun o q => k _ _ (.inl rfl) q, ⟨o, k _ _ (.inl rfl) e⟩, st⟩
theorem HOk.lt (x : HOk P w H h) (e : H a = some o) : a < h.objs.size := (x a o e).lt
theorem HOk.fresh (x : HOk P w H h) (e : h.objs.size ≤ a) : H a = none := by
  cases q : H a with
  | none => rfl
  | some u => exact absurd (Nat.lt_of_lt_of_le (x.lt q) e) (Nat.lt_irrefl _)
theorem HOk.kept (x : HOk P w H h) (k : ∀ b u, h.get? b = some u → h'.get? b = some u) : HOk P w H h' := fun a o e =>
  (x a o e).stay (fun b u _ q => k b u q) (fun _ q => q) fun _ _ q => q
theorem HOk.laid (x : HOk P w H h) (k : ∀ b u, h.get? b = some u → h'.get? b = some u) (hp : h.objs.size ≤ a) (new : ObjOk P w (upd H a o) h' a o) : HOk P w (upd H a o) h' := fun b u e => by
  have hn := x.fresh hp
  by_cases hb : b = a
  · subst hb; rw [upd_same] at e; cases e; exact new
  · rw [upd_ne hb] at e
    exact (x b u e).stay (fun c v _ q => k c v q) (fun c q => by rw [upd_ne (ne_of_none q hn)]; exact q) fun c xs q => by rw [upd_ne (ne_of_none q hn)]; exact q
end
def Rd (H : Hp) (a : Addr) (u : HO) : Prop := H a = some u ∨ ∃ o, H a = some (.frz o u)
theorem Rd.ok {P : Program} {w : World} {H : Hp} {h : Heap} {a : Addr} {u : HO} (r : Rd H a u) (x : HOk P w H h) : ObjOk P w H h a u := by
  rcases r with r | ⟨o, r⟩
  · exact x a u r
  · obtain ⟨_, q⟩ := x a _ r
    exact q
def Mut : Option HO → Prop
  | some (.lst _) => True
  | some (.dK _) => True
  | some (.dT _) => True
  | some (.set _ _) => True
  | some (.ins _ _ _) => True
  | some (.ext _) => True
  | _ => False
section
variable {P : Program} {w : World} {H : Hp} {h h' : Heap} {x e : Addr} {o' : HO}
theorem HOk.write (ok : HOk P w H h) (mu : Mut (H x)) (he : e = x ∨ H e = some (.own x)) (k : ∀ b u, b ≠ e → h.get? b = some u → h'.get? b = some u) (heo : ∃ u, h'.get? e = some u)
    (new : ObjOk P w (upd H x o') h' x o') : HOk P w (upd H x o') h' := fun b u q => by
  have nown : ∀ c y, H c = some (.own y) → c ≠ x := fun c y r z => by subst z; rw [r] at mu; exact mu
  have ntup : ∀ c xs, H c = some (.tup xs) → c ≠ x := fun c xs r z => by subst z; rw [r] at mu; exact mu
  by_cases hb : b = x
  · subst hb; rw [upd_same] at q; cases q; exact new
  · rw [upd_ne hb] at q
    by_cases hbe : b = e
    · have q' : H b = some (.own x) := by
        rcases he with z | z
        · exact absurd (hbe.trans z) hb
        · rw [hbe]; exact z
      rw [q] at q'; cases q'
      obtain ⟨v, hv⟩ := heo
      exact ⟨v, by rw [hbe]; exact hv⟩
    · refine (ok b u q).stay (fun c v hc r => k c v ?_ r) (fun c r => by rw [upd_ne (nown c b r)]; exact r) fun c xs r => by rw [upd_ne (ntup c xs r)]; exact r
      rcases hc with rfl | hc
      · exact hbe
      · rintro rfl
        rcases he with z | z
        · exact nown c b hc z
        · rw [hc] at z; cases z; exact hb rfl
end
structure Un (fs ex : List Addr) (H H' : Hp) (h h' : Heap) : Prop where
  keep : ∀ b o, h.get? b = some o → H b = none → b ∉ fs → b ∉ ex → h'.get? b = some o
  slot : ∀ b o, h.get? b = some o → H b = none → b ∈ fs → b ∉ ex → ∃ sl, h'.get? b = some { o with slots := sl }
  free : ∀ b o, h.get? b = some o → H b = none → b ∉ ex → H' b = none
  there : ∀ b o, h.get? b = some o → b ∉ ex → ∃ o', h'.get? b = some o'
  tups : ∀ b xs, H b = some (.tup xs) → H' b = some (.tup xs)
  frzs : ∀ b o u, H b = some (.frz o u) → H' b = some (.frz o u)
  tbls : ∀ b ps, H b = some (.tbl ps) → ∃ more, H' b = some (.tbl (ps ++ more))
section
variable {fs fs' ex ex' : List Addr} {H H1 H2 : Hp} {h h1 h2 h' : Heap} {a x e : Addr} {o : HO}
theorem Un.any (u : Un fs ex H H1 h h1) {b : Addr} {ob : Obj} (q : h.get? b = some ob) (n : H b = none) (hx : b ∉ ex) : ∃ sl, h1.get? b = some { ob with slots := sl } := by
  by_cases hb : b ∈ fs
  · exact u.slot b ob q n hb hx
  · exact ⟨ob.slots, u.keep b ob q n hb hx⟩
theorem Un.kept (k : ∀ b u, h.get? b = some u → h'.get? b = some u) : Un fs ex H H h h' :=
  ⟨fun b ob q _ _ _ => k b ob q, fun b ob q _ _ _ => ⟨ob.slots, k b ob q⟩, fun _ _ _ n _ => n, fun b ob q _ => ⟨ob, k b ob q⟩, fun _ _ q => q, fun _ _ _ q => q, fun _ ps q => ⟨#[], by rw [q]; simp⟩⟩
theorem Un.refl : Un fs ex H H h h := Un.kept fun _ _ q => q
theorem Un.laid (k : ∀ b u, h.get? b = some u → h'.get? b = some u) (hp : h.objs.size ≤ a) (hn : H a = none) : Un fs ex H (upd H a o) h h' where
  keep := fun b u q _ _ _ => k b u q
  slot := fun b u q _ _ _ => ⟨u.slots, k b u q⟩
  free := fun b u q n _ => by rw [upd_ne (Nat.ne_of_lt (Nat.lt_of_lt_of_le (Heap.lt_size q) hp))]; exact n
  there := fun b u q _ => ⟨u, k b u q⟩
  tups := fun b xs q => by rw [upd_ne (ne_of_none q hn)]; exact q
  frzs := fun b u xs q => by rw [upd_ne (ne_of_none q hn)]; exact q
  tbls := fun b ps q => ⟨#[], by rw [upd_ne (ne_of_none q hn), q]; simp⟩
theorem Un.write (mu : Mut (H x)) (he : e = x ∨ H e = some (.own x)) (k : ∀ b u, b ≠ e → h.get? b = some u → h'.get? b = some u) (heo : ∃ u, h'.get? e = some u) : Un fs ex H (upd H x o) h h' := by
  have hx : ∀ b, H b = none → b ≠ x := fun b n z => by subst z; rw [n] at mu; exact mu
  have hb : ∀ b, H b = none → b ≠ e := fun b n z => by
    subst z
    rcases he with r | r
    · exact hx b n r
    · rw [n] at r; cases r
  have hm : ∀ b u, H b = some u → ¬ Mut (some u) → b ≠ x := fun b u q nm z => by subst z; rw [q] at mu; exact nm mu
  refine ⟨fun b u q n _ _ => k b u (hb b n) q, fun b u q n _ _ => ⟨u.slots, k b u (hb b n) q⟩, fun b u q n _ => by rw [upd_ne (hx b n)]; exact n, fun b u q _ => ?_,
    fun b xs q => by rw [upd_ne (hm b _ q fun z => z)]; exact q, fun b u xs q => by rw [upd_ne (hm b _ q fun z => z)]; exact q, fun b ps q => ⟨#[], by rw [upd_ne (hm b _ q fun z => z), q]; simp⟩⟩
  by_cases hbe : b = e
  · subst hbe; exact heo
  · exact ⟨u, k b u hbe q⟩
end
def trk (h : Heap) (H : Hp) : List Addr := (List.range h.objs.size).filter fun a => (H a).isSome
def hidT (h : Heap) (H : Hp) : Heap := PySem.W.hideAll h (trk h H)
theorem hidT_size (h : Heap) (H : Hp) : (hidT h H).objs.size = h.objs.size := PySem.W.hideAll_size _ _
theorem hidT_get {h : Heap} {H : Hp} {b : Addr} {o : Obj} (e : h.get? b = some o) (n : H b = none) : (hidT h H).get? b = some o :=
  PySem.W.hideAll_get _ e fun hm => by
    have q : (H b).isSome = true := (List.mem_filter.mp hm).2
    rw [n] at q; simp at q
theorem of_hidT {h : Heap} {H : Hp} {b : Addr} {o : Obj} (e : (hidT h H).get? b = some o) : h.get? b = some o ∧ H b = none := by
  have e' : h.get? b = some o := PySem.W.of_hideAll (trk h H) e
  refine ⟨e', ?_⟩
  cases q : H b with
  | none => rfl
  | some x =>
    have hm : b ∈ trk h H := List.mem_filter.mpr ⟨List.mem_range.mpr (Heap.lt_size e'), by simp [q]⟩
    have z : (hidT h H).get? b = none := PySem.W.hideAll_none (trk h H) hm
    rw [z] at e; cases e
def allNews (g h : Heap) (L : Addr) : List (Addr × Obj) := (List.range h.objs.size).filterMap fun a => if a = L ∨ (g.get? a).isSome = true then none else (h.get? a).map fun o => (a, o)
def rest (g h : Heap) (L d : Addr) : List (Addr × Obj) := (allNews g h L).filter fun p => decide (p.1 ≠ d)
end L2
namespace L2
open PySem PySem.Spec PyProof.Rows
structure Mod (K : PySem.W.Frag) (mg : Str → Option Value) (base : Heap) : Prop where
  kin : K.In base
  glob : base.Ns mainGlobals mg
  blt : ∃ mb, base.Ns builtinsNs mb ∧ ∀ x : Str, x ≠ "__name__" → mb x = bootBuiltins x
  nolimit : base.NoLimit
structure Cx where
  prog : Program
  w : World
  K : PySem.W.Frag
  mg : Str → Option Value
  base : Heap
  A : Around
  N : List Str
  s₀ : Shared
  H₀ : Hp
  env : Env
  outer : List Env
  stack : List Env
  ex : List Addr
  fn : Str → Bool
  calm : Bool
  pn : List (Addr × Obj)
  xe : Value → Shared → Prop
def frs (l : List Env) : List Addr := l.filterMap (·.frame)
abbrev Cx.fs (X : Cx) : List Addr := frs X.outer
def Vis (sc : Scope) (x : Str) : Prop := sc.names.lookup x = some .local ∨ sc.names.lookup x = some .cell ∨ sc.names.lookup x = some .free
def Loc (sc : Scope) (x : Str) : Prop := sc.names.lookup x = some .local ∨ sc.names.lookup x = some .cell
def Look (env : Env) (h : Heap) (m : Str → Option Value) (x : Str) (u : Value) : Prop :=
  (env.kindOf x = some .local ∧ m x = some u) ∨ ((env.kindOf x = some .cell ∨ env.kindOf x = some .free) ∧ ∃ c, env.cells.lookup x = some c ∧ h.IsCell c (some u))
structure Cx.Ok (X : Cx) : Prop where
  mod : Mod X.K X.mg X.base
  kind : X.env.scope.kind = .function
  glob : X.env.globals = mainGlobals
  blt : X.env.builtins = builtinsNs
  above : X.s₀.heap.objs.size ≤ X.env.locals
  inj : ∀ x y c, X.env.cells.lookup x = some c → X.env.cells.lookup y = some c → x = y
  has : ∀ x, (X.env.kindOf x = some .cell ∨ X.env.kindOf x = some .free) → ∃ c, X.env.cells.lookup x = some c
  cab : ∀ x c, X.fn x = true → X.env.cells.lookup x = some c → X.s₀.heap.objs.size ≤ c
  hd : X.calm = true → X.A.handled = none
  frames : X.A.frames = some X.stack
  stk : X.stack = X.outer ∨ (X.stack = X.env :: X.outer ∧ X.env.frame = some X.env.locals)
  exf : ∀ b ∈ X.ex, b ≠ X.env.locals ∧ ∀ x c, X.env.cells.lookup x = some c → c ≠ b
  bs : ∀ b o, X.base.get? b = some o → X.s₀.heap.get? b = some o ∧ X.H₀ b = none
  bsz : X.base.objs.size ≤ X.s₀.heap.objs.size
  noex : ∀ b o, X.base.get? b = some o → b ∉ X.ex
  exfs : ∀ b ∈ X.ex, b ∉ X.fs
  funs : X.s₀.heap.FunFrames X.base X.outer
  frf : ∀ b ∈ X.fs, X.H₀ b = none
structure Inv (X : Cx) (pins : List (Addr × Obj)) (σ : List (Option V)) (H : Hp) (s : Shared) : Prop where
  ok : X.Ok
  os : s.os = X.s₀.os
  bare : AllBare s.gens
  base : Un X.fs X.ex X.H₀ H X.s₀.heap s.heap
  loc : ∃ m, s.heap.Ns X.env.locals m ∧ ∀ (i : Nat) (x : Str) (v : V), X.N[i]? = some x → σ[i]? = some (some v) → Vis X.env.scope x → ∃ u, RelV v u ∧ Look X.env s.heap m x u
  cell : ∀ x c, X.env.cells.lookup x = some c → ∃ v, s.heap.IsCell c v
  free : H X.env.locals = none
  freeC : ∀ x c, X.env.cells.lookup x = some c → H c = none
  pin : ∀ p ∈ X.pn ++ pins, s.heap.get? p.1 = some p.2 ∧ H p.1 = none ∧ p.1 ≠ X.env.locals ∧ p.1 ∉ X.fs ∧ ∀ v, p.2.data ≠ .cell v
  hok : HOk X.prog X.w H s.heap
  len : σ.length = X.N.length
section
variable {X : Cx} {pins : List (Addr × Obj)} {σ : List (Option V)} {H H' : Hp} {s : Shared} {h' : Heap}
theorem Cx.Ok.nofr (ok : X.Ok) {b : Addr} {o : Obj} (e : X.base.get? b = some o) : b ∉ X.fs := fun hb => by
  have := (ok.funs.mem hb).1
  rw [e] at this; cases this
theorem Inv.bs (I : Inv X pins σ H s) : ∀ b o, X.base.get? b = some o → s.heap.get? b = some o ∧ H b = none := fun b o e =>
  ⟨I.base.keep b o (I.ok.bs b o e).1 (I.ok.bs b o e).2 (I.ok.nofr e) (I.ok.noex b o e), I.base.free b o (I.ok.bs b o e).1 (I.ok.bs b o e).2 (I.ok.noex b o e)⟩
theorem Inv.bk (I : Inv X pins σ H s) : ∀ b o, X.base.get? b = some o → s.heap.get? b = some o := fun b o e => (I.bs b o e).1
theorem Inv.mod (I : Inv X pins σ H s) : Mod X.K X.mg X.base := I.ok.mod
theorem Inv.kIn (I : Inv X pins σ H s) : X.K.In s.heap := I.ok.mod.kin.keeps I.bk
theorem Inv.lt (I : Inv X pins σ H s) : X.env.locals < s.heap.objs.size := let ⟨_, hn, _⟩ := I.loc; hn.lt
theorem Inv.sz (I : Inv X pins σ H s) : X.s₀.heap.objs.size ≤ s.heap.objs.size := Nat.le_trans I.ok.above (Nat.le_of_lt I.lt)
theorem Inv.nofs (I : Inv X pins σ H s) {a : Addr} (h : s.heap.objs.size ≤ a) : a ∉ X.fs := fun hb => by
  obtain ⟨_, o, ho, _⟩ := I.ok.funs.mem hb
  exact absurd (Nat.lt_of_lt_of_le (Heap.lt_size ho) (Nat.le_trans I.sz h)) (Nat.lt_irrefl _)
theorem Inv.cne (I : Inv X pins σ H s) : ∀ x c, X.env.cells.lookup x = some c → c ≠ X.env.locals := fun x c e z => by
  obtain ⟨v, o, ho, hd⟩ := I.cell x c e
  obtain ⟨m, ⟨o', es, ep, ho', hd', _⟩, _⟩ := I.loc
  rw [z, ho'] at ho; cases ho; rw [hd'] at hd; cases hd
theorem Inv.funs (I : Inv X pins σ H s) : s.heap.FunFrames X.base X.outer := by
  have all : ∀ (l : List Env), (∀ b ∈ frs l, b ∈ X.fs) → X.s₀.heap.FunFrames X.base l → s.heap.FunFrames X.base l := by
    intro l
    induction l with
    | nil => intro _ _; trivial
    | cons env r ih =>
      intro hs hl
      obtain ⟨hk, ⟨L, o, hf, hn, ho, hd⟩, hr⟩ := hl
      have hL : L ∈ X.fs := hs L (by unfold frs; rw [List.filterMap_cons, hf]; exact List.mem_cons_self)
      obtain ⟨sl, e⟩ := I.base.slot L o ho (I.ok.frf L hL) hL fun z => I.ok.exfs L z hL
      exact ⟨hk, ⟨L, _, hf, hn, e, hd⟩, ih (fun b hb => hs b (by unfold frs; rw [List.filterMap_cons, hf]; exact List.mem_cons_of_mem _ hb)) hr⟩
  exact all X.outer (fun _ hb => hb) I.ok.funs
theorem Inv.stack (I : Inv X pins σ H s) : s.heap.FunFrames X.base X.stack := by
  rcases I.ok.stk with e | ⟨e, hf⟩
  · rw [e]; exact I.funs
  · rw [e]
    obtain ⟨m, hn, _⟩ := I.loc
    refine .cons (by rw [I.ok.kind]; decide) hf hn ?_ I.funs
    exact Heap.get?_none_of_le (Nat.le_trans I.ok.bsz I.ok.above)
theorem Inv.stkSub (I : Inv X pins σ H s) : ∀ b ∈ frs X.stack, b ∈ X.env.locals :: X.fs := fun b hb => by
  rcases I.ok.stk with e | ⟨e, hf⟩
  · rw [e] at hb; exact List.mem_cons_of_mem _ hb
  · rw [e] at hb
    unfold frs at hb
    rw [List.filterMap_cons, hf] at hb
    exact hb
theorem Inv.stkFree (I : Inv X pins σ H s) : ∀ b ∈ frs X.stack, H b = none := fun b hb => by
  rcases List.mem_cons.mp (I.stkSub b hb) with e | hb
  · rw [e]; exact I.free
  · obtain ⟨_, o, ho, _⟩ := I.ok.funs.mem hb
    exact I.base.free b o ho (I.ok.frf b hb) fun z => I.ok.exfs b z hb
theorem Inv.step {g' : Array GenState} {t' : Nat} {d' : Drawn} {ch : List Addr} (I : Inv X pins σ H s)
    (hch : ∀ b ∈ ch, (b ∈ X.ex ∨ X.s₀.heap.objs.size ≤ b) ∧ b ≠ X.env.locals ∧ (∀ x c, X.env.cells.lookup x = some c → c ≠ b) ∧ ∀ p ∈ X.pn ++ pins, p.1 ≠ b)
    (keep : ∀ b o, b ≠ X.env.locals → b ∉ X.fs → b ∉ ch → s.heap.get? b = some o → H b = none → h'.get? b = some o)
    (slot : ∀ b o, b ≠ X.env.locals → b ∈ X.fs → b ∉ ch → s.heap.get? b = some o → H b = none → ∃ sl, h'.get? b = some { o with slots := sl }) (free : ∀ b o, b ∉ ch → s.heap.get? b = some o → H b = none → H' b = none)
    (there : ∀ b o, b ∉ ch → s.heap.get? b = some o → ∃ o', h'.get? b = some o')
    (tups : ∀ b xs, H b = some (.tup xs) → H' b = some (.tup xs)) (frzs : ∀ b o u, H b = some (.frz o u) → H' b = some (.frz o u)) (tbls : ∀ b ps, H b = some (.tbl ps) → ∃ more, H' b = some (.tbl (ps ++ more)))
    (ns : ∀ m, s.heap.Ns X.env.locals m → h'.Ns X.env.locals m) (hok : HOk X.prog X.w H' h') (hg : AllBare g') :
    Inv X pins σ H' { s with heap := h', gens := g', drawn := d', toks := t' } := by
  have neL : ∀ b o, X.s₀.heap.get? b = some o → b ≠ X.env.locals := fun b o e => Nat.ne_of_lt (Nat.lt_of_lt_of_le (Heap.lt_size e) I.ok.above)
  have neC : ∀ b o, X.s₀.heap.get? b = some o → b ∉ X.ex → b ∉ ch := fun b o e hx hb => by
    rcases (hch b hb).1 with z | z
    · exact hx z
    · exact absurd (Nat.lt_of_lt_of_le (Heap.lt_size e) z) (Nat.lt_irrefl _)
  have cellK : ∀ x c, X.env.cells.lookup x = some c → ∀ v, s.heap.IsCell c v → h'.IsCell c v := fun x c e v ⟨o, ho, hd⟩ => by
    have nch : c ∉ ch := fun z => (hch c z).2.2.1 x c e rfl
    by_cases hc : c ∈ X.fs
    · obtain ⟨sl, q⟩ := slot c o (I.cne x c e) hc nch ho (I.freeC x c e)
      exact ⟨_, q, hd⟩
    · exact ⟨o, keep c o (I.cne x c e) hc nch ho (I.freeC x c e), hd⟩
  refine ⟨I.ok, I.os, hg, ⟨fun b o e n hb hx => ?_, fun b o e n hb hx => ?_, fun b o e n hx => ?_, fun b o e hx => ?_, fun b xs e => tups b xs (I.base.tups b xs e), fun b o xs e => frzs b o xs (I.base.frzs b o xs e), fun b ps e => ?_⟩, ?_, fun x c e => ?_, ?_, fun x c e => ?_, fun p hp => ?_, hok, I.len⟩
  · exact keep b o (neL b o e) hb (neC b o e hx) (I.base.keep b o e n hb hx) (I.base.free b o e n hx)
  · obtain ⟨sl, e1⟩ := I.base.slot b o e n hb hx
    obtain ⟨sl', e2⟩ := slot b _ (neL b o e) hb (neC b o e hx) e1 (I.base.free b o e n hx)
    exact ⟨sl', e2⟩
  · obtain ⟨o', e1⟩ := I.base.there b o e hx
    exact free b o' (neC b o e hx) e1 (I.base.free b o e n hx)
  · obtain ⟨o', e1⟩ := I.base.there b o e hx
    exact there b o' (neC b o e hx) e1
  · obtain ⟨m1, e1⟩ := I.base.tbls b ps e
    obtain ⟨m2, e2⟩ := tbls b _ e1
    exact ⟨m1 ++ m2, by rw [e2, Array.append_assoc]⟩
  · obtain ⟨m, hn, hl⟩ := I.loc
    refine ⟨m, ns m hn, fun i x v e1 e2 e3 => ?_⟩
    obtain ⟨u, r, l⟩ := hl i x v e1 e2 e3
    refine ⟨u, r, ?_⟩
    rcases l with l | ⟨k, c, e, z⟩
    · exact .inl l
    · exact .inr ⟨k, c, e, cellK x c e _ z⟩
  · obtain ⟨v, z⟩ := I.cell x c e
    exact ⟨v, cellK x c e v z⟩
  · obtain ⟨m, ⟨o, _, _, ho, _⟩, _⟩ := I.loc
    exact free _ o (fun z => (hch _ z).2.1 rfl) ho I.free
  · obtain ⟨v, o, ho, hd⟩ := I.cell x c e
    exact free c o (fun z => (hch c z).2.2.1 x c e rfl) ho (I.freeC x c e)
  · obtain ⟨e, n, ne, nf, d⟩ := I.pin p hp
    have nch : p.1 ∉ ch := fun z => (hch p.1 z).2.2.2 p hp rfl
    exact ⟨keep p.1 p.2 ne nf nch e n, free p.1 p.2 nch e n, ne, nf, d⟩
theorem Inv.un {t' : Nat} (I : Inv X pins σ H s) (u : Un X.fs [] H H' s.heap h') (hok : HOk X.prog X.w H' h') : Inv X pins σ H' { s with heap := h', toks := t' } := by
  obtain ⟨m, ⟨o, es, ep, ho, r⟩, _⟩ := id I.loc
  obtain ⟨sl, hL⟩ := u.any ho I.free (by simp)
  exact I.step (g' := s.gens) (d' := s.drawn) (ch := []) (fun _ z => nomatch z) (fun b o _ hb _ e n => u.keep b o e n hb (by simp)) (fun b o _ hb _ e n => u.slot b o e n hb (by simp)) (fun b o _ e n => u.free b o e n (by simp)) (fun b o _ e => u.there b o e (by simp)) u.tups u.frzs u.tbls (fun m' hm => by
    obtain ⟨o', es', ep', ho', r'⟩ := hm
    rw [ho] at ho'; cases ho'
    exact ⟨_, es', ep', hL, r'⟩) hok I.bare
theorem Inv.call {g' : Array GenState} {t' : Nat} {d' : Drawn} {ch : List Addr} (I : Inv X pins σ H s) (u : Un (frs X.stack) ch H H' s.heap h') (hok : HOk X.prog X.w H' h') (hg : AllBare g')
    (hch : ∀ b ∈ ch, (b ∈ X.ex ∨ X.s₀.heap.objs.size ≤ b) ∧ b ≠ X.env.locals ∧ (∀ x c, X.env.cells.lookup x = some c → c ≠ b) ∧ ∀ p ∈ X.pn ++ pins, p.1 ≠ b) :
    Inv X pins σ H' { s with heap := h', gens := g', drawn := d', toks := t' } := by
  obtain ⟨m, ⟨o, es, ep, ho, r⟩, _⟩ := id I.loc
  obtain ⟨sl, hL⟩ := u.any ho I.free fun z => (hch _ z).2.1 rfl
  exact I.step (ch := ch) hch (fun b o hL hb hc e n => u.keep b o e n (fun z => (List.mem_cons.mp (I.stkSub b z)).elim hL hb) hc) (fun b o _ _ hc e n => u.any e n hc) (fun b o hc e n => u.free b o e n hc) (fun b o hc e => u.there b o e hc) u.tups u.frzs u.tbls (fun m' hm => by
    obtain ⟨o', es', ep', ho', r'⟩ := hm
    rw [ho] at ho'; cases ho'
    exact ⟨_, es', ep', hL, r'⟩) hok hg
theorem Inv.turned {t' : Nat} {it : Addr} (I : Inv X pins σ H s) (k : ∀ b o, b ≠ it → s.heap.get? b = some o → h'.get? b = some o) (hn : H it = none) (hL : it ≠ X.env.locals)
    (h1 : it ∈ X.ex ∨ X.s₀.heap.objs.size ≤ it) (h2 : ∀ x c, X.env.cells.lookup x = some c → c ≠ it) (h3 : ∀ p ∈ X.pn ++ pins, p.1 ≠ it) : Inv X pins σ H { s with heap := h', toks := t' } := by
  have nit : ∀ b u, H b = some u → b ≠ it := fun b u e z => by rw [z, hn] at e; cases e
  refine I.step (g' := s.gens) (d' := s.drawn) (ch := [it]) (fun b hb => ?_) (fun b o _ _ hc e _ => k b o (fun z => hc (by simp [z])) e) (fun b o _ _ hc e _ => ⟨o.slots, k b o (fun z => hc (by simp [z])) e⟩) (fun _ _ _ _ n => n)
    (fun b o hc e => ⟨o, k b o (fun z => hc (by simp [z])) e⟩) (fun _ _ e => e) (fun _ _ _ e => e) (fun b ps e => ⟨#[], by rw [e]; simp⟩) (fun m hm => ?_) (fun b u e => ?_) I.bare
  · have e : b = it := by simpa using hb
    subst e
    exact ⟨h1, hL, h2, h3⟩
  · obtain ⟨o, es, ep, ho, r⟩ := hm
    exact ⟨o, es, ep, k _ o (Ne.symm hL) ho, r⟩
  · refine (I.hok b u e).stay (fun c v hc q => k c v ?_ q) (fun _ q => q) fun _ _ q => q
    rcases hc with z | z
    · rw [z]; exact nit b u e
    · exact nit c _ z
theorem Inv.tok (I : Inv X pins σ H s) (t : Nat) : Inv X pins σ H { s with toks := t } := I.un (h' := s.heap) (t' := t) Un.refl I.hok
theorem Inv.kept {t' : Nat} (I : Inv X pins σ H s) (k : ∀ b u, s.heap.get? b = some u → h'.get? b = some u) : Inv X pins σ H { s with heap := h', toks := t' } := I.un (Un.kept k) (I.hok.kept k)
theorem Inv.laid {a : Addr} {o : HO} {t' : Nat} (I : Inv X pins σ H s) (k : ∀ b u, s.heap.get? b = some u → h'.get? b = some u) (hp : s.heap.objs.size ≤ a) (new : ObjOk X.prog X.w (upd H a o) h' a o) :
    Inv X pins σ (upd H a o) { s with heap := h', toks := t' } := I.un (Un.laid k hp (I.hok.fresh hp)) (I.hok.laid k hp new)
theorem Inv.write {x e : Addr} {o : HO} {t' : Nat} (I : Inv X pins σ H s) (mu : Mut (H x)) (he : e = x ∨ H e = some (.own x)) (k : ∀ b u, b ≠ e → s.heap.get? b = some u → h'.get? b = some u) (heo : ∃ u, h'.get? e = some u)
    (new : ObjOk X.prog X.w (upd H x o) h' x o) : Inv X pins σ (upd H x o) { s with heap := h', toks := t' } := I.un (Un.write mu he k heo) (I.hok.write mu he k heo new)
theorem Inv.pins_of {pins' : List (Addr × Obj)} (I : Inv X pins σ H s) (h : ∀ p ∈ pins', s.heap.get? p.1 = some p.2 ∧ H p.1 = none ∧ p.1 ≠ X.env.locals ∧ p.1 ∉ X.fs ∧ ∀ v, p.2.data ≠ .cell v) : Inv X pins' σ H s :=
  ⟨I.ok, I.os, I.bare, I.base, I.loc, I.cell, I.free, I.freeC, fun p hp => (List.mem_append.mp hp).elim (fun z => I.pin p (List.mem_append_left _ z)) (h p), I.hok, I.len⟩
theorem nodup_ix {N : List Str} (hN : N.Nodup) {i j : Nat} {x : Str} (a : N[i]? = some x) (b : N[j]? = some x) : i = j := by
  obtain ⟨h1, e1⟩ := List.getElem?_eq_some_iff.mp a
  obtain ⟨h2, e2⟩ := List.getElem?_eq_some_iff.mp b
  exact (List.getElem_inj hN).mp (e1.trans e2.symm)
theorem store_ok2 {M : Model} {A : Around} {E : Value → Shared → Prop} {i : Nat} {x : Str} {v : V} {u : Value} {Q : Unit → Shared → Prop} (I : Inv X pins σ H s) (hN : X.N.Nodup) (hi : X.N[i]? = some x) (hx : Loc X.env.scope x) (r : RelV v u)
    (h : ∀ s', Inv X pins (σ.set i (some v)) H s' → (∃ a, Heap.SameBut a s.heap s'.heap ∧ (a = X.env.locals ∨ X.env.cells.lookup x = some a)) → Q () s') (hf : X.fn x = true ∨ X.env.scope.names.lookup x = some .local := by first | exact .inl rfl | exact .inr rfl | assumption) : wpAny M A (storeName X.env x u) Q E s := by
  obtain ⟨m, hn, hl⟩ := id I.loc
  have hcls : (X.env.scope.kind == .class || (X.env.scope.kind == .module && X.env.locals != X.env.globals)) = false := by rw [I.ok.kind]; rfl
  have hiσ : i < σ.length := by rw [I.len]; exact (List.getElem?_eq_some_iff.mp hi).1
  have cne := I.cne
  have tracked : ∀ {a : Addr} {h' : Heap}, (∃ o, s.heap.get? a = some o ∧ H a = none) → Heap.SameBut a s.heap h' → HOk X.prog X.w H h' := fun {a h'} ha hs b ob e => by
    obtain ⟨_, _, hfree⟩ := ha
    refine (I.hok b ob e).stay (fun c w' hc q => (hs.2 c ?_).trans q) (fun _ q => q) fun _ _ q => q
    rintro rfl
    rcases hc with rfl | hc
    · rw [hfree] at e; cases e
    · rw [hfree] at hc; cases hc
  rcases hx with hk | hk
  · refine wpAny_storeName_local hk hn (fun h' hn' hs => ?_) hcls
    obtain ⟨oL, _, _, hoL, _⟩ := id hn
    refine h _ ⟨I.ok, I.os, I.bare, ⟨fun b o e n hb hx => ?_, fun b o e n hb hx => ?_, I.base.free, fun b o e hx => ?_, I.base.tups, I.base.frzs, I.base.tbls⟩, ⟨_, hn', fun j y v' e1 e2 e3 => ?_⟩, fun y c e => ?_, I.free, I.freeC, fun p hp => ?_, tracked ⟨oL, hoL, I.free⟩ hs, by simpa using I.len⟩ ⟨_, hs, .inl rfl⟩
    · exact (hs.2 b (Nat.ne_of_lt (Nat.lt_of_lt_of_le (Heap.lt_size e) I.ok.above))).trans (I.base.keep b o e n hb hx)
    · obtain ⟨sl, e1⟩ := I.base.slot b o e n hb hx
      exact ⟨sl, (hs.2 b (Nat.ne_of_lt (Nat.lt_of_lt_of_le (Heap.lt_size e) I.ok.above))).trans e1⟩
    · obtain ⟨o', e1⟩ := I.base.there b o e hx
      exact ⟨o', (hs.2 b (Nat.ne_of_lt (Nat.lt_of_lt_of_le (Heap.lt_size e) I.ok.above))).trans e1⟩
    · by_cases hj : j = i
      · subst hj
        rw [hi] at e1; cases e1
        rw [List.getElem?_set_self hiσ] at e2
        cases e2
        exact ⟨u, r, .inl ⟨hk, by simp⟩⟩
      · rw [List.getElem?_set_ne (Ne.symm hj)] at e2
        obtain ⟨u', r', q⟩ := hl j y v' e1 e2 e3
        refine ⟨u', r', ?_⟩
        rcases q with ⟨k, e⟩ | ⟨k, c, e, z⟩
        · refine .inl ⟨k, ?_⟩
          have : y ≠ x := fun e => hj (nodup_ix hN e1 (e ▸ hi))
          simp [this, e]
        · exact .inr ⟨k, c, e, z.sameBut hs (cne y c e)⟩
    · obtain ⟨w', z⟩ := I.cell y c e
      exact ⟨w', z.sameBut hs (cne y c e)⟩
    · obtain ⟨e, n, ne, nf, d⟩ := I.pin p hp
      exact ⟨(hs.2 p.1 ne).trans e, n, ne, nf, d⟩
  · have hfn : X.fn x = true := by
      rcases hf with z | z
      · exact z
      · rw [z] at hk; cases hk
    obtain ⟨c, hc⟩ := I.ok.has x (.inl hk)
    obtain ⟨w', z⟩ := I.cell x c hc
    refine wpAny_storeName_cell I.ok.kind hk hc z (fun h' hc' hs => ?_)
    obtain ⟨oc, hoc, hocd⟩ := id z
    refine h { s with heap := h' } ⟨I.ok, I.os, I.bare, ⟨fun b o e n hb hx => ?_, fun b o e n hb hx => ?_, I.base.free, fun b o e hx => ?_, I.base.tups, I.base.frzs, I.base.tbls⟩, ⟨m, hn.sameBut hs (Ne.symm (cne x c hc)), fun j y v' e1 e2 e3 => ?_⟩, fun y c' e => ?_, I.free, I.freeC, fun p hp => ?_, tracked ⟨oc, hoc, I.freeC x c hc⟩ hs, by simpa using I.len⟩ ⟨c, hs, .inr hc⟩
    · exact (hs.2 b (Nat.ne_of_lt (Nat.lt_of_lt_of_le (Heap.lt_size e) (I.ok.cab x c hfn hc)))).trans (I.base.keep b o e n hb hx)
    · obtain ⟨sl, e1⟩ := I.base.slot b o e n hb hx
      exact ⟨sl, (hs.2 b (Nat.ne_of_lt (Nat.lt_of_lt_of_le (Heap.lt_size e) (I.ok.cab x c hfn hc)))).trans e1⟩
    · obtain ⟨o', e1⟩ := I.base.there b o e hx
      exact ⟨o', (hs.2 b (Nat.ne_of_lt (Nat.lt_of_lt_of_le (Heap.lt_size e) (I.ok.cab x c hfn hc)))).trans e1⟩
    · by_cases hj : j = i
      · subst hj
        rw [hi] at e1; cases e1
        rw [List.getElem?_set_self hiσ] at e2
        cases e2
        exact ⟨u, r, .inr ⟨.inl hk, c, hc, hc'⟩⟩
      · rw [List.getElem?_set_ne (Ne.symm hj)] at e2
        obtain ⟨u', r', q⟩ := hl j y v' e1 e2 e3
        refine ⟨u', r', ?_⟩
        rcases q with q | ⟨k, c', e, z'⟩
        · exact .inl q
        · refine .inr ⟨k, c', e, z'.sameBut hs ?_⟩
          rintro rfl
          exact hj (nodup_ix hN e1 (I.ok.inj _ _ _ e hc ▸ hi))
    · by_cases hcc : c' = c
      · subst hcc; exact ⟨_, hc'⟩
      · obtain ⟨w2, z2⟩ := I.cell y c' e
        exact ⟨w2, z2.sameBut hs hcc⟩
    · obtain ⟨e, n, ne, nf, d⟩ := I.pin p hp
      refine ⟨(hs.2 p.1 ?_).trans e, n, ne, nf, d⟩
      intro q
      rw [q, hoc] at e
      have q' : oc = p.2 := Option.some.inj e
      exact d w' (by rw [← q']; exact hocd)
theorem store_ok {M : Model} {A : Around} {E : Value → Shared → Prop} {i : Nat} {x : Str} {v : V} {u : Value} {Q : Unit → Shared → Prop} (I : Inv X pins σ H s) (hN : X.N.Nodup) (hi : X.N[i]? = some x) (hx : Loc X.env.scope x) (r : RelV v u)
    (h : ∀ s', Inv X pins (σ.set i (some v)) H s' → Q () s') (hf : X.fn x = true ∨ X.env.scope.names.lookup x = some .local := by first | exact .inl rfl | exact .inr rfl | assumption) : wpAny M A (storeName X.env x u) Q E s :=
  store_ok2 I hN hi hx r (fun s' I' _ => h s' I') hf
theorem Inv.call' {s' : Shared} {ch : List Addr} (I : Inv X pins σ H s) (ho : s'.os = s.os) (u : Un (frs X.stack) ch H H' s.heap s'.heap) (hok : HOk X.prog X.w H' s'.heap) (hg : AllBare s'.gens)
    (hch : ∀ b ∈ ch, (b ∈ X.ex ∨ X.s₀.heap.objs.size ≤ b) ∧ b ≠ X.env.locals ∧ (∀ x c, X.env.cells.lookup x = some c → c ≠ b) ∧ ∀ p ∈ X.pn ++ pins, p.1 ≠ b) : Inv X pins σ H' s' := by
  obtain ⟨h', g', d', t', o'⟩ := s'
  have e : o' = s.os := ho
  subst e
  exact I.call (g' := g') (t' := t') (d' := d') u hok hg hch
end
abbrev XK := Value → Option Addr → Hp → Prop
abbrev St := List (Option V)
abbrev VK := V → Hp → Prop
abbrev TE := St → Hp → VK → Prop
abbrev TT := St → Hp → (Bool → Hp → Prop) → Prop
abbrev TA := St → Hp → (List V → Hp → Prop) → Prop
structure Ends where
  nx : St → Hp → Prop
  rt : VK
  bk : St → Hp → Prop := fun _ _ => False
  ct : St → Hp → Prop := fun _ _ => False
abbrev TS := Ends → St → Hp → Prop
def EP (X : Cx) (pins : List (Addr × Obj)) (σ : St) (Q : VK) (u : Value) (s' : Shared) : Prop := ∃ v H', Inv X pins σ H' s' ∧ RelV v u ∧ Q v H'
def TP (X : Cx) (pins : List (Addr × Obj)) (σ : St) (Q : Bool → Hp → Prop) (b : Bool) (s' : Shared) : Prop := ∃ H', Inv X pins σ H' s' ∧ Q b H'
def AP (X : Cx) (pins : List (Addr × Obj)) (σ : St) (Q : List V → Hp → Prop) (us : List Value) (s' : Shared) : Prop := ∃ vs H', Inv X pins σ H' s' ∧ Vals vs us ∧ Q vs H'
def SP (X : Cx) (pins : List (Addr × Obj)) (D : Ends) (f : Flow) (s' : Shared) : Prop :=
  match f with
  | .next => ∃ σ' H', Inv X pins σ' H' s' ∧ D.nx σ' H'
  | .brk => ∃ σ' H', Inv X pins σ' H' s' ∧ D.bk σ' H'
  | .cont => ∃ σ' H', Inv X pins σ' H' s' ∧ D.ct σ' H'
  | .ret u => ∃ v σ' H', Inv X pins σ' H' s' ∧ RelV v u ∧ D.rt v H'
def PE (X : Cx) (e : Expr) (t : TE) : Prop :=
  ∀ (pins : List (Addr × Obj)) (s : Shared) (σ : St) (H : Hp) (Q : VK), Inv X pins σ H s → t σ H Q → wpAny (model X.prog X.w) X.A (eval e X.env) (EP X pins σ Q) X.xe s
def PT (X : Cx) (e : Expr) (t : TT) : Prop :=
  ∀ (pins : List (Addr × Obj)) (s : Shared) (σ : St) (H : Hp) (Q : Bool → Hp → Prop), Inv X pins σ H s → t σ H Q → wpAny (model X.prog X.w) X.A (isTrue e X.env (eval e X.env)) (TP X pins σ Q) X.xe s
def PW (X : Cx) (e : Expr) (t : TT) : Prop :=
  ∀ (whole : Sem Value) (pins : List (Addr × Obj)) (s : Shared) (σ : St) (H : Hp) (Q : Bool → Hp → Prop), Inv X pins σ H s → t σ H Q → wpAny (model X.prog X.w) X.A (isTrue e X.env whole) (TP X pins σ Q) X.xe s
theorem PW.pt {X : Cx} {e : Expr} {t : TT} (h : PW X e t) : PT X e t := h _
def PA (X : Cx) (es : List Expr) (t : TA) : Prop :=
  ∀ (pos : Pos) (pins : List (Addr × Obj)) (s : Shared) (σ : St) (H : Hp) (Q : List V → Hp → Prop), Inv X pins σ H s → t σ H Q → wpAny (model X.prog X.w) X.A (spliced (backTo pos (starEach es X.env))) (AP X pins σ Q) X.xe s
def PS (X : Cx) (st : Stmt) (t : TS) : Prop :=
  ∀ (pins : List (Addr × Obj)) (s : Shared) (σ : St) (H : Hp) (D : Ends), Inv X pins σ H s → t D σ H → wpAny (model X.prog X.w) X.A (exec st X.env) (SP X pins D) X.xe s
def PSs (X : Cx) (st : List Stmt) (t : TS) : Prop :=
  ∀ (pins : List (Addr × Obj)) (s : Shared) (σ : St) (H : Hp) (D : Ends), Inv X pins σ H s → t D σ H → wpAny (model X.prog X.w) X.A (execs st X.env) (SP X pins D) X.xe s
theorem thn {α : Type} {t : Sem α} {Q Q' : α → Shared → Prop} {M : Model} {A : Around} {E : Value → Shared → Prop} {s : Shared} (h : wpAny M A t Q E s) (hQ : ∀ a s, Q a s → Q' a s) : wpAny M A t Q' E s := wpAny_mono h hQ fun _ _ x => x
end L2
namespace L2
open PySem PySem.Spec PyProof.Rows
section
variable {X : Cx}
def tVar (i : Nat) : TE := fun σ H Q => ∃ v, σ[i]? = some (some v) ∧ Q v H
def tC (v : V) : TE := fun _ H Q => Q v H
theorem pe_var {i : Nat} {x : Str} {pos : Pos} (hN : X.N[i]? = some x) (hv : Vis X.env.scope x) (hd : (x == ("__debug__" : Str)) = false := by decide) (hcd : (x == ("__classdict__" : Str)) = false := by decide) : PE X (.Name x pos) (tVar i) := by
  intro pins s σ H Q I h
  obtain ⟨v, e, h⟩ := h
  obtain ⟨m, hn, hl⟩ := I.loc
  obtain ⟨u, r, l⟩ := hl i x v hN e hv
  have fin : EP X pins σ Q u s := ⟨v, H, I, r, h⟩
  rcases l with ⟨hk, hm⟩ | ⟨hk, c, hc, hcell⟩
  · exact wpAny_Name (wpAny_loadName_local I.ok.kind hk hn hm fin) hd
  · rcases hk with hk | hk
    · exact wpAny_Name (wpAny_loadName_cell I.ok.kind hk hc hcell fin) hd
    · exact wpAny_Name (wpAny_loadName_free I.ok.kind hk hc hcell fin hcd) hd
theorem pe_int {i j pos} : PE X (.Constant (.int i) j pos) (tC (.int i)) := fun _ _ _ H _ I h => wpAny_Constant_int ⟨.int i, H, I.tok _, ⟨_, rfl⟩, h⟩
theorem pe_bl {b j pos} : PE X (.Constant (.bool b) j pos) (tC (.bl b)) := fun _ _ _ H _ I h => Constant_bool ⟨.bl b, H, I, rfl, h⟩
theorem pe_non {j pos} : PE X (.Constant .none j pos) (tC .non) := fun _ _ _ H _ I h => Constant_none ⟨.non, H, I, rfl, h⟩
theorem pe_str {x j pos} : PE X (.Constant (.str x) j pos) (tC (.str x)) := fun _ _ _ H _ I h => Calls.Constant_str ⟨.str x, H, I.tok _, ⟨_, rfl⟩, h⟩
def Gl (X : Cx) (x : Str) : Prop := X.env.kindOf x = some .globalImplicit
theorem ld_glob {E : Value → Shared → Prop} {pins : List (Addr × Obj)} {s : Shared} {σ : St} {H : Hp} {x : Str} {u : Value} {pos : Pos} {Q : Value → Shared → Prop} (I : Inv X pins σ H s) (hg : Gl X x) (hm : X.mg x = some u) (h : Q u s)
    (hd : (x == ("__debug__" : Str)) = false := by decide) : wpAny (model X.prog X.w) X.A (eval (.Name x pos) X.env) Q E s :=
  Calls.Name_function_global I.ok.kind hg (Calls.loadGlobal_global (by rw [I.ok.glob]; exact I.mod.glob.keeps I.bk) hm h) hd
theorem ld_blt {E : Value → Shared → Prop} {pins : List (Addr × Obj)} {s : Shared} {σ : St} {H : Hp} {x : Str} {u : Value} {pos : Pos} {Q : Value → Shared → Prop} (I : Inv X pins σ H s) (hg : Gl X x) (hm : X.mg x = none) (hv : bootBuiltins x = some u) (h : Q u s)
    (hn : x ≠ "__name__" := by decide) (hd : (x == ("__debug__" : Str)) = false := by decide) : wpAny (model X.prog X.w) X.A (eval (.Name x pos) X.env) Q E s := by
  obtain ⟨mb, h1, h2⟩ := I.mod.blt
  exact Calls.Name_function_global I.ok.kind hg (Calls.loadGlobal_builtin (by rw [I.ok.glob]; exact I.mod.glob.keeps I.bk) hm (by rw [I.ok.blt]; exact h1.keeps I.bk) ((h2 x hn).trans hv) h) hd
theorem pe_glob {x : Str} {v : V} {u : Value} {pos : Pos} (hg : Gl X x) (hm : X.mg x = some u) (r : RelV v u) (hd : (x == ("__debug__" : Str)) = false := by decide) : PE X (.Name x pos) (tC v) :=
  fun _ _ _ H _ I h => ld_glob I hg hm ⟨v, H, I, r, h⟩ hd
theorem pe_bltn {x : Str} {v : V} {u : Value} {pos : Pos} (hg : Gl X x) (hm : X.mg x = none) (hv : bootBuiltins x = some u) (r : RelV v u) (hn : x ≠ "__name__" := by decide) (hd : (x == ("__debug__" : Str)) = false := by decide) : PE X (.Name x pos) (tC v) :=
  fun _ _ _ H _ I h => ld_blt I hg hm hv ⟨v, H, I, r, h⟩ hn hd
variable {a b : Expr} {ta tb : TE} {pos : Pos}
def PC (X : Cx) (op : CmpOp) (a b : Expr) (t : TE) : Prop :=
  ∀ (pins : List (Addr × Obj)) (s : Shared) (σ : St) (H : Hp) (Q : VK), Inv X pins σ H s → t σ H Q →
    wpAny (model X.prog X.w) X.A (eval a X.env) (fun v s₁ => wpAny (model X.prog X.w) X.A (eval b X.env) (fun u s₂ => wpAny (model X.prog X.w) X.A (compareOp op v u) (EP X pins σ Q) X.xe s₂) X.xe s₁) X.xe s
def tB (t : TE) : TT := fun σ H Q => t σ H fun x H1 => ∃ c, x = .bl c ∧ Q c H1
theorem pt_cmp {op : CmpOp} {t : TE} (h : PC X op a b t) (h1 : behindInMarks op b = false := by first | exact nobehind _ (by decide) (by decide) | rfl) : PT X (.Compare a [op] [b] pos) (tB t) := by
  intro pins s σ H Q I hw
  refine wpAny_isTrue_Compare1 (thn (h pins s σ H _ I hw) fun v s1 h1 => thn h1 fun u s2 h2 => thn h2 fun c s3 ⟨x, H1, I1, r1, q1⟩ => ?_) h1
  obtain ⟨d, rfl, q⟩ := q1
  cases r1
  exact wpAny_truthy_bool ⟨H1, I1, q⟩
theorem pt_val {e : Expr} {t : TE} (h : PE X e t) (he : ∀ whole, isTrue e X.env whole = (do let v ← whole; standAt e.pos; holding [v] (truthy v)) := by intro _; rfl) : PT X e (tB t) := by
  intro pins s σ H Q I hw
  refine isTrue_plain (thn (h pins s σ H _ I hw) fun v s1 ⟨x, H1, I1, r1, q1⟩ => ?_) (he _)
  obtain ⟨d, rfl, q⟩ := q1
  cases r1
  exact wpAny_truthy_bool ⟨H1, I1, q⟩
variable {tA tB' : TT} {rest : List Expr}
def tAnd (t u : TT) : TT := fun σ H Q => t σ H fun c H1 => if c = true then u σ H1 Q else Q false H1
def tOr (t u : TT) : TT := fun σ H Q => t σ H fun c H1 => if c = true then Q true H1 else u σ H1 Q
def tNot (t : TT) : TT := fun σ H Q => t σ H fun c H1 => Q (!c) H1
theorem pw_and1 (ha : PT X a tA) : PW X (.BoolOp .And [a] pos) tA := by
  intro wh pins s σ H Q I h
  refine isTrue_and (thn (ha pins s σ H Q I h) fun c s1 e => ?_)
  cases c with
  | true => exact isTrue_and_nil e
  | false => exact e
theorem pw_or1 (ha : PT X a tA) : PW X (.BoolOp .Or [a] pos) tA := by
  intro wh pins s σ H Q I h
  refine isTrue_or (thn (ha pins s σ H Q I h) fun c s1 e => ?_)
  cases c with
  | false => exact isTrue_or_nil e
  | true => exact e
theorem pw_and (ha : PT X a tA) (hb : PW X (.BoolOp .And (b :: rest) pos) tB') : PW X (.BoolOp .And (a :: b :: rest) pos) (tAnd tA tB') := by
  intro wh pins s σ H Q I h
  refine isTrue_and (thn (ha pins s σ H _ I h) fun c s1 ⟨H1, I1, q1⟩ => ?_)
  cases c with
  | true => exact hb wh pins s1 σ H1 Q I1 q1
  | false => exact ⟨H1, I1, q1⟩
theorem pw_or (ha : PT X a tA) (hb : PW X (.BoolOp .Or (b :: rest) pos) tB') : PW X (.BoolOp .Or (a :: b :: rest) pos) (tOr tA tB') := by
  intro wh pins s σ H Q I h
  refine isTrue_or (thn (ha pins s σ H _ I h) fun c s1 ⟨H1, I1, q1⟩ => ?_)
  cases c with
  | true => exact ⟨H1, I1, q1⟩
  | false => exact hb wh pins s1 σ H1 Q I1 q1
theorem pt_not (ha : PT X a tA) : PT X (.UnaryOp .Not a pos) (tNot tA) := by
  intro pins s σ H Q I h
  exact isTrue_not (ha pins s σ H (fun c H1 => Q (!c) H1) I h)
def tAndV (ta tb : TE) : TE := fun σ H Q => ta σ H fun x H1 => ∃ c, x = .bl c ∧ if c = true then tb σ H1 Q else Q (.bl false) H1
def tOrV (ta tb : TE) : TE := fun σ H Q => ta σ H fun x H1 => ∃ c, x = .bl c ∧ if c = true then Q (.bl true) H1 else tb σ H1 Q
def tNotV (ta : TE) : TE := fun σ H Q => ta σ H fun x H1 => ∃ c, x = .bl c ∧ Q (.bl (!c)) H1
theorem pe_one {op} {t : TE} (h : PE X a t) : PE X (.BoolOp op [a] pos) t := fun pins s σ H Q I hw => BoolOp_one (h pins s σ H Q I hw)
theorem pe_and (ha : PE X a ta) (hb : PE X (.BoolOp .And (b :: rest) pos) tb) : PE X (.BoolOp .And (a :: b :: rest) pos) (tAndV ta tb) := by
  intro pins s σ H Q I h
  refine BoolOp_and (thn (ha pins s σ H _ I h) fun v s1 ⟨x, H1, I1, r1, q1⟩ => ?_)
  obtain ⟨c, rfl, q1⟩ := q1
  cases r1
  refine wpAny_truthy_bool ?_
  cases c with
  | true => exact hb pins s1 σ H1 Q I1 q1
  | false => exact ⟨.bl false, H1, I1, rfl, q1⟩
theorem pe_or (ha : PE X a ta) (hb : PE X (.BoolOp .Or (b :: rest) pos) tb) : PE X (.BoolOp .Or (a :: b :: rest) pos) (tOrV ta tb) := by
  intro pins s σ H Q I h
  refine BoolOp_or (thn (ha pins s σ H _ I h) fun v s1 ⟨x, H1, I1, r1, q1⟩ => ?_)
  obtain ⟨c, rfl, q1⟩ := q1
  cases r1
  refine wpAny_truthy_bool ?_
  cases c with
  | false => exact hb pins s1 σ H1 Q I1 q1
  | true => exact ⟨.bl true, H1, I1, rfl, q1⟩
theorem pe_not (ha : PE X a ta) : PE X (.UnaryOp .Not a pos) (tNotV ta) := by
  intro pins s σ H Q I h
  refine UnaryOp_ (thn (ha pins s σ H _ I h) fun v s1 ⟨x, H1, I1, r1, q1⟩ => ?_)
  obtain ⟨c, rfl, q1⟩ := q1
  cases r1
  exact not_of (wpAny_truthy_bool ⟨.bl (!c), H1, I1, rfl, q1⟩)
def tIf (t : TT) (ta tb : TE) : TE := fun σ H Q => t σ H fun c H1 => if c = true then ta σ H1 Q else tb σ H1 Q
theorem pe_ifExp {c : Expr} (hc : PT X c tA) (ha : PE X a ta) (hb : PE X b tb) : PE X (.IfExp c a b pos) (tIf tA ta tb) := by
  intro pins s σ H Q I h
  refine wpAny_IfExp (thn (hc pins s σ H _ I h) fun d s1 ⟨H1, I1, q1⟩ => ?_)
  cases d with
  | true => exact ha pins s1 σ H1 Q I1 q1
  | false => exact hb pins s1 σ H1 Q I1 q1
end
end L2
namespace L2
open PySem PySem.Spec PyProof.Rows
def SqL (K : PySem.W.Frag) (H : Hp) (a : Addr) (xs : List V) : Prop :=
  Rd H a (.lst xs) ∨
    ∃ (o : Obj) (its : Array Value) (n : Nat), K.lookup a = some o ∧ o.cls = .type "list" ∧ o.dict = none ∧ o.data = .seq its n ∧ its.size ≤ sizeLine ∧ Vals xs its.toList
def SqT (K : PySem.W.Frag) (H : Hp) (a : Addr) (xs : List V) : Prop :=
  Rd H a (.tup xs) ∨
    ∃ (o : Obj) (its : Array Value) (n : Nat), K.lookup a = some o ∧ o.cls = .type "tuple" ∧ o.data = .seq its n ∧ its.size ≤ sizeLine ∧ Vals xs its.toList
def absV : Value → Option V
  | .none => some .non
  | .bool b => some (.bl b)
  | .int i _ => some (.int i)
  | .str x _ => some (.str x)
  | .bytes b _ => some (.byt b)
  | .float b _ => some (.flt b)
  | .ref a => some (.ref a)
  | .type n => some (.ty n)
  | _ => none
theorem RelV.abs {x : V} {u : Value} (r : RelV x u) : absV u = some x := by
  cases x with
  | non => cases r; rfl
  | bl _ => cases r; rfl
  | int _ => obtain ⟨t, rfl⟩ := r; rfl
  | str _ => obtain ⟨t, rfl⟩ := r; rfl
  | byt _ => obtain ⟨t, rfl⟩ := r; rfl
  | flt _ => obtain ⟨t, rfl⟩ := r; rfl
  | ref _ => cases r; rfl
  | ty _ => cases r; rfl
theorem RelV.inj {x y : V} {u : Value} (r : RelV x u) (q : RelV y u) : x = y := Option.some.inj (r.abs.symm.trans q.abs)
theorem Vals.inj : ∀ {xs ys : List V} {us : List Value}, Vals xs us → Vals ys us → xs = ys
  | _, _, _, .nil, .nil => rfl
  | _, _, _, .cons r t, .cons r' t' => by rw [r.inj r', Vals.inj t t']
section
variable {X : Cx} {pins : List (Addr × Obj)} {σ : St} {H : Hp} {s : Shared} {a : Addr} {xs ys : List V}
theorem SqL.of {K : PySem.W.Frag} (h : H a = some (.lst xs)) : SqL K H a xs := .inl (.inl h)
theorem SqT.of {K : PySem.W.Frag} (h : H a = some (.tup xs)) : SqT K H a xs := .inl (.inl h)
theorem Inv.list (I : Inv X pins σ H s) (h : SqL X.K H a xs) : ∃ its : List Value, Vals xs its ∧ PlainL s.heap a its.toArray ∧ xs.length ≤ sizeLine := by
  rcases h with h | ⟨o, its, n, hk, hc, hd, hs, hz, r⟩
  · obtain ⟨z, its, n, r, e⟩ := h.ok I.hok
    exact ⟨its, r, ⟨_, n, e, rfl, rfl, rfl⟩, z⟩
  · refine ⟨its.toList, r, ⟨o, n, I.kIn a o hk, hc, hd, by simpa using hs⟩, ?_⟩
    have e := r.length
    simp only [Array.length_toList] at e
    omega
theorem Inv.tuple (I : Inv X pins σ H s) (h : SqT X.K H a xs) : ∃ its : List Value, Vals xs its ∧ IsTup s.heap a its.toArray ∧ xs.length ≤ sizeLine := by
  rcases h with h | ⟨o, its, n, hk, hc, hs, hz, r⟩
  · obtain ⟨z, its, r, p⟩ := h.ok I.hok
    exact ⟨its, r, p, z⟩
  · refine ⟨its.toList, r, ⟨o, I.kIn a o hk, hc, n, by simpa using hs⟩, ?_⟩
    have e := r.length
    simp only [Array.length_toList] at e
    omega
theorem Inv.list_inj (I : Inv X pins σ H s) (h : SqL X.K H a xs) (h' : SqL X.K H a ys) : xs = ys := by
  obtain ⟨its, r, ⟨o, n, e, _, _, d⟩, _⟩ := I.list h
  obtain ⟨its', r', ⟨o', n', e', _, _, d'⟩, _⟩ := I.list h'
  rw [e] at e'; cases e'
  rw [d] at d'
  injection d' with d1 _
  have : its = its' := by simpa using congrArg Array.toList d1
  subst this
  exact r.inj r'
theorem Inv.tuple_inj (I : Inv X pins σ H s) (h : SqT X.K H a xs) (h' : SqT X.K H a ys) : xs = ys := by
  obtain ⟨its, r, ⟨o, e, _, n, d⟩, _⟩ := I.tuple h
  obtain ⟨its', r', ⟨o', e', _, n', d'⟩, _⟩ := I.tuple h'
  rw [e] at e'; cases e'
  rw [d] at d'
  injection d' with d1 _
  have : its = its' := by simpa using congrArg Array.toList d1
  subst this
  exact r.inj r'
end
abbrev Cx.wish (X : Cx) (E : Value → Shared → Prop) : Cx := { X with xe := E }
abbrev Cx.nox (X : Cx) : Cx := X.wish fun _ _ => False
theorem Cx.Ok.wish {X : Cx} (ok : X.Ok) (E : Value → Shared → Prop) : (X.wish E).Ok :=
  ⟨ok.mod, ok.kind, ok.glob, ok.blt, ok.above, ok.inj, ok.has, ok.cab, ok.hd, ok.frames, ok.stk, ok.exf, ok.bs, ok.bsz, ok.noex, ok.exfs, ok.funs, ok.frf⟩
theorem Cx.Ok.unwish {X : Cx} {E : Value → Shared → Prop} (ok : (X.wish E).Ok) : X.Ok :=
  ⟨ok.mod, ok.kind, ok.glob, ok.blt, ok.above, ok.inj, ok.has, ok.cab, ok.hd, ok.frames, ok.stk, ok.exf, ok.bs, ok.bsz, ok.noex, ok.exfs, ok.funs, ok.frf⟩
section
variable {X : Cx} {pins : List (Addr × Obj)} {σ : St} {H : Hp} {s : Shared} {E : Value → Shared → Prop}
theorem Inv.wish (I : Inv X pins σ H s) (E : Value → Shared → Prop) : Inv (X.wish E) pins σ H s := ⟨I.ok.wish E, I.os, I.bare, I.base, I.loc, I.cell, I.free, I.freeC, I.pin, I.hok, I.len⟩
theorem Inv.unwish (I : Inv (X.wish E) pins σ H s) : Inv X pins σ H s := ⟨I.ok.unwish, I.os, I.bare, I.base, I.loc, I.cell, I.free, I.freeC, I.pin, I.hok, I.len⟩
theorem SP.unwish {D : Ends} {f : Flow} {s' : Shared} (h : SP (X.wish E) pins D f s') : SP X pins D f s' := by
  cases f with
  | next => obtain ⟨σ', H', I, q⟩ := h; exact ⟨σ', H', I.unwish, q⟩
  | brk => obtain ⟨σ', H', I, q⟩ := h; exact ⟨σ', H', I.unwish, q⟩
  | cont => obtain ⟨σ', H', I, q⟩ := h; exact ⟨σ', H', I.unwish, q⟩
  | ret u => obtain ⟨v, σ', H', I, r, q⟩ := h; exact ⟨v, σ', H', I.unwish, r, q⟩
theorem PSs.nox {st : List Stmt} {t : TS} (h : PSs X.nox st t) : PSs X st t := fun pins s σ H D I hw =>
  wpAny_mono (h pins s σ H D (I.wish _) hw) (fun _ _ q => q.unwish) fun _ _ z => False.elim z
end
section
variable {X : Cx} {st : Stmt} {rest : List Stmt} {t u : TS} {e : Expr} {te : TE} {pos : Pos}
def tNext : TS := fun D σ H => D.nx σ H
def tSeq (t u : TS) : TS := fun D σ H => t { D with nx := u D } σ H
theorem pss_nil : PSs X [] tNext := fun _ _ σ H _ I h => wpAny_execs_nil ⟨σ, H, I, h⟩
theorem pss_cons (h1 : PS X st t) (h2 : PSs X rest u) : PSs X (st :: rest) (tSeq t u) := by
  intro pins s σ H D I h
  refine wpAny_execs_cons (thn (h1 pins s σ H { D with nx := u D } I h) fun f s1 q => ?_)
  cases f with
  | next =>
    obtain ⟨σ', H', I', q⟩ := q
    exact h2 pins s1 σ' H' D I' q
  | ret v => exact q
  | brk => exact q
  | cont => exact q
theorem pss_one (h1 : PS X st t) : PSs X [st] t := by
  intro pins s σ H D I h
  refine wpAny_execs_cons (thn (h1 pins s σ H D I h) fun f s1 q => ?_)
  cases f with
  | next => exact wpAny_execs_nil q
  | ret v => exact q
  | brk => exact q
  | cont => exact q
theorem Inv.quiet {pins : List (Addr × Obj)} {σ : St} {H : Hp} {s : Shared} (I : Inv X pins σ H s) : interactive X.env = false := by simp [interactive, I.ok.kind]
def tDrop (te : TE) : TS := fun D σ H => te σ H fun _ H1 => D.nx σ H1
theorem ps_expr (he : PE X e te) (hs : swapsWith e none pos.line X.env = pure false := by rfl) : PS X (.Expr e pos) (tDrop te) := by
  intro pins s σ H D I h
  exact wpAny_Expr_any (thn (he pins s σ H _ I h) fun v s1 ⟨x, H1, I1, r1, q1⟩ => ⟨σ, H1, I1, q1⟩) I.quiet hs
def tRet (te : TE) : TS := fun D σ H => te σ H D.rt
theorem ps_ret (he : PE X e te) : PS X (.Return (some e) pos) (tRet te) := by
  intro pins s σ H D I h
  exact wpAny_Return_some (thn (he pins s σ H _ I h) fun v s1 ⟨x, H1, I1, r1, q1⟩ => ⟨x, σ, H1, I1, r1, q1⟩)
def tIfS (c : TT) (t u : TS) : TS := fun D σ H => c σ H fun b H1 => if b = true then t D σ H1 else u D σ H1
theorem ps_if {c : Expr} {a b : List Stmt} {tc : TT} (hc : PT X c tc) (ha : PSs X a t) (hb : PSs X b u) : PS X (.If c a b pos) (tIfS tc t u) := by
  intro pins s σ H D I h
  refine wpAny_If (thn (hc pins s σ H _ I h) fun d s1 ⟨H1, I1, q1⟩ => ?_)
  cases d with
  | true => exact ha pins s1 σ H1 D I1 q1
  | false => exact hb pins s1 σ H1 D I1 q1
def tNever : TS := fun _ _ _ => False
theorem ps_never : PS X st tNever := fun _ _ _ _ _ _ h => h.elim
theorem pss_never {sts : List Stmt} : PSs X sts tNever := fun _ _ _ _ _ _ h => h.elim
end
abbrev TG := V → St → Hp → (St → Hp → Prop) → Prop
abbrev TGs := List V → St → Hp → (St → Hp → Prop) → Prop
def PG (X : Cx) (target : Expr) (t : TG) : Prop :=
  ∀ (pins : List (Addr × Obj)) (s : Shared) (σ : St) (H : Hp) (v : V) (u : Value) (Q : St → Hp → Prop), Inv X pins σ H s → RelV v u → t v σ H Q →
    wpAny (model X.prog X.w) X.A (assign target X.env u) (fun _ s' => ∃ σ' H', Inv X pins σ' H' s' ∧ Q σ' H') X.xe s
def PGs (X : Cx) (ts : List Expr) (t : TGs) : Prop :=
  ∀ (pins : List (Addr × Obj)) (s : Shared) (σ : St) (H : Hp) (vs : List V) (us : List Value) (Q : St → Hp → Prop), Inv X pins σ H s → Vals vs us → t vs σ H Q →
    wpAny (model X.prog X.w) X.A (assignInOrder ((assignEach ts X.env).map (·.2)) us) (fun _ s' => ∃ σ' H', Inv X pins σ' H' s' ∧ Q σ' H') X.xe s
section
variable {X : Cx} {pos : Pos}
def gName (i : Nat) : TG := fun v σ H Q => Q (σ.set i (some v)) H
theorem pg_name {i : Nat} {x : Str} (hN : X.N.Nodup) (hi : X.N[i]? = some x) (hx : Loc X.env.scope x) (hf : X.fn x = true ∨ X.env.scope.names.lookup x = some .local := by first | exact .inl rfl | exact .inr rfl | assumption) : PG X (.Name x pos) (gName i) := by
  intro pins s σ H v u Q I r h
  exact wpAny_assign_Name (store_ok I hN hi hx r (fun s' I' => ⟨_, H, I', h⟩) hf)
def gNil : TGs := fun vs σ H Q => vs = [] ∧ Q σ H
def gCons (t : TG) (u : TGs) : TGs := fun vs σ H Q => ∃ v r, vs = v :: r ∧ t v σ H fun σ' H' => u r σ' H' Q
theorem pgs_nil : PGs X [] gNil := by
  intro pins s σ H vs us Q I r h
  obtain ⟨e, h⟩ := h
  subst e
  cases r
  exact assignInOrder_nil ⟨σ, H, I, h⟩
theorem pgs_cons {e : Expr} {es : List Expr} {t : TG} {u : TGs} (h1 : PG X e t) (h2 : PGs X es u)
    (hs : (assignEach (e :: es) X.env).map (·.2) = assign e X.env :: (assignEach es X.env).map (·.2) := by rfl) : PGs X (e :: es) (gCons t u) := by
  intro pins s σ H vs us Q I r h
  obtain ⟨v, vr, e1, h⟩ := h
  subst e1
  cases r with
  | cons r rr =>
    rw [hs]
    refine assignInOrder_cons (thn (h1 pins s σ H _ _ _ I r h) fun _ s1 ⟨σ1, H1, I1, q1⟩ => ?_)
    exact h2 pins s1 σ1 H1 _ _ Q I1 rr q1
def gTup (K : PySem.W.Frag) (n : Nat) (t : TGs) : TG := fun v σ H Q => ∃ a xs, v = .ref a ∧ SqT K H a xs ∧ xs.length = n ∧ t xs σ H Q
theorem pg_tup {es : List Expr} {k : Nat} {t : TGs} {n : Nat} (hc : X.calm = true) (h : PGs X es t)
    (hn : (assignEach es X.env).length = n := by rfl) (hst : (assignEach es X.env).findIdx? (·.1) = none := by rfl) : PG X (.Tuple es k pos) (gTup X.K n t) := by
  intro pins s σ H v u Q I r hw
  obtain ⟨a, xs, e1, hq, hl, hw⟩ := hw
  subst e1
  cases r
  obtain ⟨its, rv, ht, hz⟩ := I.tuple hq
  refine assign_Tuple_tuple (I.ok.hd hc) ht (by simp [hn, ← hl, rv.length]) hst fun h' hx => ?_
  have I1 : Inv X pins σ H { s with heap := h' } := I.kept (t' := s.toks) fun b o e => hx b o (Nat.ne_of_lt (Heap.lt_size e)) e
  exact h pins _ σ H xs _ Q I1 (by simpa using rv) hw
def tAsg (te : TE) (g : TG) : TS := fun D σ H => te σ H fun x H1 => g x σ H1 D.nx
theorem ps_asg {tg e : Expr} {te : TE} {g : TG} (he : PE X e te) (hg : PG X tg g) (hs : swapsWithSole [tg] e pos.line X.env = pure false := by rfl) (hw : swappedStores [tg] e X.env = pure none := by rfl)
    (h1 : (assignEach [tg] X.env).map (·.2) = [assign tg X.env] := by rfl) : PS X (.Assign [tg] e pos) (tAsg te g) := by
  intro pins s σ H D I h
  refine wpAny_Assign_stores (thn (he pins s σ H _ I h) fun v s1 ⟨x, H1, I1, r1, q1⟩ => ?_) hs hw
  rw [h1]
  exact thn (hg pins s1 σ H1 x v _ I1 r1 q1) fun _ s2 q => q
theorem ps_set {i : Nat} {x : Str} {e : Expr} {te : TE} {pos' : Pos} (hN : X.N.Nodup) (hi : X.N[i]? = some x) (hx : Loc X.env.scope x) (he : PE X e te) (hs : swapsWith e (some (.Name x pos')) pos.line X.env = pure false := by rfl) (hf : X.fn x = true ∨ X.env.scope.names.lookup x = some .local := by first | exact .inl rfl | exact .inr rfl | assumption) :
    PS X (.Assign [.Name x pos'] e pos) (tAsg te (gName i)) := by
  intro pins s σ H D I h
  refine wpAny_Assign_Name (thn (he pins s σ H _ I h) fun v s1 ⟨y, H1, I1, r1, q1⟩ => ?_) hs
  exact store_ok I1 hN hi hx r1 (fun s2 I2 => ⟨_, H1, I2, q1⟩) hf
def tPar (i j : Nat) (ta : TA) : TS := fun D σ H => ta σ H fun vs H1 => ∃ v w, vs = [v, w] ∧ D.nx ((σ.set i (some v)).set j (some w)) H1
theorem ps_par {i j : Nat} {x y : Str} {a b : Expr} {ta : TA} {px py pt : Pos} {kt k2 pt2} (hc : X.calm = true) (hN : X.N.Nodup) (hi : X.N[i]? = some x) (hj : X.N[j]? = some y) (hij : i ≠ j)
    (hx : X.env.scope.names.lookup x = some .local) (hy : X.env.scope.names.lookup y = some .local) (ha : PA X [a, b] ta)
    (hw : swappedStores [.Tuple [.Name x px, .Name y py] kt pt] (.Tuple [a, b] k2 pt2) X.env = pure (some [x, y]))
    (hs : swapsWithSole [.Tuple [.Name x px, .Name y py] kt pt] (.Tuple [a, b] k2 pt2) pos.line X.env = pure false := by rfl) :
    PS X (.Assign [.Tuple [.Name x px, .Name y py] kt pt] (.Tuple [a, b] k2 pt2) pos) (tPar i j ta) := by
  intro pins s σ H D I h
  rw [exec_Assign_arm]
  refine wpAny_bind (wpAny_standAt ?_)
  rw [hs]
  refine wpAny_bind (wpAny_pure ?_)
  rw [if_neg (by decide)]
  refine wpAny_bind (Tuple_ (thn (ha _ pins s σ H _ I h) fun us s1 ⟨vs, H1, I1, r1, q1⟩ => ?_))
  obtain ⟨v, w, e1, q1⟩ := q1
  subst e1
  obtain ⟨u1, u2, rfl, rv, rw'⟩ : ∃ u1 u2, us = [u1, u2] ∧ RelV v u1 ∧ RelV w u2 := by
    cases r1 with
    | cons p q =>
      cases q with
      | cons p' q' =>
        cases q'
        exact ⟨_, _, rfl, p, p'⟩
  refine wpAny_newObj_type ?_ (by show 2 ≤ sizeLine; decide)
  have I2 : Inv X pins σ H1 { s1 with heap := s1.heap.push { cls := .type "tuple", data := .seq [u1, u2].toArray } } := I1.kept (t' := s1.toks) fun b o e => Heap.get?_push_of_some _ e
  rw [hw]
  refine wpAny_bind (wpAny_pure ?_)
  show wpAny (model X.prog X.w) X.A (do rule "assign.swapped-stores"; let items ← unpackItems (.ref s1.heap.objs.size) 2 none; assignInOrder [fun v => bindName X.env y v, fun v => bindName X.env x v] items.reverse; pure Flow.next) _ _ _
  refine wpAny_bind (wpAny_rule (wpAny_bind (unpackItems_tuple (items := #[u1, u2]) (I.ok.hd hc) (IsTup.new s1.heap _) fun h' hx' => ?_)))
  have I3 := I2.kept (h' := h') (t' := s1.toks) fun b o e => hx' b o (Nat.ne_of_lt (Heap.lt_size e)) e
  show wpAny _ _ (assignInOrder [fun v => bindName X.env y v, fun v => bindName X.env x v] [u2, u1] >>= fun _ => pure Flow.next) _ _ _
  refine wpAny_bind (assignInOrder_cons (wpAny_bindName (store_ok I3 hN hj (.inl hy) rw' (fun s2 I4 => ?_) (.inr hy))))
  refine assignInOrder_cons (wpAny_bindName (store_ok I4 hN hi (.inl hx) rv (fun s3 I5 => assignInOrder_nil (wpAny_pure ?_)) (.inr hx)))
  rw [List.set_comm _ _ (Ne.symm hij)] at I5
  exact ⟨_, H1, I5, q1⟩
end
section
variable {X : Cx} {pos : Pos}
def tWhile (c : TT) (tb : TS) : TS := fun D σ H => ∃ W : Nat → St → Hp → Prop, (∃ m, W m σ H) ∧ ∀ m σ H, W m σ H →
  c σ H fun b H1 => if b = true then ∃ N : St → Hp → Prop, (∀ σ' H', N σ' H' → ∃ m', m' < m ∧ W m' σ' H') ∧ tb { D with nx := N, ct := N, bk := D.nx } σ H1 else D.nx σ H1
theorem ps_while {c : Expr} {body : List Stmt} {tc : TT} {tb : TS} (hp : PassesOwn (model X.prog X.w) X.A X.env X.xe) (hc : PT X c tc) (hb : PSs X body tb) : PS X (.While c body [] pos) (tWhile tc tb) := by
  intro pins s σ H D I h
  obtain ⟨W, ⟨m0, w0⟩, turn⟩ := h
  refine wpAny_While (codeAny_whileLoop (fun n s' => ∃ σ' H', Inv X pins σ' H' s' ∧ W n σ' H') ?_ m0 ⟨σ, H, I, w0⟩)
  rintro n s1 ⟨σ1, H1, I1, w1⟩
  refine wpAny_passesOwn hp (thn (hc pins s1 σ1 H1 _ I1 (turn n σ1 H1 w1)) fun b s2 ⟨H2, I2, q2⟩ => ?_)
  cases b with
  | true =>
    obtain ⟨N, hN, q2⟩ := q2
    rw [if_pos rfl]
    refine wpAny_passesOwn hp (thn (hb pins s2 σ1 H2 _ I2 q2) fun f s3 q3 => ?_)
    cases f with
    | next =>
      obtain ⟨σ3, H3, I3, n3⟩ := q3
      obtain ⟨m', hm, w3⟩ := hN σ3 H3 n3
      exact ⟨m', hm, σ3, H3, I3, w3⟩
    | cont =>
      obtain ⟨σ3, H3, I3, n3⟩ := q3
      obtain ⟨m', hm, w3⟩ := hN σ3 H3 n3
      exact ⟨m', hm, σ3, H3, I3, w3⟩
    | brk => exact q3
    | ret v => exact q3
  | false =>
    rw [if_neg Bool.false_ne_true]
    exact wpAny_execs_nil ⟨σ1, H2, I2, q2⟩
end
structure It where
  go : Nat → Hp → Prop
  yld : Nat → Hp → V → Hp → Prop
  stop : Nat → Hp → Prop
def FpOk (X : Cx) (pins : List (Addr × Obj)) (H : Hp) (b : Addr) : Prop :=
  H b = none ∧ b ≠ X.env.locals ∧ b ∉ X.fs ∧ (b ∈ X.ex ∨ X.s₀.heap.objs.size ≤ b) ∧ (∀ x c, X.env.cells.lookup x = some c → c ≠ b) ∧ ∀ p ∈ X.pn ++ pins, p.1 ≠ b
theorem Inv.fpOk {X : Cx} {pins : List (Addr × Obj)} {σ : St} {H H' : Hp} {s : Shared} {b : Addr} (I : Inv X pins σ H s) (hb : s.heap.objs.size ≤ b) (hn : H' b = none) : FpOk X pins H' b := by
  refine ⟨hn, Nat.ne_of_gt (Nat.lt_of_lt_of_le I.lt hb), I.nofs hb, .inr (Nat.le_trans I.sz hb), fun x c e z => ?_, fun p hp z => ?_⟩
  · obtain ⟨v, q⟩ := I.cell x c e
    exact absurd (Nat.lt_of_lt_of_le q.lt (by rw [z]; exact hb)) (Nat.lt_irrefl _)
  · exact absurd (Nat.lt_of_lt_of_le (Heap.lt_size (I.pin p hp).1) (by rw [z]; exact hb)) (Nat.lt_irrefl _)
structure Turn (P : Program) (w : World) (K : PySem.W.Frag) (tg : Expr) (J : It) (fp : List Addr) (it : Addr) (tn : Nat → Heap → Prop) : Prop where
  mem : it ∈ fp
  obj : ∀ i h, tn i h → ∀ b ∈ fp, ∃ o, h.get? b = some o ∧ ∀ v, o.data ≠ .cell v
  keep : ∀ i h h', tn i h → (∀ b ∈ fp, ∀ o, h.get? b = some o → h'.get? b = some o) → tn i h'
  item : ∀ (X : Cx), X.prog = P → X.w = w → X.K = K → X.calm = true → ∀ (i : Nat) (pins : List (Addr × Obj)) (s : Shared) (σ : St) (H : Hp) (E : Value → Shared → Prop), Inv X pins σ H s → (∀ b ∈ fp, FpOk X pins H b) → tn i s.heap → J.go i H →
    wpAny (model P w) X.A (pyNext (.ref it)) (fun r s1 => ∃ u, r = some u ∧
      wpAny (model P w) X.A (letOwnedTupleGo tg (.ref it) u) (fun _ s2 => ∃ x H', Inv X pins σ H' s2 ∧ RelV x u ∧ J.yld i H x H' ∧ tn (i + 1) s2.heap ∧ ∀ b ∈ fp, H' b = none) E s1) E s
  done : ∀ (X : Cx), X.prog = P → X.w = w → X.K = K → X.calm = true → ∀ (i : Nat) (pins : List (Addr × Obj)) (s : Shared) (σ : St) (H : Hp) (E : Value → Shared → Prop), Inv X pins σ H s → (∀ b ∈ fp, FpOk X pins H b) → tn i s.heap → J.stop i H →
    wpAny (model P w) X.A (pyNext (.ref it)) (fun r s1 => r = none ∧ Inv X pins σ H s1) E s
  self : ∀ (A : Around) (i : Nat) (s : Shared) (Q : Value → Shared → Prop) (E : Value → Shared → Prop), tn i s.heap → Q (.ref it) s → wpAny (model P w) A (pyIter (.ref it)) Q E s
abbrev TI := St → Hp → (It → Hp → Prop) → Prop
def PIE (X : Cx) (pins : List (Addr × Obj)) (σ : St) (tg : Expr) (R : It → Hp → Prop) (itv : Value) (s2 : Shared) : Prop :=
  ∃ (it : Addr) (fp : List Addr) (tn : Nat → Heap → Prop) (J : It) (H' : Hp), itv = .ref it ∧ Inv X pins σ H' s2 ∧ Turn X.prog X.w X.K tg J fp it tn ∧ tn 0 s2.heap ∧ (∀ b ∈ fp, FpOk X pins H' b) ∧ R J H'
def PI (X : Cx) (tg iter : Expr) (wi : TI) : Prop :=
  ∀ (pins : List (Addr × Obj)) (s : Shared) (σ : St) (H : Hp) (R : It → Hp → Prop), Inv X pins σ H s → wi σ H R →
    wpAny (model X.prog X.w) X.A (eval iter X.env) (fun v s1 => wpAny (model X.prog X.w) X.A (pyIter v) (PIE X pins σ tg R) X.xe s1) X.xe s
theorem go_of {M : Model} {A : Around} {E : Value → Shared → Prop} {s : Shared} {tg : Expr} {it : Addr} {u : Value} {o : Obj} {n : String} {vs : Array Value} {Q : Unit → Shared → Prop} (ho : s.heap.get? it = some o) (hc : o.cls = .type n) (hd : o.data = .fields vs)
    (hn : ["enumerate", "zip", "dict_itemiterator", "dict_reverseitemiterator", "odict_iterator", "itertools.zip_longest", "itertools.pairwise"].contains n = false) (hQ : Q () s) : wpAny M A (letOwnedTupleGo tg (.ref it) u) Q E s := by
  unfold letOwnedTupleGo
  cases tg <;> first
    | exact wpAny_pure hQ
    | (cases u <;> first
        | exact wpAny_pure hQ
        | (refine wpAny_bind (wpAny_load ho ?_)
           rw [hc, hd]
           show wpAny M A (if (["enumerate", "zip", "dict_itemiterator", "dict_reverseitemiterator", "odict_iterator", "itertools.zip_longest", "itertools.pairwise"].contains n && vs[0]? == some (rawInt _)) = true then _ else _) Q E s
           rw [if_neg (by intro h; rw [hn, Bool.false_and] at h; cases h)]
           exact wpAny_pure hQ))
def Itl (K : PySem.W.Frag) (a : Addr) : It :=
  ⟨fun i H => ∃ xs x, SqL K H a xs ∧ xs[i]? = some x, fun i H x H' => H' = H ∧ ∀ xs, SqL K H a xs → xs[i]? = some x, fun i H => ∃ xs, SqL K H a xs ∧ xs.length ≤ i⟩
def Itt (K : PySem.W.Frag) (a : Addr) : It :=
  ⟨fun i H => ∃ xs x, SqT K H a xs ∧ xs[i]? = some x, fun i H x H' => H' = H ∧ ∀ xs, SqT K H a xs → xs[i]? = some x, fun i H => ∃ xs, SqT K H a xs ∧ xs.length ≤ i⟩
def Itr (lo : Int) (n : Nat) : It := ⟨fun i _ => i < n, fun i H x H' => H' = H ∧ x = .int (lo + i), fun i _ => n ≤ i⟩
theorem turn_list {P : Program} {w : World} {K : PySem.W.Frag} {tg : Expr} (a it : Addr) : Turn P w K tg (Itl K a) [it] it (fun i h => h.IsListIter it a i) where
  mem := by simp
  obj := fun i h st b hb => by
    have e : b = it := by simpa using hb
    subst e
    obtain ⟨o, e, c, d⟩ := st
    exact ⟨o, e, fun v z => by rw [d] at z; cases z⟩
  keep := fun i h h' st k => st.at fun o e => k it (by simp) o e
  item := by
    intro X hP hw hK hc i pins s σ H E I hf st hg
    subst hP hw hK
    obtain ⟨xs, x, hq, hx⟩ := hg
    obtain ⟨its, rv, p, hz⟩ := I.list hq
    obtain ⟨u, hu, ru⟩ := rv.get hx
    obtain ⟨f0, f1, f2, f3, f4, f5⟩ := hf it (by simp)
    refine wpAny_pyNext_list_item st p.isList (x := u) (by simpa using hu) fun h' st' sb => ?_
    have I1 : Inv X pins σ H { s with heap := h' } := I.turned (t' := s.toks) (fun b o hb e => (sb.2 b hb).trans e) f0 f1 f3 f4 f5
    obtain ⟨o, e, c, d⟩ := id st'
    exact ⟨u, rfl, go_of (s := { s with heap := h' }) e c d (by decide) ⟨x, H, I1, ru, ⟨rfl, fun ys hy => by rw [I.list_inj hy hq]; exact hx⟩, st', fun b hb => (hf b hb).1⟩⟩
  done := by
    intro X hP hw hK hc i pins s σ H E I hf st hg
    subst hP hw hK
    obtain ⟨xs, hq, hx⟩ := hg
    obtain ⟨its, rv, p, hz⟩ := I.list hq
    obtain ⟨f0, f1, f2, f3, f4, f5⟩ := hf it (by simp)
    have hl := rv.length
    exact wpAny_pyNext_list_end (I.ok.hd hc) st p.isList (by simp; omega) fun h' eb => ⟨rfl, I.turned (t' := s.toks) (fun b o hb e => eb b o hb e) f0 f1 f3 f4 f5⟩
  self := fun _ _ _ _ _ st h => wpAny_pyIter_listiter st h
theorem turn_tuple {P : Program} {w : World} {K : PySem.W.Frag} {tg : Expr} (a it : Addr) : Turn P w K tg (Itt K a) [it] it (fun i h => h.IsTupleIter it a i) where
  mem := by simp
  obj := fun i h st b hb => by
    have e : b = it := by simpa using hb
    subst e
    obtain ⟨o, e, c, d⟩ := st
    exact ⟨o, e, fun v z => by rw [d] at z; cases z⟩
  keep := fun i h h' st k => st.at fun o e => k it (by simp) o e
  item := by
    intro X hP hw hK hc i pins s σ H E I hf st hg
    subst hP hw hK
    obtain ⟨xs, x, hq, hx⟩ := hg
    obtain ⟨its, rv, p, hz⟩ := I.tuple hq
    obtain ⟨u, hu, ru⟩ := rv.get hx
    obtain ⟨f0, f1, f2, f3, f4, f5⟩ := hf it (by simp)
    refine wpAny_pyNext_tuple_item st (show s.heap.IsTuple a its.toArray from p) (x := u) (by simpa using hu) fun h' st' sb => ?_
    have I1 : Inv X pins σ H { s with heap := h' } := I.turned (t' := s.toks) (fun b o hb e => (sb.2 b hb).trans e) f0 f1 f3 f4 f5
    obtain ⟨o, e, c, d⟩ := id st'
    exact ⟨u, rfl, go_of (s := { s with heap := h' }) e c d (by decide) ⟨x, H, I1, ru, ⟨rfl, fun ys hy => by rw [I.tuple_inj hy hq]; exact hx⟩, st', fun b hb => (hf b hb).1⟩⟩
  done := by
    intro X hP hw hK hc i pins s σ H E I hf st hg
    subst hP hw hK
    obtain ⟨xs, hq, hx⟩ := hg
    obtain ⟨its, rv, p, hz⟩ := I.tuple hq
    obtain ⟨f0, f1, f2, f3, f4, f5⟩ := hf it (by simp)
    have hl := rv.length
    exact wpAny_pyNext_tuple_end (I.ok.hd hc) st (show s.heap.IsTuple a its.toArray from p) (by simp; omega) fun h' eb => ⟨rfl, I.turned (t' := s.toks) (fun b o hb e => eb b o hb e) f0 f1 f3 f4 f5⟩
  self := fun _ _ _ _ _ st h => wpAny_pyIter_tupleiter st h
theorem turn_range {P : Program} {w : World} {K : PySem.W.Frag} {tg : Expr} (it : Addr) (lo : Int) (n : Nat) : Turn P w K tg (Itr lo n) [it] it (fun i h => IsRangeIter h it (lo + (i : Nat) * 1) ((n : Int) - (i : Nat)) 1) where
  mem := by simp
  obj := fun i h st b hb => by
    have e : b = it := by simpa using hb
    subst e
    exact ⟨_, st, fun v z => by
      have z' : Data.fields _ = Data.cell v := z
      cases z'⟩
  keep := fun i h h' st k => k it (by simp) _ st
  item := by
    intro X hP hw hK hc i pins s σ H E I hf st hg
    subst hP hw hK
    obtain ⟨f0, f1, f2, f3, f4, f5⟩ := hf it (by simp)
    have W := Walks.range (prog := X.prog) (w := X.w) (I.ok.hd hc) it lo 1 n
    refine W.item i s _ _ hg st fun v h' tk hv st' kk => ?_
    obtain ⟨t, rfl⟩ := hv
    have I1 : Inv X pins σ H { s with heap := h', toks := tk } := I.turned (fun b o hb e => kk b o (by simpa using hb) e) f0 f1 f3 f4 f5
    refine ⟨_, rfl, go_of (s := { s with heap := h', toks := tk }) (n := "range_iterator") st' rfl rfl (by decide) ⟨.int (lo + i), H, I1, ⟨t, ?_⟩, ⟨rfl, rfl⟩, st', fun b hb => (hf b hb).1⟩⟩
    rw [Int.mul_one]
  done := by
    intro X hP hw hK hc i pins s σ H E I hf st hg
    subst hP hw hK
    obtain ⟨f0, f1, f2, f3, f4, f5⟩ := hf it (by simp)
    exact wpAny_pyNext_range_end (I.ok.hd hc) st (by have : n ≤ i := hg; omega) fun h' eb => ⟨rfl, I.turned (t' := s.toks) (fun b o hb e => eb b o hb e) f0 f1 f3 f4 f5⟩
  self := fun _ _ _ _ _ st h => wpAny_pyIter_rangeiter st h
end L2
namespace L2
open PySem PySem.Spec PyProof.Rows
section
variable {X : Cx} {tg : Expr}
def iList (K : PySem.W.Frag) (tl : TE) : TI := fun σ H R => tl σ H fun x H1 => ∃ a, x = .ref a ∧ (∃ xs, SqL K H1 a xs) ∧ R (Itl K a) H1
def iTup (K : PySem.W.Frag) (tl : TE) : TI := fun σ H R => tl σ H fun x H1 => ∃ a, x = .ref a ∧ (∃ xs, SqT K H1 a xs) ∧ R (Itt K a) H1
theorem pi_list {l : Expr} {tl : TE} (hl : PE X l tl) : PI X tg l (iList X.K tl) := by
  intro pins s σ H R I h
  refine thn (hl pins s σ H _ I h) fun v s1 ⟨x, H1, I1, r1, q1⟩ => ?_
  obtain ⟨a, e, ⟨xs, hq⟩, q⟩ := q1
  subst e
  cases r1
  obtain ⟨its, rv, p, hz⟩ := I1.list hq
  refine wpAny_pyIter_list p.isList ?_
  refine ⟨s1.heap.objs.size, [s1.heap.objs.size], _, _, H1, rfl, I1.kept (t' := s1.toks) fun b o e => Heap.get?_push_of_some _ e, turn_list a _, ⟨_, Heap.get?_push_size _ rfl, rfl, rfl⟩, fun b hb => ?_, q⟩
  have e : b = s1.heap.objs.size := by simpa using hb
  subst e
  exact I1.fpOk (Nat.le_refl _) (I1.hok.fresh (Nat.le_refl _))
theorem pi_tup {l : Expr} {tl : TE} (hl : PE X l tl) : PI X tg l (iTup X.K tl) := by
  intro pins s σ H R I h
  refine thn (hl pins s σ H _ I h) fun v s1 ⟨x, H1, I1, r1, q1⟩ => ?_
  obtain ⟨a, e, ⟨xs, hq⟩, q⟩ := q1
  subst e
  cases r1
  obtain ⟨its, rv, p, hz⟩ := I1.tuple hq
  refine wpAny_pyIter_tuple (show s1.heap.IsTuple a its.toArray from p) ?_
  refine ⟨s1.heap.objs.size, [s1.heap.objs.size], _, _, H1, rfl, I1.kept (t' := s1.toks) fun b o e => Heap.get?_push_of_some _ e, turn_tuple a _, ⟨_, Heap.get?_push_size _ rfl, rfl, rfl⟩, fun b hb => ?_, q⟩
  have e : b = s1.heap.objs.size := by simpa using hb
  subst e
  exact I1.fpOk (Nat.le_refl _) (I1.hok.fresh (Nat.le_refl _))
theorem range_it {pins : List (Addr × Obj)} {σ : St} {H : Hp} {s : Shared} {R : It → Hp → Prop} {E : Value → Shared → Prop} {lo hi : Int} {t u v : Tok} {tk : Nat} (I : Inv X pins σ H s) (h1 : -(2 ^ 62) ≤ lo) (h2 : lo < 2 ^ 62) (h3 : -(2 ^ 62) ≤ hi) (h4 : hi < 2 ^ 62)
    (q : R (Itr lo (hi - lo).toNat) H) : wpAny (model X.prog X.w) X.A (pyIter (.ref s.heap.objs.size)) (PIE X pins σ tg R) E { s with heap := s.heap.push { cls := .type "range", data := .fields #[.int lo t, .int hi u, .int 1 v] }, toks := tk } := by
  refine wpAny_pyIter_range (IsRange.new ..) (small_one h1 h2 h3 h4) ?_
  have I1 : Inv X pins σ H { s with heap := s.heap.push { cls := .type "range", data := .fields #[.int lo t, .int hi u, .int 1 v] }, toks := tk } := I.kept fun b o e => Heap.get?_push_of_some _ e
  refine ⟨(s.heap.push { cls := .type "range", data := .fields #[.int lo t, .int hi u, .int 1 v] }).objs.size, [(s.heap.push { cls := .type "range", data := .fields #[.int lo t, .int hi u, .int 1 v] }).objs.size], _, _, H, rfl,
    I1.kept (t' := tk) fun b o e => Heap.get?_push_of_some _ e, turn_range _ lo (hi - lo).toNat, ?_, fun b hb => ?_, q⟩
  · have e1 : lo + ((0 : Nat) : Int) * 1 = lo := by simp
    have e2 : (((hi - lo).toNat : Nat) : Int) - ((0 : Nat) : Int) = Builtin.Range.rangeSize lo hi 1 := by rw [rangeSize_one]; split <;> omega
    show IsRangeIter _ _ (lo + ((0 : Nat) : Int) * 1) ((((hi - lo).toNat : Nat) : Int) - ((0 : Nat) : Int)) 1
    rw [e1, e2]
    exact Heap.get?_push_size _ rfl
  · have e : b = (s.heap.push { cls := .type "range", data := .fields #[.int lo t, .int hi u, .int 1 v] }).objs.size := by simpa using hb
    subst e
    exact I1.fpOk (Nat.le_refl _) (I1.hok.fresh (Nat.le_refl _))
def iRng1 (ta : TA) : TI := fun σ H R => ta σ H fun vs H1 => ∃ j : Int, vs = [.int j] ∧ -(2 ^ 62) ≤ j ∧ j < 2 ^ 62 ∧ R (Itr 0 j.toNat) H1
def iRng2 (ta : TA) : TI := fun σ H R => ta σ H fun vs H1 => ∃ i j : Int, vs = [.int i, .int j] ∧ (-(2 ^ 62) ≤ i ∧ i < 2 ^ 62 ∧ -(2 ^ 62) ≤ j ∧ j < 2 ^ 62) ∧ R (Itr i (j - i).toNat) H1
theorem pi_range1 {a : Expr} {ta : TA} {p pos : Pos} (hg : Gl X "range") (hm : X.mg "range" = none) (ha : PA X [a] ta) (hs : starEach [a] X.env = [(false, eval a X.env)] := by rfl) : PI X tg (.Call (.Name "range" p) [a] [] pos) (iRng1 ta) := by
  intro pins s σ H R I h
  refine Call_ (ld_blt I hg hm boot_range (PyProof.Rows.callWith_type1 (thn (ha pos pins s σ H _ I h) fun us s1 ⟨vs, H1, I1, r1, q1⟩ => ?_) hs rfl))
  obtain ⟨j, e, q1, q2, q⟩ := q1
  subst e
  cases r1 with
  | cons r rr =>
    cases rr
    obtain ⟨t, rfl⟩ := r
    exact call_range_1 (range_it I1 (by omega) (by omega) q1 q2 (by simpa using q))
theorem pi_range2 {a b : Expr} {ta : TA} {p pos : Pos} (hg : Gl X "range") (hm : X.mg "range" = none) (ha : PA X [a, b] ta) (hs : starEach [a, b] X.env = [(false, eval a X.env), (false, eval b X.env)] := by rfl) (hs2 : starEach [b] X.env = [(false, eval b X.env)] := by rfl) :
    PI X tg (.Call (.Name "range" p) [a, b] [] pos) (iRng2 ta) := by
  intro pins s σ H R I h
  refine Call_ (ld_blt I hg hm boot_range (PyProof.Rows.callWith_type1 (thn (ha pos pins s σ H _ I h) fun us s1 ⟨vs, H1, I1, r1, q1⟩ => ?_) (by rw [hs, hs2]) (by rw [hs2]; rfl)))
  obtain ⟨i, j, e, ⟨q1, q2, q3, q4⟩, q⟩ := q1
  subst e
  cases r1 with
  | cons r rr =>
    cases rr with
    | cons r' rr =>
      cases rr
      obtain ⟨t, rfl⟩ := r
      obtain ⟨t', rfl⟩ := r'
      exact call_range_2 (range_it I1 q1 q2 q3 q4 q)
def tFor (wi : TI) (g : TG) (tb : TS) : TS := fun D σ H => wi σ H fun J H1 => ∃ W : Nat → Nat → St → Hp → Prop, (∃ m, W 0 m σ H1) ∧ ∀ i m σ H, W i m σ H →
  (J.stop i H ∧ D.nx σ H) ∨ (J.go i H ∧ ∃ N : St → Hp → Prop, (∀ σ' H', N σ' H' → ∃ m', m' < m ∧ W (i + 1) m' σ' H') ∧ ∀ x H', J.yld i H x H' → g x σ H' fun σ2 H2 => tb { D with nx := N, ct := N, bk := D.nx } σ2 H2)
def pinsAt (fp : List Addr) (h : Heap) : List (Addr × Obj) := fp.filterMap fun b => (h.get? b).map fun o => (b, o)
theorem mem_pinsAt {fp : List Addr} {h : Heap} {b : Addr} {o : Obj} (hb : b ∈ fp) (e : h.get? b = some o) : (b, o) ∈ pinsAt fp h := List.mem_filterMap.mpr ⟨b, hb, by rw [e]; rfl⟩
theorem of_pinsAt {fp : List Addr} {h : Heap} {p : Addr × Obj} (hp : p ∈ pinsAt fp h) : p.1 ∈ fp ∧ h.get? p.1 = some p.2 := by
  obtain ⟨b, hb, e⟩ := List.mem_filterMap.mp hp
  cases q : h.get? b with
  | none => rw [q] at e; cases e
  | some o =>
    rw [q] at e
    have e' : (b, o) = p := Option.some.inj e
    subst e'
    exact ⟨hb, q⟩
theorem Inv.pinned {pins : List (Addr × Obj)} {σ : St} {H : Hp} {s : Shared} {fp : List Addr} (I : Inv X pins σ H s) (hf : ∀ b ∈ fp, FpOk X pins H b) (ho : ∀ b ∈ fp, ∃ o, s.heap.get? b = some o ∧ ∀ v, o.data ≠ .cell v) : Inv X (pins ++ pinsAt fp s.heap) σ H s :=
  I.pins_of fun p hp => (List.mem_append.mp hp).elim (fun z => I.pin p (List.mem_append_right _ z)) fun z => by
    obtain ⟨hb, e⟩ := of_pinsAt z
    obtain ⟨f0, f1, f2, _⟩ := hf p.1 hb
    obtain ⟨o, e', d⟩ := ho p.1 hb
    rw [e] at e'; cases e'
    exact ⟨e, f0, f1, f2, d⟩
theorem Inv.unpinned {pins pl : List (Addr × Obj)} {σ : St} {H : Hp} {s : Shared} (I : Inv X (pins ++ pl) σ H s) : Inv X pins σ H s := I.pins_of fun p hp => I.pin p (List.mem_append_right _ (List.mem_append_left _ hp))
theorem ps_for {iter : Expr} {body : List Stmt} {wi : TI} {g : TG} {tb : TS} {pos : Pos} (hp : PassesOwn (model X.prog X.w) X.A X.env X.xe) (hc : X.calm = true) (hi : PI X tg iter wi) (hg : PG X tg g) (hb : PSs X body tb)
    (hs : ∀ x, foldedSetIterable iter X.env x = pure x := by intro _; rfl) : PS X (.For tg iter body [] pos) (tFor wi g tb) := by
  intro pins s σ H D I h
  refine wpAny_For (thn (hi pins s σ H _ I h) fun v s1 h1 => thn h1 fun itv s2 h2 => ?_) hs
  obtain ⟨it, fp, tn, J, H2, e, I2, T, st2, f2, W, ⟨m0, w0⟩, turn⟩ := h2
  subst e
  have stat : ∀ {H' : Hp}, (∀ b ∈ fp, H' b = none) → ∀ b ∈ fp, FpOk X pins H' b := fun hn b hb => ⟨hn b hb, (f2 b hb).2⟩
  refine codeAny_forLoop_any (fun n s' => ∃ i σ' H', Inv X pins σ' H' s' ∧ tn i s'.heap ∧ (∀ b ∈ fp, H' b = none) ∧ W i n σ' H') ?_ m0 ⟨0, σ, H2, I2, st2, fun b hb => (f2 b hb).1, w0⟩
  rintro n s3 ⟨i, σ3, H3, I3, st3, fr3, w3⟩
  rcases turn i n σ3 H3 w3 with ⟨stop, qn⟩ | ⟨go, N, hN, step⟩
  · refine wpAny_passesOwn hp (thn (T.done X rfl rfl rfl hc i pins s3 σ3 H3 X.xe I3 (stat fr3) st3 stop) fun r s4 ⟨hr, I4⟩ => ?_)
    subst hr
    exact wpAny_execs_nil ⟨σ3, H3, I4, qn⟩
  · refine wpAny_passesOwn hp (thn (T.item X rfl rfl rfl hc i pins s3 σ3 H3 X.xe I3 (stat fr3) st3 go) fun r s4 ⟨u, hr, h4⟩ => ?_)
    subst hr
    refine wpAny_passesOwn hp (thn h4 fun _ s5 ⟨x, H5, I5, r5, y5, st5, fr5⟩ => ?_)
    have I5' := I5.pinned (stat fr5) (T.obj _ _ st5)
    refine wpAny_passesOwn hp (thn (hg _ s5 σ3 H5 x u _ I5' r5 (step x H5 y5)) fun _ s6 ⟨σ6, H6, I6, q6⟩ => ?_)
    refine wpAny_passesOwn hp (thn (hb _ s6 σ6 H6 _ I6 q6) fun f s7 q7 => ?_)
    have again : ∀ {σ7 : St} {H7 : Hp}, Inv X (pins ++ pinsAt fp s5.heap) σ7 H7 s7 → N σ7 H7 → ∃ m, m < n ∧ ∃ i σ' H', Inv X pins σ' H' s7 ∧ tn i s7.heap ∧ (∀ b ∈ fp, H' b = none) ∧ W i m σ' H' := fun {σ7 H7} I7 n7 => by
      obtain ⟨m', hm, w7⟩ := hN σ7 H7 n7
      refine ⟨m', hm, i + 1, σ7, H7, I7.unpinned, T.keep _ _ _ st5 fun b hb o e => (I7.pin (b, o) (List.mem_append_right _ (List.mem_append_right _ (mem_pinsAt hb e)))).1, fun b hb => ?_, w7⟩
      obtain ⟨o, e, d⟩ := T.obj _ _ st5 b hb
      exact (I7.pin (b, o) (List.mem_append_right _ (List.mem_append_right _ (mem_pinsAt hb e)))).2.1
    cases f with
    | next => obtain ⟨σ7, H7, I7, n7⟩ := q7; exact again I7 n7
    | cont => obtain ⟨σ7, H7, I7, n7⟩ := q7; exact again I7 n7
    | brk => obtain ⟨σ7, H7, I7, q7⟩ := q7; exact ⟨σ7, H7, I7.unpinned, q7⟩
    | ret v => obtain ⟨x7, σ7, H7, I7, r7, q7⟩ := q7; exact ⟨x7, σ7, H7, I7.unpinned, r7, q7⟩
end
theorem for_list {K : PySem.W.Frag} {a : Addr} {xs : List V} {g : TG} {tb : TS} {D : Ends} {σ : St} {H : Hp} (Pv : Nat → St → Hp → Prop) (h0 : Pv 0 σ H) (hl : ∀ i σ H, i ≤ xs.length → Pv i σ H → SqL K H a xs)
    (hs : ∀ i x σ H, xs[i]? = some x → Pv i σ H → g x σ H fun σ2 H2 => tb { D with nx := Pv (i + 1), ct := Pv (i + 1), bk := D.nx } σ2 H2) (hd : ∀ σ H, Pv xs.length σ H → D.nx σ H) :
    ∃ W : Nat → Nat → St → Hp → Prop, (∃ m, W 0 m σ H) ∧ ∀ i m σ H, W i m σ H →
      ((Itl K a).stop i H ∧ D.nx σ H) ∨ ((Itl K a).go i H ∧ ∃ N : St → Hp → Prop, (∀ σ' H', N σ' H' → ∃ m', m' < m ∧ W (i + 1) m' σ' H') ∧ ∀ x H', (Itl K a).yld i H x H' → g x σ H' fun σ2 H2 => tb { D with nx := N, ct := N, bk := D.nx } σ2 H2) := by
  refine ⟨fun i m σ H => m = xs.length - i ∧ i ≤ xs.length ∧ Pv i σ H, ⟨xs.length, by simp, Nat.zero_le _, h0⟩, ?_⟩
  rintro i m σ H ⟨rfl, hi, p⟩
  have q := hl i σ H hi p
  by_cases hlt : i < xs.length
  · refine .inr ⟨⟨xs, xs[i], q, by simp [hlt]⟩, Pv (i + 1), fun σ' H' p' => ⟨xs.length - (i + 1), by omega, rfl, hlt, p'⟩, fun x H' y => ?_⟩
    obtain ⟨e, y⟩ := y
    subst e
    exact hs i x σ _ (y xs q) p
  · have e : i = xs.length := by omega
    subst e
    exact .inl ⟨⟨xs, q, Nat.le_refl _⟩, hd σ H p⟩
theorem for_range {lo : Int} {n : Nat} {g : TG} {tb : TS} {D : Ends} {σ : St} {H : Hp} (Pv : Nat → St → Hp → Prop) (h0 : Pv 0 σ H)
    (hs : ∀ i σ H, i < n → Pv i σ H → g (.int (lo + i)) σ H fun σ2 H2 => tb { D with nx := Pv (i + 1), ct := Pv (i + 1), bk := D.nx } σ2 H2) (hd : ∀ σ H, Pv n σ H → D.nx σ H) :
    ∃ W : Nat → Nat → St → Hp → Prop, (∃ m, W 0 m σ H) ∧ ∀ i m σ H, W i m σ H →
      ((Itr lo n).stop i H ∧ D.nx σ H) ∨ ((Itr lo n).go i H ∧ ∃ N : St → Hp → Prop, (∀ σ' H', N σ' H' → ∃ m', m' < m ∧ W (i + 1) m' σ' H') ∧ ∀ x H', (Itr lo n).yld i H x H' → g x σ H' fun σ2 H2 => tb { D with nx := N, ct := N, bk := D.nx } σ2 H2) := by
  refine ⟨fun i m σ H => m = n - i ∧ i ≤ n ∧ Pv i σ H, ⟨n, by simp, Nat.zero_le _, h0⟩, ?_⟩
  rintro i m σ H ⟨rfl, hi, p⟩
  by_cases hlt : i < n
  · refine .inr ⟨hlt, Pv (i + 1), fun σ' H' p' => ⟨n - (i + 1), by omega, rfl, hlt, p'⟩, fun x H' y => ?_⟩
    obtain ⟨e, y⟩ := y
    subst e y
    exact hs i σ _ hlt p
  · have e : i = n := by omega
    subst e
    exact .inl ⟨Nat.le_refl _, hd σ H p⟩
theorem while_by {c : TT} {tb : TS} {D : Ends} {σ : St} {H : Hp} (Pv : St → Hp → Prop) (μ : St → Hp → Nat) (h0 : Pv σ H)
    (hs : ∀ σ H, Pv σ H → c σ H fun b H1 => if b = true then tb { D with nx := fun σ' H' => Pv σ' H' ∧ μ σ' H' < μ σ H, ct := fun σ' H' => Pv σ' H' ∧ μ σ' H' < μ σ H, bk := D.nx } σ H1 else D.nx σ H1)
    (mono : ∀ σ H Q Q', (∀ b H1, Q b H1 → Q' b H1) → c σ H Q → c σ H Q') : tWhile c tb D σ H := by
  refine ⟨fun m σ H => m = μ σ H ∧ Pv σ H, ⟨_, rfl, h0⟩, ?_⟩
  rintro m σ H ⟨rfl, p⟩
  refine mono σ H _ _ (fun b H1 q => ?_) (hs σ H p)
  cases b with
  | true => exact ⟨_, fun σ' H' ⟨p', l⟩ => ⟨_, l, rfl, p'⟩, q⟩
  | false => exact q
end L2
namespace L2
open PySem PySem.Spec PyProof.Rows
abbrev R2 := V → V → Hp → VK → Prop
def OpR (X : Cx) (f : Value → Value → Sem Value) (r : R2) : Prop :=
  ∀ (pins : List (Addr × Obj)) (s : Shared) (σ : St) (H : Hp) (x y : V) (v u : Value) (Q : VK), Inv X pins σ H s → RelV x v → RelV y u → r x y H Q →
    wpAny (model X.prog X.w) X.A (f v u) (EP X pins σ Q) X.xe s
def UnR (X : Cx) (f : Value → Sem Value) (r : V → Hp → VK → Prop) : Prop :=
  ∀ (pins : List (Addr × Obj)) (s : Shared) (σ : St) (H : Hp) (x : V) (v : Value) (Q : VK), Inv X pins σ H s → RelV x v → r x H Q →
    wpAny (model X.prog X.w) X.A (f v) (EP X pins σ Q) X.xe s
def CallR (X : Cx) (f : Value) (r : List V → Hp → VK → Prop) : Prop :=
  ∀ (pins : List (Addr × Obj)) (s : Shared) (σ : St) (H : Hp) (xs : List V) (us : List Value) (Q : VK), Inv X pins σ H s → Vals xs us → r xs H Q →
    wpAny (model X.prog X.w) X.A (call f us) (EP X pins σ Q) X.xe s
def tOp (r : R2) (ta tb : TE) : TE := fun σ H Q => ta σ H fun x H1 => tb σ H1 fun y H2 => r x y H2 Q
def tUn (r : V → Hp → VK → Prop) (ta : TE) : TE := fun σ H Q => ta σ H fun x H1 => r x H1 Q
def rI (C : Int → Int → Prop) (g : Int → Int → V) : R2 := fun x y H Q => ∃ i j, x = .int i ∧ y = .int j ∧ C i j ∧ Q (g i j) H
def rI0 (g : Int → Int → V) : R2 := fun x y H Q => ∃ i j, x = .int i ∧ y = .int j ∧ Q (g i j) H
def rU (g : Int → V) : V → Hp → VK → Prop := fun x H Q => ∃ i, x = .int i ∧ Q (g i) H
section
variable {X : Cx} {a b c : Expr} {ta tb tc : TE} {pos : Pos}
theorem binT (ha : PE X a ta) (hb : PE X b tb) {pins : List (Addr × Obj)} {s : Shared} {σ : St} {H : Hp} {R : V → V → Hp → Prop} (I : Inv X pins σ H s)
    (h : ta σ H fun x H1 => tb σ H1 fun y H2 => R x y H2) {Q : Value → Shared → Prop} {f : Value → Value → Sem Value}
    (hf : ∀ v u s2 x y H2, Inv X pins σ H2 s2 → RelV x v → RelV y u → R x y H2 → wpAny (model X.prog X.w) X.A (f v u) Q X.xe s2) :
    wpAny (model X.prog X.w) X.A (eval a X.env) (fun v s₁ => wpAny (model X.prog X.w) X.A (eval b X.env) (fun u s₂ => wpAny (model X.prog X.w) X.A (f v u) Q X.xe s₂) X.xe s₁) X.xe s := by
  refine thn (ha pins s σ H _ I h) fun v s1 ⟨x, H1, I1, r1, q1⟩ => ?_
  refine thn (hb pins s1 σ H1 _ I1 q1) fun u s2 ⟨y, H2, I2, r2, q2⟩ => ?_
  exact hf v u s2 x y H2 I2 r1 r2 q2
theorem pe_op {op : Operator} {r : R2} (ho : OpR X (binaryOp op) r) (ha : PE X a ta) (hb : PE X b tb) : PE X (.BinOp a op b pos) (tOp r ta tb) := by
  intro pins s σ H Q I h
  exact wpAny_BinOp (binT ha hb I h fun v u s2 x y H2 I2 rx ry q => ho pins s2 σ H2 x y v u Q I2 rx ry q)
theorem pe_un {op : UnaryOp} {r : V → Hp → VK → Prop} (ho : UnR X (unaryOp op) r) (ha : PE X a ta) : PE X (.UnaryOp op a pos) (tUn r ta) := by
  intro pins s σ H Q I h
  exact UnaryOp_ (thn (ha pins s σ H _ I h) fun v s1 ⟨x, H1, I1, r1, q1⟩ => ho pins s1 σ H1 x v Q I1 r1 q1)
theorem opI {f : Value → Value → Sem Value} {C : Int → Int → Prop} {g : Int → Int → Int}
    (rule : ∀ (i j : Int) (t u : Tok) (s : Shared) (Q : Value → Shared → Prop) (E : Value → Shared → Prop), C i j → Q (.int (g i j) s.toks) { s with toks := s.toks + 1 } → wpAny (model X.prog X.w) X.A (f (.int i t) (.int j u)) Q E s) :
    OpR X f (rI C fun i j => .int (g i j)) := by
  intro pins s σ H x y v u Q I rx ry h
  obtain ⟨i, j, rfl, rfl, hc, q⟩ := h
  obtain ⟨t, rfl⟩ := rx
  obtain ⟨t', rfl⟩ := ry
  exact rule i j t t' s _ _ hc ⟨.int (g i j), H, I.tok _, ⟨_, rfl⟩, q⟩
theorem opI0 {f : Value → Value → Sem Value} {g : Int → Int → Int}
    (rule : ∀ (i j : Int) (t u : Tok) (s : Shared) (Q : Value → Shared → Prop) (E : Value → Shared → Prop), Q (.int (g i j) s.toks) { s with toks := s.toks + 1 } → wpAny (model X.prog X.w) X.A (f (.int i t) (.int j u)) Q E s) :
    OpR X f (rI0 fun i j => .int (g i j)) := by
  intro pins s σ H x y v u Q I rx ry h
  obtain ⟨i, j, rfl, rfl, q⟩ := h
  obtain ⟨t, rfl⟩ := rx
  obtain ⟨t', rfl⟩ := ry
  exact rule i j t t' s _ _ ⟨.int (g i j), H, I.tok _, ⟨_, rfl⟩, q⟩
theorem opB0 {f : Value → Value → Sem Value} {g : Int → Int → Bool}
    (rule : ∀ (i j : Int) (t u : Tok) (s : Shared) (Q : Value → Shared → Prop) (E : Value → Shared → Prop), Q (.bool (g i j)) s → wpAny (model X.prog X.w) X.A (f (.int i t) (.int j u)) Q E s) :
    OpR X f (rI0 fun i j => .bl (g i j)) := by
  intro pins s σ H x y v u Q I rx ry h
  obtain ⟨i, j, rfl, rfl, q⟩ := h
  obtain ⟨t, rfl⟩ := rx
  obtain ⟨t', rfl⟩ := ry
  exact rule i j t t' s _ _ ⟨.bl (g i j), H, I, rfl, q⟩
theorem op_add : OpR X (binaryOp .Add) (rI0 fun i j => .int (i + j)) := opI0 fun _ _ _ _ _ _ _ q => add_int q
theorem op_sub : OpR X (binaryOp .Sub) (rI0 fun i j => .int (i - j)) := opI0 fun _ _ _ _ _ _ _ q => sub_int q
theorem op_mod : OpR X (binaryOp .Mod) (rI (fun _ j => 0 < j) fun i j => .int (i % j)) := opI fun i j _ _ _ _ _ hc q => by
  have h1 : (0 : Int) < j := hc
  exact mod_int' (by omega) (by rw [Int.fmod_eq_emod_of_nonneg i (by omega)]; exact q)
theorem op_modN : OpR X (binaryOp .Mod) (rI (fun _ j => j ≠ 0) fun i j => .int (i.fmod j)) := opI fun _ _ _ _ _ _ _ hc q => mod_int' hc q
theorem unI {f : Value → Sem Value} {g : Int → Int}
    (rule : ∀ (i : Int) (t : Tok) (s : Shared) (Q : Value → Shared → Prop) (E : Value → Shared → Prop), Q (.int (g i) s.toks) { s with toks := s.toks + 1 } → wpAny (model X.prog X.w) X.A (f (.int i t)) Q E s) :
    UnR X f (rU fun i => .int (g i)) := by
  intro pins s σ H x v Q I rx h
  obtain ⟨i, rfl, q⟩ := h
  obtain ⟨t, rfl⟩ := rx
  exact rule i t s _ _ ⟨.int (g i), H, I.tok _, ⟨_, rfl⟩, q⟩
theorem un_neg : UnR X (unaryOp .USub) (rU fun i => .int (-i)) := unI fun _ _ _ _ _ q => neg_int q
end
def scal : V → V → Bool
  | .non, .non => true | .non, .int _ => true | .int _, .non => true | .non, .bl _ => true | .bl _, .non => true | .non, .str _ => true | .str _, .non => true
  | .int _, .int _ => true | .bl _, .bl _ => true | .str _, .str _ => true | .byt _, .byt _ => true
  | .int _, .str _ => true | .str _, .int _ => true | .bl _, .str _ => true | .str _, .bl _ => true
  | _, _ => false
def rEq : R2 := fun x y H Q => scal x y = true ∧ Q (.bl (decide (x = y))) H
def rNe : R2 := fun x y H Q => scal x y = true ∧ Q (.bl (!decide (x = y))) H
theorem dec_int {i j : Int} : decide (V.int i = V.int j) = (i == j) := by
  rw [Bool.eq_iff_iff]
  simp
theorem dec_bl {i j : Bool} : decide (V.bl i = V.bl j) = (i == j) := by
  rw [Bool.eq_iff_iff]
  simp
theorem dec_str {i j : Str} : decide (V.str i = V.str j) = (i == j) := by
  rw [Bool.eq_iff_iff]
  simp
theorem dec_byt {i j : Array UInt8} : decide (V.byt i = V.byt j) = (i.toList == j.toList) := by
  rw [Bool.eq_iff_iff]
  cases i
  cases j
  simp
section
variable {X : Cx} {a b c : Expr} {ta tb tc : TE} {pos : Pos}
theorem fin_bl {pins : List (Addr × Obj)} {σ : St} {H : Hp} {s : Shared} {Q : VK} {k k' : Bool} (I : Inv X pins σ H s) (q : Q (.bl k) H) (e : k = k') : EP X pins σ Q (.bool k') s := by
  subst e
  exact ⟨.bl k, H, I, rfl, q⟩
theorem op_eq : OpR X (compareOp .Eq) rEq := by
  intro pins s σ H x y v u Q I rx ry h
  obtain ⟨hs, q⟩ := h
  cases x with
  | non =>
    cases rx
    cases y with
    | non => cases ry; exact PySem.EqNone.eq_none_none (fin_bl I q (by simp))
    | bl j => cases ry; exact PySem.EqNone.eq_none_bool (fin_bl I q (by simp))
    | int j => obtain ⟨t', rfl⟩ := ry; exact PySem.EqNone.eq_none_int (fin_bl I q (by simp))
    | str j => obtain ⟨t', rfl⟩ := ry; exact PySem.EqNone.eq_none_str (fin_bl I q (by simp))
    | _ => exact absurd (show false = true from hs) Bool.false_ne_true
  | bl i =>
    cases rx
    cases y with
    | non => cases ry; exact PySem.EqNone.eq_bool_none (fin_bl I q (by simp))
    | bl j => cases ry; exact eq_bool (fin_bl I q dec_bl)
    | str j => obtain ⟨t', rfl⟩ := ry; exact PySem.EqMixed.eq_bool_str (fin_bl I q (by simp))
    | _ => exact absurd (show false = true from hs) Bool.false_ne_true
  | int i =>
    obtain ⟨t, rfl⟩ := rx
    cases y with
    | non => cases ry; exact PySem.EqNone.eq_int_none (fin_bl I q (by simp))
    | int j => obtain ⟨t', rfl⟩ := ry; exact eq_int (fin_bl I q dec_int)
    | str j => obtain ⟨t', rfl⟩ := ry; exact PySem.EqMixed.eq_int_str (fin_bl I q (by simp))
    | _ => exact absurd (show false = true from hs) Bool.false_ne_true
  | str i =>
    obtain ⟨t, rfl⟩ := rx
    cases y with
    | non => cases ry; exact PySem.EqNone.eq_str_none (fin_bl I q (by simp))
    | bl j => cases ry; exact PySem.EqMixed.eq_str_bool (fin_bl I q (by simp))
    | int j => obtain ⟨t', rfl⟩ := ry; exact PySem.EqMixed.eq_str_int (fin_bl I q (by simp))
    | str j => obtain ⟨t', rfl⟩ := ry; exact eq_str (fin_bl I q dec_str)
    | _ => exact absurd (show false = true from hs) Bool.false_ne_true
  | byt i =>
    obtain ⟨t, rfl⟩ := rx
    cases y with
    | byt j => obtain ⟨t', rfl⟩ := ry; exact PySem.W.eq_bytes (fin_bl I q dec_byt)
    | _ => exact absurd (show false = true from hs) Bool.false_ne_true
  | _ => cases y <;> exact absurd (show false = true from hs) Bool.false_ne_true
theorem op_ne : OpR X (compareOp .NotEq) rNe := by
  intro pins s σ H x y v u Q I rx ry h
  obtain ⟨hs, q⟩ := h
  cases x with
  | non =>
    cases rx
    cases y with
    | non => cases ry; exact PySem.EqNone.ne_none_none (fin_bl I q (by simp))
    | bl j => cases ry; exact PySem.EqNone.ne_none_bool (fin_bl I q (by simp))
    | int j => obtain ⟨t', rfl⟩ := ry; exact PySem.EqNone.ne_none_int (fin_bl I q (by simp))
    | str j => obtain ⟨t', rfl⟩ := ry; exact PySem.EqNone.ne_none_str (fin_bl I q (by simp))
    | _ => exact absurd (show false = true from hs) Bool.false_ne_true
  | bl i =>
    cases rx
    cases y with
    | non => cases ry; exact PySem.EqNone.ne_bool_none (fin_bl I q (by simp))
    | bl j => cases ry; exact ne_bool (fin_bl I q (congrArg not dec_bl))
    | str j => obtain ⟨t', rfl⟩ := ry; exact PySem.EqMixed.ne_bool_str (fin_bl I q (by simp))
    | _ => exact absurd (show false = true from hs) Bool.false_ne_true
  | int i =>
    obtain ⟨t, rfl⟩ := rx
    cases y with
    | non => cases ry; exact PySem.EqNone.ne_int_none (fin_bl I q (by simp))
    | int j => obtain ⟨t', rfl⟩ := ry; exact ne_int (fin_bl I q (congrArg not dec_int))
    | str j => obtain ⟨t', rfl⟩ := ry; exact PySem.EqMixed.ne_int_str (fin_bl I q (by simp))
    | _ => exact absurd (show false = true from hs) Bool.false_ne_true
  | str i =>
    obtain ⟨t, rfl⟩ := rx
    cases y with
    | non => cases ry; exact PySem.EqNone.ne_str_none (fin_bl I q (by simp))
    | bl j => cases ry; exact PySem.EqMixed.ne_str_bool (fin_bl I q (by simp))
    | int j => obtain ⟨t', rfl⟩ := ry; exact PySem.EqMixed.ne_str_int (fin_bl I q (by simp))
    | str j => obtain ⟨t', rfl⟩ := ry; exact ne_str (fin_bl I q (congrArg not dec_str))
    | _ => exact absurd (show false = true from hs) Bool.false_ne_true
  | byt i =>
    obtain ⟨t, rfl⟩ := rx
    cases y with
    | byt j => obtain ⟨t', rfl⟩ := ry; exact PySem.W.ne_bytes (fin_bl I q (congrArg not dec_byt))
    | _ => exact absurd (show false = true from hs) Bool.false_ne_true
  | _ => cases y <;> exact absurd (show false = true from hs) Bool.false_ne_true
theorem op_lt : OpR X (compareOp .Lt) (rI0 fun i j => .bl (decide (i < j))) := opB0 fun _ _ _ _ _ _ _ q => lt_int q
theorem op_le : OpR X (compareOp .LtE) (rI0 fun i j => .bl (decide (i ≤ j))) := opB0 fun _ _ _ _ _ _ _ q => le_int q
theorem op_gt : OpR X (compareOp .Gt) (rI0 fun i j => .bl (decide (j < i))) := opB0 fun _ _ _ _ _ _ _ q => gt_int q
theorem op_ge : OpR X (compareOp .GtE) (rI0 fun i j => .bl (decide (j ≤ i))) := opB0 fun _ _ _ _ _ _ _ q => ge_int q
theorem op_notN : OpR X (compareOp .IsNot) (fun x y H Q => y = .non ∧ Q (.bl (!decide (x = .non))) H) := by
  intro pins s σ H x y v u Q I rx ry h
  obtain ⟨rfl, q⟩ := h
  cases ry
  refine isnot_none_gen (fin_bl I q ?_)
  cases x <;> first
    | (cases rx; rfl)
    | (obtain ⟨t, rfl⟩ := rx; rfl)
theorem nomark (b : Expr) {op : CmpOp} (h : op ≠ .In := by decide) (h2 : op ≠ .NotIn := by decide) : behindInMarks op b = false := by
  have e1 : (op == CmpOp.In) = false := by cases op <;> first | rfl | exact absurd rfl h
  have e2 : (op == CmpOp.NotIn) = false := by cases op <;> first | rfl | exact absurd rfl h2
  cases b <;> simp [behindInMarks, e1, e2]
theorem pe_cmpR {op : CmpOp} {r : R2} (ho : OpR X (compareOp op) r) (ha : PE X a ta) (hb : PE X b tb) (hm : behindInMarks op b = false) : PE X (.Compare a [op] [b] pos) (tOp r ta tb) := by
  intro pins s σ H Q I h
  exact wpAny_Compare1 (binT ha hb I h fun v u s2 x y H2 I2 rx ry q => ho pins s2 σ H2 x y v u Q I2 rx ry q) hm
def tTest (t : TE) : TT := fun σ H Q => t σ H fun x H' => ∃ k, x = .bl k ∧ Q k H'
theorem pt_cmpR {op : CmpOp} {r : R2} (ho : OpR X (compareOp op) r) (ha : PE X a ta) (hb : PE X b tb) (hm : behindInMarks op b = false) : PT X (.Compare a [op] [b] pos) (tTest (tOp r ta tb)) := by
  intro pins s σ H Q I h
  refine wpAny_isTrue_Compare1 (thn (ha pins s σ H _ I h) fun v s1 ⟨x, H1, I1, r1, q1⟩ => thn (hb pins s1 σ H1 _ I1 q1) fun u s2 ⟨y, H2, I2, r2, q2⟩ =>
    thn (ho pins s2 σ H2 x y v u _ I2 r1 r2 q2) fun c s3 ⟨z, H3, I3, r3, k, e, q3⟩ => ?_) hm
  subst e
  cases r3
  exact wpAny_truthy_bool ⟨H3, I3, q3⟩
theorem line63 : (sizeLine : Nat) < 2 ^ 63 := by rw [sizeLine_eq]; decide
theorem vals1 {x : V} {us : List Value} (r : Vals [x] us) : ∃ u, us = [u] ∧ RelV x u := by
  cases r with
  | cons r1 r2 => cases r2; exact ⟨_, rfl, r1⟩
theorem vals2 {x y : V} {us : List Value} (r : Vals [x, y] us) : ∃ u w', us = [u, w'] ∧ RelV x u ∧ RelV y w' := by
  cases r with
  | cons r1 r2 =>
    cases r2 with
    | cons r3 r4 => cases r4; exact ⟨_, _, rfl, r1, r3⟩
theorem call_abs : CallR X (.builtin "abs") (fun xs H Q => ∃ i, xs = [.int i] ∧ Q (.int (if i < 0 then -i else i)) H) := by
  intro pins s σ H xs us Q I r h
  obtain ⟨i, rfl, q⟩ := h
  obtain ⟨u, rfl, t, rfl⟩ := vals1 r
  exact call_abs_int fun u tk => ⟨.int (if i < 0 then -i else i), H, I.tok _, ⟨_, rfl⟩, q⟩
theorem call_int1 : CallR X (.type "int") (fun xs H Q => (∃ i, xs = [.int i] ∧ Q (.int i) H) ∨ ∃ k, xs = [.bl k] ∧ Q (.int (if k then 1 else 0)) H) := by
  intro pins s σ H xs us Q I r h
  rcases h with ⟨i, rfl, q⟩ | ⟨k, rfl, q⟩
  · obtain ⟨u, rfl, t, rfl⟩ := vals1 r
    exact call_int_int ⟨.int i, H, I, ⟨_, rfl⟩, q⟩
  · obtain ⟨u, rfl, r1⟩ := vals1 r
    cases r1
    exact call_int_bool ⟨.int (if k then 1 else 0), H, I.tok _, ⟨_, rfl⟩, q⟩
end
end L2
namespace L2
open PySem PySem.Spec PyProof.Rows
structure ObjM (h : Heap) (x dx C : Addr) (mA : Str → Option Value) : Prop where
  obj : h.get? x = some (PySem.W.instObj C dx)
  ns : h.Ns1 dx mA
  ne : dx ≠ x
theorem lookIn_ns {h : Heap} {dx : Addr} {mA : Str → Option Value} (n : h.Ns1 dx mA) : ∃ od, h.get? dx = some od ∧ ∀ name, PySem.W.lookIn name od = some (mA name) := by
  obtain ⟨o, es, ep, ho, hd, hk, _, hm⟩ := n
  refine ⟨o, ho, fun name => ?_⟩
  have e := hm name
  unfold nsFind findBy at e
  rw [← Array.find?_toList] at e
  unfold PySem.W.lookIn
  rw [hd]
  dsimp only
  split
  · rename_i y q
    rw [q] at e
    exact congrArg some e
  · rename_i q
    rw [q] at e
    have a : es.toList.any (·.refKey) = false := by
      rw [List.any_eq_false]
      intro y hy
      obtain ⟨z, t, hkey⟩ := hk y (Array.mem_toList_iff.mp hy)
      simp [DictEntry.refKey, hkey]
    have a' : ¬ es.toList.any (·.refKey) = true := by rw [a]; exact Bool.false_ne_true
    rw [if_neg a']
    exact congrArg some e
theorem ObjM.look {h : Heap} {x dx C : Addr} {mA : Str → Option Value} (I : ObjM h x dx C mA) : ∃ od, PySem.W.InstAt h x (PySem.W.instObj C dx) C (some od) ∧ ∀ name, PySem.W.lookIn name od = some (mA name) :=
  let ⟨od, ho, hl⟩ := lookIn_ns I.ns
  ⟨od, ⟨I.obj, rfl, rfl, ho⟩, hl⟩
section
variable {prog : Program} {w : World} {A : Around} {E : Value → Shared → Prop} {s : Shared} {K : PySem.W.Frag} {x dx C f : Addr} {mA : Str → Option Value} {name : Str} {v : Value}
theorem get_map {expr : Bool} {Q : Value → Shared → Prop} (X : K.In s.heap) (I : ObjM s.heap x dx C mA) (hg : PySem.W.plainGet K C name = true) (hh : PySem.W.hasDictIn K C = true)
    (ha : PySem.W.findIn K (.ref C) name = some none) (hv : mA name = some v) (hv' : PySem.W.handedIn v = true) (h : Q v { s with toks := s.toks + 1 }) :
    wpAny (model prog w) A (getAttr (.ref x) name expr) Q E s := by
  obtain ⟨od, J, hl⟩ := I.look
  exact PySem.W.get_value X J (PySem.W.plainGet_of hg).1 (PySem.W.findObj_own hh ha rfl (by rw [hl, hv])) hv' h
theorem get_meth {pl : Sem Bool} {Q : Value × List Value → Shared → Prop} (X : K.In s.heap) (I : ObjM s.heap x dx C mA) (hg : PySem.W.plainGet K C name = true)
    (hf : PySem.W.findIn K (.ref C) name = some (some (.ref f))) (ht : PySem.W.isFn K (.ref f) = true) (hv : mA name = none) (h : Q (.ref f, [.ref x]) s) :
    wpAny (model prog w) A (getMethod (.ref x) name pl) Q E s := by
  obtain ⟨od, J, hl⟩ := I.look
  exact PySem.W.method_fn X J (PySem.W.plainGet_of hg).1 (PySem.W.plainGet_of hg).2 hf (beq_iff_eq.mp ht) (by show (PySem.W.lookIn name od).map (·.isSome) = some false; rw [hl, hv]; rfl) h
theorem set_map {ns : List Str} {Q : Unit → Shared → Prop} (X : K.In s.heap) (I : ObjM s.heap x dx C mA)
    (hs : PySem.W.findIn K (.ref C) "__setattr__" = some (some (.builtin "object.__setattr__"))) (hp : PySem.W.plainOver K C = true) (ht : PySem.W.takerIn K C name = some none) (hh : PySem.W.hasDictIn K C = true)
    (hw : PySem.Within mA ns) (hsz : ns.length ≤ sizeLine)
    (h : ∀ h', ObjM h' x dx C (fun y => if y = name then some v else mA y) → Heap.SameBut dx s.heap h' → Q () { s with heap := h', toks := s.toks + 2 }) :
    wpAny (model prog w) A (setAttr (.ref x) name v) Q E s := by
  obtain ⟨od, J, hl⟩ := I.look
  refine PySem.W.set_plain X J hs (PySem.W.osa_open (s := { s with toks := s.toks + 1 }) (r := none) X J hp ht fun b => ?_)
  obtain ⟨cd, hc, hd'⟩ := PySem.W.any_some hh
  have hx : s.heap.get? x = some ⟨.ref C, some dx, .plain, #[]⟩ := I.obj
  refine wpAny_bind (wpAny_pure (wpAny_bind (wpAny_bind (wpAny_loadPart hx (wpAny_bind (PySem.W.Looks.here (s := { s with toks := s.toks + 1 }) (PySem.W.looks_clsIn X hc) ?_))))))
  rw [hd']
  refine wpAny_pure (a := some dx) (wpAny_bind (wpAny_pure (wpAny_bind ?_)))
  refine wpAny_nsSet1 (s := { s with toks := s.toks + 1 }) I.ns fun h' hn2 hs2 => ?_
  obtain ⟨oD, esD, epD, hoD, hdD, hcD⟩ := hn2.count (PySem.Within.cons name v hw)
  refine wpAny_bind (wpAny_lookBehind hoD (by rw [hdD]; exact pastItsLine_dict (Nat.le_trans hcD (by rw [List.length_cons]; omega))) ?_)
  exact wpAny_pure (h _ ⟨(hs2.2 _ (Ne.symm I.ne)).trans I.obj, hn2, I.ne⟩ hs2)
theorem make_map {R : Result → Shared → Prop} {vs : List Value} {kw : List (Str × Value)} (X : K.In s.heap) (hm : PySem.W.makesIn K C = true)
    (hi : PySem.W.findIn K (.ref C) "__init__" = some (some (.ref f))) (hf : PySem.W.typeIn K (.ref f) = some (.type "function"))
    (h : codeAny (model prog w) (A.under (.builtin "type.__call__" ⟨.ref C :: vs, kw⟩)) (.call (.ref f) ⟨.ref (s.heap.objs.size + 1) :: vs, kw⟩) (PySem.W.InitBack (s.heap.objs.size + 1) R)
      { s with heap := (s.heap.push PySem.W.emptyDict).push (PySem.W.instObj C s.heap.objs.size) }) :
    codeAny (model prog w) A (.call (.ref C) ⟨vs, kw⟩) R s := by
  obtain ⟨hh, g, d, t, os⟩ := s
  exact PySem.W.make_core (PySem.W.makes_of X hm) (PySem.W.looks_findIn X hi) (fun self => PySem.W.bind_fn X self hf) (.inl rfl) h
end
def putF (f : Str) (v : V) : List (Str × V) → List (Str × V)
  | [] => [(f, v)]
  | (g, x) :: r => if g = f then (g, v) :: r else (g, x) :: putF f v r
theorem lookup_putF (f g : Str) (v : V) : ∀ fs : List (Str × V), (putF f v fs).lookup g = if g = f then some v else fs.lookup g
  | [] => by
    show List.lookup g [(f, v)] = _
    by_cases h : g = f
    · have hb : (g == f) = true := beq_iff_eq.mpr h
      simp only [List.lookup, hb, if_pos h]
    · have hb : (g == f) = false := beq_eq_false_iff_ne.mpr h
      simp only [List.lookup, hb, if_neg h]
  | (k, x) :: r => by
    have ih := lookup_putF f g v r
    rw [show putF f v ((k, x) :: r) = (if k = f then (k, v) :: r else (k, x) :: putF f v r) from rfl]
    by_cases hk : k = f
    · rw [if_pos hk]
      by_cases h : g = k
      · have hb : (g == k) = true := beq_iff_eq.mpr h
        simp only [List.lookup, hb, if_pos (h.trans hk)]
      · have hb : (g == k) = false := beq_eq_false_iff_ne.mpr h
        simp only [List.lookup, hb, if_neg (fun e : g = f => h (e.trans hk.symm))]
    · rw [if_neg hk]
      by_cases h : g = k
      · have hb : (g == k) = true := beq_iff_eq.mpr h
        simp only [List.lookup, hb, if_neg (fun e : g = f => hk (h.symm.trans e))]
      · have hb : (g == k) = false := beq_eq_false_iff_ne.mpr h
        simp only [List.lookup, hb]
        exact ih
theorem keys_putF (f : Str) (v : V) : ∀ fs : List (Str × V), f ∈ (putF f v fs).map (·.1) ∧ ∀ g, g ∈ fs.map (·.1) → g ∈ (putF f v fs).map (·.1)
  | [] => ⟨by simp [putF], fun g h => by simp at h⟩
  | (k, x) :: r => by
    obtain ⟨i1, i2⟩ := keys_putF f v r
    rw [show putF f v ((k, x) :: r) = (if k = f then (k, v) :: r else (k, x) :: putF f v r) from rfl]
    by_cases hk : k = f
    · rw [if_pos hk]
      subst hk
      exact ⟨by simp, fun g h => by simpa using h⟩
    · rw [if_neg hk]
      refine ⟨?_, fun g h => ?_⟩
      · rw [List.map_cons]
        exact List.mem_cons_of_mem _ i1
      · rw [List.map_cons] at h ⊢
        rcases List.mem_cons.mp h with e | e
        · exact List.mem_cons.mpr (.inl e)
        · exact List.mem_cons_of_mem _ (i2 g e)
theorem length_putF (f : Str) (v : V) : ∀ fs : List (Str × V), (putF f v fs).length ≤ fs.length + 1
  | [] => by simp [putF]
  | (k, x) :: r => by
    have ih := length_putF f v r
    rw [show putF f v ((k, x) :: r) = (if k = f then (k, v) :: r else (k, x) :: putF f v r) from rfl]
    by_cases hk : k = f
    · rw [if_pos hk, List.length_cons, List.length_cons]; omega
    · rw [if_neg hk, List.length_cons, List.length_cons]; omega
theorem RelO.some_of {v : V} {o : Option Value} (r : RelO (some v) o) : ∃ u, o = some u ∧ RelV v u := by
  cases o with
  | none => exact (show False from r).elim
  | some u => exact ⟨u, rfl, r⟩
theorem RelO.none_of {o : Option Value} (r : RelO none o) : o = none := by
  cases o with
  | none => rfl
  | some u => exact (show False from r).elim
theorem handed_of {v : V} {u : Value} (r : RelV v u) : PySem.W.handedIn u = true := by
  cases v with
  | non => cases (show u = Value.none from r); rfl
  | bl b => cases (show u = Value.bool b from r); rfl
  | int i => obtain ⟨t, e⟩ := (show ∃ t, u = Value.int i t from r); cases e; rfl
  | str x => obtain ⟨t, e⟩ := (show ∃ t, u = Value.str x t from r); cases e; rfl
  | byt b => obtain ⟨t, e⟩ := (show ∃ t, u = Value.bytes b t from r); cases e; rfl
  | flt b => obtain ⟨t, e⟩ := (show ∃ t, u = Value.float b t from r); cases e; rfl
  | ref a => cases (show u = Value.ref a from r); rfl
  | ty n => cases (show u = Value.type n from r); rfl
section
variable {P : Program} {w : World} {H H' : Hp} {h h' : Heap} {a C dx : Addr} {fs fs' : List (Str × V)}
theorem ins_get (hok : HOk P w H h) (e : H a = some (.ins C dx fs)) : ∃ mA, ObjM h a dx C mA ∧ (∀ f, RelO (fs.lookup f) (mA f)) ∧ PySem.Within mA (fs.map (·.1)) ∧ fs.length ≤ 1000 ∧ H dx = some (.own a) := by
  obtain ⟨d, z, ne, ob, mA, n, r, q⟩ := (show ObjOk P w H h a (.ins C dx fs) from hok a _ e)
  exact ⟨mA, ⟨ob, n, ne⟩, r, q, z, d⟩
end
structure Cls (K : PySem.W.Frag) (C : Addr) : Prop where
  pg : PySem.W.plainGet K C Str.empty = true
  hd : PySem.W.hasDictIn K C = true
  po : PySem.W.plainOver K C = true
  sa : PySem.W.findIn K (.ref C) "__setattr__" = some (some (.builtin "object.__setattr__"))
theorem Cls.get {K : PySem.W.Frag} {C : Addr} (c : Cls K C) (f : Str) : PySem.W.plainGet K C f = true := c.pg
def NoAttr (K : PySem.W.Frag) (C : Addr) (f : Str) : Prop := PySem.W.findIn K (.ref C) f = some none
theorem NoAttr.taker {K : PySem.W.Frag} {C : Addr} {f : Str} (n : NoAttr K C f) : PySem.W.takerIn K C f = some none := by
  unfold PySem.W.takerIn
  rw [show PySem.W.findIn K (.ref C) f = some none from n]
  rfl
structure Meth (K : PySem.W.Frag) (C : Addr) (m : Str) (f : Addr) : Prop where
  at_ : PySem.W.findIn K (.ref C) m = some (some (.ref f))
  fn : PySem.W.isFn K (.ref f) = true
  kp : PySem.W.keepIn K (.ref f) = true
section
variable {X : Cx} {pins : List (Addr × Obj)} {σ : St} {H : Hp} {s : Shared} {a C dx : Addr} {fs : List (Str × V)} {f : Str} {v : V} {A : Around} {E : Value → Shared → Prop}
theorem getattr_ok {b : Bool} {Q : Value → Shared → Prop} (I : Inv X pins σ H s) (e : H a = some (.ins C dx fs)) (c : Cls X.K C) (n : NoAttr X.K C f) (l : fs.lookup f = some v)
    (h : ∀ u s', Inv X pins σ H s' → RelV v u → Q u s') : wpAny (model X.prog X.w) A (getAttr (.ref a) f b) Q E s := by
  obtain ⟨mA, O, r, _, _, _⟩ := ins_get I.hok e
  obtain ⟨u, hu, ru⟩ := RelO.some_of (v := v) (o := mA f) (by rw [← l]; exact r f)
  exact get_map I.kIn O (c.get f) c.hd n hu (handed_of ru) (h u _ (I.tok _) ru)
theorem getmeth_ok {m : Str} {g : Addr} {pl : Sem Bool} {Q : Value × List Value → Shared → Prop} (I : Inv X pins σ H s) (e : H a = some (.ins C dx fs)) (c : Cls X.K C) (k : Meth X.K C m g) (l : fs.lookup m = none)
    (h : Q (.ref g, [.ref a]) s) : wpAny (model X.prog X.w) A (getMethod (.ref a) m pl) Q E s := by
  obtain ⟨mA, O, r, _, _, _⟩ := ins_get I.hok e
  have hn : mA m = none := RelO.none_of (by rw [← l]; exact r m)
  exact get_meth I.kIn O (c.get m) k.at_ k.fn hn h
theorem setattr_ok {y : V} {u : Value} {Q : Unit → Shared → Prop} (I : Inv X pins σ H s) (e : H a = some (.ins C dx fs)) (c : Cls X.K C) (n : NoAttr X.K C f) (hl : fs.length < 1000) (ry : RelV y u)
    (h : ∀ s', Inv X pins σ (upd H a (.ins C dx (putF f y fs))) s' → Q () s') : wpAny (model X.prog X.w) A (setAttr (.ref a) f u) Q E s := by
  obtain ⟨mA, O, r, wi, _, ho⟩ := ins_get I.hok e
  have hz : (fs.map (·.1)).length ≤ sizeLine := by rw [List.length_map, sizeLine_eq]; omega
  refine set_map I.kIn O c.sa c.po n.taker c.hd wi hz fun h' O' sb => h _ ?_
  have hd : ∃ o, h'.get? dx = some o := let ⟨o, _, _, e', _⟩ := O'.ns; ⟨o, e'⟩
  refine I.write (x := a) (e := dx) (by rw [e]; exact True.intro) (.inr ho) (fun b q hb z => (sb.2 b hb).trans z) hd ?_
  refine ⟨by rw [upd_ne O.ne]; exact ho, ?_, O.ne, O'.obj, _, O'.ns, fun g => ?_, fun g hg => ?_⟩
  · have := length_putF f y fs; omega
  · show RelO ((putF f y fs).lookup g) (if g = f then some u else mA g)
    rw [lookup_putF]
    by_cases q : g = f
    · rw [if_pos q, if_pos q]; exact ry
    · rw [if_neg q, if_neg q]; exact r g
  · by_cases q : g = f
    · rw [q]; exact (keys_putF f y fs).1
    · refine (keys_putF f y fs).2 g (wi g fun z => hg ?_)
      show (if g = f then some u else mA g) = none
      rw [if_neg q]; exact z
theorem Inv.made (I : Inv X pins σ H s) : Inv X pins σ (upd (upd H s.heap.objs.size (.own (s.heap.objs.size + 1))) (s.heap.objs.size + 1) (.ins C s.heap.objs.size []))
    { s with heap := (s.heap.push PySem.W.emptyDict).push (PySem.W.instObj C s.heap.objs.size) } := by
  have e1 : (s.heap.push PySem.W.emptyDict).get? s.heap.objs.size = some PySem.W.emptyDict := Heap.get?_push_size s.heap rfl
  have e2 : ((s.heap.push PySem.W.emptyDict).push (PySem.W.instObj C s.heap.objs.size)).get? (s.heap.objs.size + 1) = some (PySem.W.instObj C s.heap.objs.size) := by
    have := Heap.get?_push_size (s.heap.push PySem.W.emptyDict) (o := PySem.W.instObj C s.heap.objs.size) rfl
    rwa [Heap.size_push] at this
  have e3 : (s.heap.push PySem.W.emptyDict).Ns s.heap.objs.size (fun _ => none) := ⟨PySem.W.emptyDict, #[], _, e1, rfl, (fun e he => absurd he (by simp)), fun _ => rfl⟩
  have I1 := I.laid (a := s.heap.objs.size) (o := .own (s.heap.objs.size + 1)) (h' := s.heap.push PySem.W.emptyDict) (t' := s.toks) (fun b u q => Heap.get?_push_of_some _ q) (Nat.le_refl _) ⟨_, e1⟩
  refine I1.laid (a := s.heap.objs.size + 1) (o := .ins C s.heap.objs.size []) (t' := s.toks) (fun b u q => Heap.get?_push_of_some _ q) (Nat.le_of_eq (Heap.size_push _ _)) ?_
  have ne : s.heap.objs.size ≠ s.heap.objs.size + 1 := Nat.ne_of_lt (Nat.lt_succ_self _)
  refine ⟨by rw [upd_ne ne, upd_same], Nat.zero_le _, ne, e2, fun _ => none, (Heap.Ns1.of_empty e3).at fun o q => Heap.get?_push_of_some _ q, fun _ => True.intro, fun y hy => absurd rfl hy⟩
theorem attr_of {prog : Program} {w : World} {env : Env} {e : Expr} {f : Str} {pos : Pos} {s : Shared} {Q : Value → Shared → Prop} (hb : attributeBase e f env (eval e env) = eval e env)
    (h : wpAny (model prog w) A (eval e env) (fun o s₁ => wpAny (model prog w) A (getAttr o f true) Q E s₁) E s) : wpAny (model prog w) A (eval (.Attribute e f pos) env) Q E s :=
  Attribute_any_ h (by rw [arm_eval_Attribute, hb])
end
def tFld (K : PySem.W.Frag) (ta : TE) (f : Str) : TE := fun σ H Q => ta σ H fun x H1 => ∃ a C dx fs v, x = .ref a ∧ H1 a = some (.ins C dx fs) ∧ Cls K C ∧ NoAttr K C f ∧ fs.lookup f = some v ∧ Q v H1
def sFld (K : PySem.W.Frag) (ta tv : TE) (f : Str) : TS := fun D σ H => tv σ H fun y H1 => ta σ H1 fun x H2 => ∃ a C dx fs, x = .ref a ∧ H2 a = some (.ins C dx fs) ∧ Cls K C ∧ NoAttr K C f ∧ fs.length < 1000 ∧
  D.nx σ (upd H2 a (.ins C dx (putF f y fs)))
section
variable {X : Cx} {o e value : Expr} {f : Str} {pos pos' tpos : Pos} {ta tv : TE}
theorem pe_fld (he : PE X e ta) (hb : attributeBase e f X.env (eval e X.env) = eval e X.env) : PE X (.Attribute e f pos) (tFld X.K ta f) := by
  intro pins s σ H Q I h
  refine attr_of hb (thn (he pins s σ H _ I h) fun u s1 ⟨x, H1, I1, rx, a, C, dx, fs, v, ex, ea, c, n, l, q⟩ => ?_)
  subst ex
  obtain rfl : u = Value.ref a := rx
  exact getattr_ok I1 ea c n l fun u' s2 I2 ru => ⟨v, H1, I2, ru, q⟩
theorem ps_fld (ha : PE X o ta) (hv : PE X value tv) (hs : swapsWith value (some (.Attribute o f pos')) pos.line X.env = pure false) : PS X (.Assign [.Attribute o f pos'] value pos) (sFld X.K ta tv f) := by
  intro pins s σ H D I h
  refine plainObj_wpAny_Assign_Attribute (thn (hv pins s σ H _ I h) fun u s1 ⟨y, H1, I1, ry, q⟩ => thn (ha pins s1 σ H1 _ I1 q) fun ov s2 ⟨x, H2, I2, rx, a, C, dx, fs, ex, ea, c, n, l, q2⟩ => ?_) hs
  subst ex
  obtain rfl : ov = Value.ref a := rx
  exact setattr_ok I2 ea c n l ry fun s3 I3 => ⟨σ, _, I3, q2⟩
end
section
variable {X : Cx} {pins : List (Addr × Obj)} {σ : St} {H : Hp} {s : Shared} {A : Around} {E : Value → Shared → Prop} {Q : Value → Shared → Prop} {c : Value} {b : Bool}
inductive TyOf (K : PySem.W.Frag) (H : Hp) : V → Value → Prop where
  | non : TyOf K H .non (.type "NoneType")
  | bl (x : Bool) : TyOf K H (.bl x) (.type "bool")
  | int (i : Int) : TyOf K H (.int i) (.type "int")
  | str (x : Str) : TyOf K H (.str x) (.type "str")
  | flt (x : UInt64) : TyOf K H (.flt x) (.type "float")
  | lst {a : Addr} {xs : List V} (e : H a = some (.lst xs)) : TyOf K H (.ref a) (.type "list")
  | frz {a : Addr} {o : Obj} {xs : List V} (e : H a = some (.frz o (.lst xs))) : TyOf K H (.ref a) (.type "list")
  | tup {a : Addr} {xs : List V} (e : H a = some (.tup xs)) : TyOf K H (.ref a) (.type "tuple")
  | dK {a : Addr} {kvs : List (Key × V)} (e : H a = some (.dK kvs)) : TyOf K H (.ref a) (.type "dict")
  | dT {a : Addr} {kvs : List (List Key × V)} (e : H a = some (.dT kvs)) : TyOf K H (.ref a) (.type "dict")
  | ins {a C dx : Addr} {fs : List (Str × V)} (e : H a = some (.ins C dx fs)) (cl : Cls K C) (ha : PySem.W.findIn K (.ref C) "__class__" = some (some (.builtin "object.__class__")))
      (hn : PySem.W.specialIn K (.builtin "object.__class__") "__get__" = some (some (.builtin "getset_descriptor.__get__"))) (htk : PySem.W.takesIn K (.builtin "object.__class__") = some true)
      (hm : PySem.W.mroIn K C (.type "object") = some true) : TyOf K H (.ref a) (.ref C)
theorem isinst_ok {x : V} {u t : Value} (I : Inv X pins σ H s) (rx : RelV x u) (ty : TyOf X.K H x t) (e : PySem.W.kitOne X.K t c = some b) (h : ∀ tk, Q (.bool b) { s with toks := tk }) :
    wpAny (model X.prog X.w) A (call (.builtin "isinstance") [u, c]) Q E s := by
  cases ty with
  | non => cases (show u = Value.none from rx); exact PySem.W.kia_one PySem.W.kitx_none I.kIn True.intro e (fun z => nomatch z) h
  | bl y => cases (show u = Value.bool y from rx); exact PySem.W.kia_one PySem.W.kitx_bool I.kIn True.intro e (fun z => nomatch z) h
  | int i => obtain ⟨t, q⟩ := (show ∃ t, u = Value.int i t from rx); cases q; exact PySem.W.kia_one PySem.W.kitx_int I.kIn True.intro e (fun z => nomatch z) h
  | str y => obtain ⟨t, q⟩ := (show ∃ t, u = Value.str y t from rx); cases q; exact PySem.W.kia_one PySem.W.kitx_str I.kIn True.intro e (fun z => nomatch z) h
  | flt y => obtain ⟨t, q⟩ := (show ∃ t, u = Value.float y t from rx); cases q; exact PySem.W.kia_one PySem.W.kitx_float I.kIn True.intro e (fun z => nomatch z) h
  | @lst a xs ea =>
    cases (show u = Value.ref a from rx)
    obtain ⟨_, _, n, _, h1⟩ := (show ObjOk X.prog X.w H s.heap a (.lst xs) from I.hok a _ ea)
    exact PySem.W.kia_one PySem.W.kitx_list I.kIn ⟨_, h1, rfl⟩ e (fun z => nomatch z) h
  | @frz a ob xs ea =>
    cases (show u = Value.ref a from rx)
    obtain ⟨_, _, _, n, _, h1⟩ := (show ObjOk X.prog X.w H s.heap a (.frz ob (.lst xs)) from I.hok a _ ea)
    exact PySem.W.kia_one PySem.W.kitx_list I.kIn ⟨_, h1, rfl⟩ e (fun z => nomatch z) h
  | @tup a xs ea =>
    cases (show u = Value.ref a from rx)
    obtain ⟨_, _, _, p⟩ := (show ObjOk X.prog X.w H s.heap a (.tup xs) from I.hok a _ ea)
    obtain ⟨o, h1, h2, _⟩ := p
    exact PySem.W.kia_one PySem.W.kitx_tuple I.kIn ⟨o, h1, h2⟩ e (fun z => nomatch z) h
  | @dK a kvs ea =>
    cases (show u = Value.ref a from rx)
    obtain ⟨_, _, vs, _, p⟩ := (show ObjOk X.prog X.w H s.heap a (.dK kvs) from I.hok a _ ea)
    obtain ⟨o, es, ep, h1, h2, _⟩ := p
    exact PySem.W.kia_one PySem.W.kitx_dict I.kIn ⟨o, h1, h2.1⟩ e (fun z => nomatch z) h
  | @dT a kvs ea =>
    cases (show u = Value.ref a from rx)
    obtain ⟨_, _, xs, _, o, es, ep, h1, h2, _⟩ := (show ObjOk X.prog X.w H s.heap a (.dT kvs) from I.hok a _ ea)
    exact PySem.W.kia_one PySem.W.kitx_dict I.kIn ⟨o, h1, h2.1⟩ e (fun z => nomatch z) h
  | @ins a C dx fs ea cl ha hn htk hm =>
    cases (show u = Value.ref a from rx)
    obtain ⟨mA, O, _⟩ := ins_get I.hok ea
    obtain ⟨od, J, _⟩ := O.look
    exact PySem.W.kia_one (PySem.W.kitx_own (cl.get _) cl.hd ha hn htk hm) I.kIn J e (fun z => nomatch z) h
end
end L2
namespace L2
open PySem PySem.Spec PyProof.Rows
structure Room (k : Nat) (A : Around) : Prop where
  hd : A.handled = none
  dp : A.depth + 3 * k + 5 < recursionLimit
  un : A.units + 16 * k + 200 < cLine
theorem Room.mono {j k : Nat} {A : Around} (r : Room k A) (h : j ≤ k) : Room j A := ⟨r.hd, by have := r.dp; omega, by have := r.un; omega⟩
theorem Room.deeper {k : Nat} {A : Around} (r : Room (k + 1) A) (env : Env) : Room k (A.deeper env) :=
  ⟨r.hd, by have := r.dp; show A.depth + 1 + 3 * k + 5 < _; omega, by have := r.un; show A.units + 3 + 16 * k + 200 < _; omega⟩
theorem make_depth {A : Around} {C : Addr} {us : List Value} {kw : List (Str × Value)} : (A.under (.builtin "type.__call__" ⟨.ref C :: us, kw⟩)).depth = A.depth + 1 := by
  first | rfl | simp [Around.under, Code.weight, Code.isCreation, Code.isGuard, Code.isCaller, Code.frames, Code.isFrame, guardIds]
theorem make_units {A : Around} {C : Addr} {us : List Value} {kw : List (Str × Value)} : (A.under (.builtin "type.__call__" ⟨.ref C :: us, kw⟩)).units = A.units + 1 := by
  first | rfl | simp [Around.under, Code.cUnits, Code.frames, Code.isFrame]
theorem Room.make {k : Nat} {A : Around} (r : Room (k + 1) A) (C : Addr) (us : List Value) (kw : List (Str × Value)) : Room k (A.under (.builtin "type.__call__" ⟨.ref C :: us, kw⟩)) :=
  ⟨r.hd, by have := r.dp; rw [make_depth]; omega, by have := r.un; rw [make_units]; omega⟩
theorem Room.depth {k : Nat} {A : Around} (r : Room k A) : A.depth < recursionLimit := by have := r.dp; omega
theorem Room.units {k : Nat} {A : Around} (r : Room k A) : A.units + 64 < cLine := by have := r.un; omega
def tNil : TA := fun _ H Q => Q [] H
def tCons (ta : TE) (tr : TA) : TA := fun σ H Q => ta σ H fun x H1 => tr σ H1 fun xs H2 => Q (x :: xs) H2
section
variable {X : Cx} {e : Expr} {es : List Expr} {te : TE} {t : TA} {pos : Pos}
theorem pa_nil : PA X [] tNil := fun _ _ _ _ H Q I h => Calls.spliced_nil ⟨[], H, I, .nil, h⟩
theorem pa_cons (ha : PE X e te) (hr : PA X es t) (hs : starEach (e :: es) X.env = (false, eval e X.env) :: starEach es X.env := by rfl) : PA X (e :: es) (tCons te t) := by
  intro pos pins s σ H Q I h
  rw [hs]
  show wpAny _ _ (spliced ((false, eval e X.env) :: backTo pos (starEach es X.env))) _ _ s
  refine Calls.spliced_cons (thn (ha pins s σ H _ I h) fun u s1 ⟨x, H1, I1, r1, q1⟩ => ?_)
  exact thn (hr pos pins s1 σ H1 _ I1 q1) fun us s2 ⟨xs, H2, I2, r2, q2⟩ => ⟨x :: xs, H2, I2, .cons r1 r2, q2⟩
def tTup (t : TA) : TE := fun σ H Q => t σ H fun xs H1 => xs.length ≤ sizeLine ∧ ∀ p, H1 p = none → Q (.ref p) (upd H1 p (.tup xs))
def tLst (t : TA) : TE := fun σ H Q => t σ H fun xs H1 => xs.length ≤ sizeLine ∧ ∀ p, H1 p = none → Q (.ref p) (upd H1 p (.lst xs))
theorem pe_tup {x1} (h : PA X es t) : PE X (.Tuple es x1 pos) (tTup t) := by
  intro pins s σ H Q I hq
  refine wpAny_Tuple_spliced (thn (h pos pins s σ H _ I hq) fun us s1 ⟨xs, H1, I1, r, z, q⟩ => ⟨by rw [← r.length]; exact z, ?_⟩)
  have hf : H1 s1.heap.objs.size = none := I1.hok.fresh (Nat.le_refl _)
  refine ⟨.ref s1.heap.objs.size, upd H1 s1.heap.objs.size (.tup xs), I1.laid (t' := s1.toks) (fun b u e => Heap.get?_push_of_some _ e) (Nat.le_refl _) ?_, rfl, q _ hf⟩
  exact ⟨z, us, r, ⟨_, Heap.get?_push_size _ rfl, rfl, _, rfl⟩⟩
theorem pe_lst (h : PA X es t) : PE X (.List es pos) (tLst t) := by
  intro pins s σ H Q I hq
  refine wpAny_List_spliced (thn (h pos pins s σ H _ I hq) fun us s1 ⟨xs, H1, I1, r, z, q⟩ => ⟨by rw [← r.length]; exact z, ?_⟩)
  have hf : H1 s1.heap.objs.size = none := I1.hok.fresh (Nat.le_refl _)
  refine ⟨.ref s1.heap.objs.size, upd H1 s1.heap.objs.size (.lst xs), I1.laid (t' := s1.toks) (fun b u e => Heap.get?_push_of_some _ e) (Nat.le_refl _) ?_, rfl, q _ hf⟩
  exact ⟨z, us, 0, r, Heap.get?_push_size _ rfl⟩
end
abbrev Sp := List V → Hp → VK → XK → Prop
abbrev CXT := List Env → Hp → Shared → XK → Value → Shared → Prop
structure Env0 (P : Program) (w : World) (K : PySem.W.Frag) (mg : Str → Option Value) (base : Heap) (A : Around) (outer : List Env) (s : Shared) (H : Hp) : Prop where
  frames : A.frames = some outer
  mod : Mod K mg base
  bs : ∀ b o, base.get? b = some o → s.heap.get? b = some o ∧ H b = none
  bsz : base.objs.size ≤ s.heap.objs.size
  funs : s.heap.FunFrames base outer
  frf : ∀ b ∈ frs outer, H b = none
  hok : HOk P w H s.heap
  bare : AllBare s.gens
def CE (outer : List Env) (P : Program) (w : World) (H : Hp) (s : Shared) (Q : VK) (u : Value) (s' : Shared) : Prop :=
  ∃ v H', s'.os = s.os ∧ AllBare s'.gens ∧ Un (frs outer) [] H H' s.heap s'.heap ∧ HOk P w H' s'.heap ∧ RelV v u ∧ Q v H'
def CR (CX : CXT) (outer : List Env) (P : Program) (w : World) (H : Hp) (s : Shared) (Q : VK) (E : XK) (r : Result) (s' : Shared) : Prop :=
  match r with
  | .ok (.ret u) => CE outer P w H s Q u s'
  | .ok _ => False
  | .error e => CX outer H s E e s'
structure FnOk (P : Program) (w : World) (K : PySem.W.Frag) (mg : Str → Option Value) (base : Heap) (CX : CXT) (k : Nat) (f : Addr) (fd : FuncData) (ps : List Str) (sp : Sp) : Prop where
  len : ∀ vs H Q E, sp vs H Q E → vs.length = ps.length
  run : ∀ (A : Around) (outer : List Env) (s : Shared) (H : Hp) (args : Args) (us : List Value) (vs : List V) (Q : VK) (E : XK), Room k A → Env0 P w K mg base A outer s H → BindsTo s fd args (ps.zip us) → Vals vs us → sp vs H Q E →
    codeAny (model P w) A (.call (.ref f) args) (CR CX outer P w H s Q E) s
theorem Env0.make {P : Program} {w : World} {K : PySem.W.Frag} {mg : Str → Option Value} {base : Heap} {A : Around} {outer : List Env} {s : Shared} {H : Hp} (e : Env0 P w K mg base A outer s H) (C : Addr) (us : List Value) (kw : List (Str × Value)) :
    Env0 P w K mg base (A.under (.builtin "type.__call__" ⟨.ref C :: us, kw⟩)) outer s H := ⟨by first | exact e.frames | (simpa [Around.under, Code.envs, Code.isFrame, pushEnvs] using e.frames), e.mod, e.bs, e.bsz, e.funs, e.frf, e.hok, e.bare⟩
section
variable {X : Cx} {pins : List (Addr × Obj)} {σ : St} {H : Hp} {s s' : Shared}
theorem Inv.env0 (I : Inv X pins σ H s) : Env0 X.prog X.w X.K X.mg X.base X.A X.stack s H :=
  ⟨I.ok.frames, I.ok.mod, I.bs, Nat.le_trans I.ok.bsz I.sz, I.stack, I.stkFree, I.hok, I.bare⟩
theorem Inv.after {Q : VK} {u : Value} (I : Inv X pins σ H s) (h : CE X.stack X.prog X.w H s Q u s') : EP X pins σ Q u s' := by
  obtain ⟨v, H', os, bare, un, hok, r, q⟩ := h
  obtain ⟨hh, g, d, t, os'⟩ := s'
  obtain rfl : os' = s.os := os
  exact ⟨v, H', I.call (h' := hh) (g' := g) (d' := d) (t' := t) (ch := []) un hok bare (fun b z => absurd z (by simp)), r, q⟩
end
def tCall (sp : Sp) (dvs : List V) (E : XK) (t : TA) : TE := fun σ H Q => t σ H fun vs H1 => sp (vs ++ dvs) H1 Q E
def tMeth (C : Addr) (m : Str) (sp : Sp) (dvs : List V) (E : XK) (ta : TE) (t : TA) : TE := fun σ H Q => ta σ H fun x H1 => ∃ a dx fs, x = .ref a ∧ H1 a = some (.ins C dx fs) ∧ fs.lookup m = none ∧
  t σ H1 fun vs H2 => sp (x :: (vs ++ dvs)) H2 Q E
def tMake (C : Addr) (sp : Sp) (dvs : List V) (E : XK) (t : TA) : TE := fun σ H Q => t σ H fun vs H1 => ∀ x dx, H1 x = none → H1 dx = none → dx ≠ x →
  sp (.ref x :: (vs ++ dvs)) (upd (upd H1 dx (.own x)) x (.ins C dx [])) (fun v H2 => v = .non ∧ Q (.ref x) H2) E
def Binds (K : PySem.W.Frag) (fd : FuncData) (ps : List Str) (ds : List Value) : Prop :=
  ∀ (s : Shared) (us : List Value), K.In s.heap → (us ++ ds).length = ps.length → BindsTo s fd ⟨us, []⟩ (ps.zip (us ++ ds))
theorem Binds.all {K : PySem.W.Frag} {fd : FuncData} {ps : List Str} (h : ∀ us : List Value, us.length = ps.length → bindArgs fd ⟨us, []⟩ = pure (ps.zip us)) : Binds K fd ps [] := fun s us _ hl => by
  rw [List.append_nil] at hl ⊢
  exact .of_eq (h us hl)
def Passes (CX : CXT) (X : Cx) (E : XK) : Prop := ∀ (pins : List (Addr × Obj)) (σ : St) (H : Hp) (s : Shared) (e : Value) (s' : Shared), Inv X pins σ H s → CX X.stack H s E e s' → X.xe e s'
section
variable {X : Cx} {CX : CXT} {k : Nat} {f C : Addr} {fd : FuncData} {ps : List Str} {sp : Sp} {dvs : List V} {ds : List Value} {E : XK} {x m : Str} {p pos apos : Pos} {e o : Expr} {es : List Expr} {ta : TE} {t : TA}
theorem run_fn {pins : List (Addr × Obj)} {σ : St} {H : Hp} {s : Shared} {Q : VK} {us : List Value} {vs : List V} (F : FnOk X.prog X.w X.K X.mg X.base CX k f fd ps sp) (hr : Room k X.A) (hb : Binds X.K fd ps ds) (hd : Vals dvs ds) (hx : Passes CX X E)
    (I : Inv X pins σ H s) (r : Vals vs us) (h : sp (vs ++ dvs) H Q E) : wpAny (model X.prog X.w) X.A (call (.ref f) us) (EP X pins σ Q) X.xe s := by
  have r2 : Vals (vs ++ dvs) (us ++ ds) := r.append hd
  have hl : (us ++ ds).length = ps.length := by rw [← r2.length]; exact F.len _ _ _ _ h
  refine wpAny_call (codeAny_mono (F.run X.A X.stack s H ⟨us, []⟩ (us ++ ds) (vs ++ dvs) Q E hr I.env0 (hb s us I.kIn hl) r2 h) fun r s' hq => ?_)
  cases r with
  | error e => exact hx pins σ H s e s' I hq
  | ok fl =>
    cases fl with
    | ret u => exact I.after hq
    | next => exact False.elim hq
    | brk => exact False.elim hq
    | cont => exact False.elim hq
theorem pe_call (F : FnOk X.prog X.w X.K X.mg X.base CX k f fd ps sp) (hr : Room k X.A) (hg : Gl X x) (hm : X.mg x = some (.ref f)) (hk : PySem.W.keepIn X.K (.ref f) = true) (hb : Binds X.K fd ps ds) (hd : Vals dvs ds) (hx : Passes CX X E)
    (ha : PA X (e :: es) t) (hdb : (x == ("__debug__" : Str)) = false := by decide) (he : starEach (e :: es) X.env = (false, eval e X.env) :: starEach es X.env := by rfl) (hpl : (backTo pos (starEach es X.env)).any (·.1) = false := by rfl) :
    PE X (.Call (.Name x p) (e :: es) [] pos) (tCall sp dvs E t) := by
  intro pins s σ H Q I h
  refine wpAny_Call_Name_kw (ld_glob I hg hm ?_ hdb)
  refine PySem.W.callWith_K (h₀ := X.base) I.ok.mod.kin hk (thn (ha pos pins s σ H _ I h) fun us s1 ⟨vs, H1, I1, r, q⟩ => ⟨I1.kIn, ?_⟩) he hpl
  exact run_fn F hr hb hd hx I1 r q
theorem pe_meth {pl : Sem Bool} (he : PE X o ta) (c : Cls X.K C) (hm : Meth X.K C m f) (F : FnOk X.prog X.w X.K X.mg X.base CX k f fd ps sp) (hr : Room k X.A) (hb : Binds X.K fd ps ds) (hd : Vals dvs ds) (hx : Passes CX X E) (ha : PA X (e :: es) t)
    (hst : starEach (e :: es) X.env = (false, eval e X.env) :: starEach es X.env := by rfl) (hpl : (backTo pos (starEach es X.env)).any (·.1) = false := by rfl)
    (ht : eval (.Call (.Attribute o m apos) (e :: es) [] pos) X.env = (do
      let ov ← eval o X.env
      standAt apos.atName
      let (f, first) ← holding [ov] (getMethod ov m pl)
      callWith pos f first (backTo pos (starEach (e :: es) X.env)) (backToKw pos (keywordEach [] X.env))) := by rfl) :
    PE X (.Call (.Attribute o m apos) (e :: es) [] pos) (tMeth C m sp dvs E ta t) := by
  intro pins s σ H Q I h
  refine PySem.W.methodCall_KW (pl := pl) (thn (he pins s σ H _ I h) fun u s1 ⟨x, H1, I1, rx, a, dx, fs, ex, ea, l, q⟩ => ?_) ht
  subst ex
  obtain rfl : u = Value.ref a := rx
  refine getmeth_ok I1 ea c hm l ?_
  refine PySem.W.callWith_K (first := [.ref a]) (h₀ := X.base) I.ok.mod.kin hm.kp (thn (ha pos pins s1 σ H1 _ I1 q) fun us s2 ⟨vs, H2, I2, r, q2⟩ => ⟨I2.kIn, ?_⟩) hst hpl
  exact run_fn (us := .ref a :: us) (vs := .ref a :: vs) F hr hb hd hx I2 (.cons rfl r) q2
theorem pe_meth0 {pl : Sem Bool} (he : PE X o ta) (c : Cls X.K C) (hm : Meth X.K C m f) (F : FnOk X.prog X.w X.K X.mg X.base CX k f fd ps sp) (hr : Room k X.A) (hb : Binds X.K fd ps ds) (hd : Vals dvs ds) (hx : Passes CX X E)
    (ht : eval (.Call (.Attribute o m apos) [] [] pos) X.env = (do
      let ov ← eval o X.env
      standAt apos.atName
      let (f, first) ← holding [ov] (getMethod ov m pl)
      callWith pos f first (backTo pos (starEach [] X.env)) (backToKw pos (keywordEach [] X.env))) := by rfl) :
    PE X (.Call (.Attribute o m apos) [] [] pos) (tMeth C m sp dvs E ta tNil) := by
  intro pins s σ H Q I h
  refine PySem.W.methodCall_KW (pl := pl) (thn (he pins s σ H _ I h) fun u s1 ⟨x, H1, I1, rx, a, dx, fs, ex, ea, l, q⟩ => ?_) ht
  subst ex
  obtain rfl : u = Value.ref a := rx
  refine getmeth_ok I1 ea c hm l ?_
  exact PySem.W.callWith_K0 (first := [.ref a]) I1.kIn hm.kp (run_fn (us := [.ref a]) (vs := [.ref a]) F hr hb hd hx I1 (.cons rfl .nil) q)
structure Mk (K : PySem.W.Frag) (C f : Addr) : Prop where
  makes : PySem.W.makesIn K C = true
  init : PySem.W.findIn K (.ref C) "__init__" = some (some (.ref f))
  fn : PySem.W.isFn K (.ref f) = true
  kp : PySem.W.keepIn K (.ref C) = true
theorem run_make {pins : List (Addr × Obj)} {σ : St} {H : Hp} {s : Shared} {Q : VK} {us : List Value} {vs : List V} (M : Mk X.K C f) (F : FnOk X.prog X.w X.K X.mg X.base CX k f fd ps sp) (hr : Room (k + 1) X.A) (hb : Binds X.K fd ps ds) (hd : Vals dvs ds)
    (hx : Passes CX X E) (I : Inv X pins σ H s) (r : Vals vs us)
    (h : ∀ x dx, H x = none → H dx = none → dx ≠ x → sp (.ref x :: (vs ++ dvs)) (upd (upd H dx (.own x)) x (.ins C dx [])) (fun v H2 => v = .non ∧ Q (.ref x) H2) E) :
    wpAny (model X.prog X.w) X.A (call (.ref C) us) (EP X pins σ Q) X.xe s := by
  have hq := h (s.heap.objs.size + 1) s.heap.objs.size (I.hok.fresh (Nat.le_succ _)) (I.hok.fresh (Nat.le_refl _)) (Nat.ne_of_lt (Nat.lt_succ_self _))
  have I2 := Inv.made (C := C) I
  have r2 : Vals (V.ref (s.heap.objs.size + 1) :: (vs ++ dvs)) (Value.ref (s.heap.objs.size + 1) :: (us ++ ds)) := .cons rfl (r.append hd)
  have hl : (Value.ref (s.heap.objs.size + 1) :: us ++ ds).length = ps.length := by
    have e := r2.length
    rw [F.len _ _ _ _ hq] at e
    exact e.symm
  refine wpAny_call (make_map (f := f) I.kIn M.makes M.init (beq_iff_eq.mp M.fn) (codeAny_mono (F.run _ X.stack _ _ ⟨Value.ref (s.heap.objs.size + 1) :: us, []⟩ (Value.ref (s.heap.objs.size + 1) :: (us ++ ds)) _ _ E (hr.make C us [])
    (I2.env0.make C us []) (hb _ (Value.ref (s.heap.objs.size + 1) :: us) I2.kIn hl) r2 hq) fun r s' hq' => ?_))
  cases r with
  | error e => exact hx pins σ _ _ e s' I2 hq'
  | ok fl =>
    cases fl with
    | ret u =>
      obtain ⟨v, H', I3, rv, ev, q3⟩ := I2.after hq'
      subst ev
      exact ⟨rv, ⟨V.ref (s.heap.objs.size + 1), H', I3, rfl, q3⟩⟩
    | next => exact False.elim hq'
    | brk => exact False.elim hq'
    | cont => exact False.elim hq'
theorem pe_make (M : Mk X.K C f) (F : FnOk X.prog X.w X.K X.mg X.base CX k f fd ps sp) (hr : Room (k + 1) X.A) (hg : Gl X x) (hm : X.mg x = some (.ref C)) (hb : Binds X.K fd ps ds) (hd : Vals dvs ds) (hx : Passes CX X E)
    (ha : PA X (e :: es) t) (hdb : (x == ("__debug__" : Str)) = false := by decide) (he : starEach (e :: es) X.env = (false, eval e X.env) :: starEach es X.env := by rfl) (hpl : (backTo pos (starEach es X.env)).any (·.1) = false := by rfl) :
    PE X (.Call (.Name x p) (e :: es) [] pos) (tMake C sp dvs E t) := by
  intro pins s σ H Q I h
  refine wpAny_Call_Name_kw (ld_glob I hg hm ?_ hdb)
  refine PySem.W.callWith_K (h₀ := X.base) I.ok.mod.kin M.kp (thn (ha pos pins s σ H _ I h) fun us s1 ⟨vs, H1, I1, r, q⟩ => ⟨I1.kIn, ?_⟩) he hpl
  exact run_make M F hr hb hd hx I1 r q
end
def PK (X : Cx) (kws : List Keyword) (t : TA) : Prop :=
  ∀ (pos : Pos) (pins : List (Addr × Obj)) (s : Shared) (σ : St) (H : Hp) (Q : List V → Hp → Prop), Inv X pins σ H s → t σ H Q → wpAny (model X.prog X.w) X.A (evalAll ((backToKw pos (keywordEach kws X.env)).map (·.2))) (AP X pins σ Q) X.xe s
section
variable {X : Cx} {CX : CXT} {k : Nat} {f C : Addr} {fd : FuncData} {ps ks : List Str} {sp : Sp} {E : XK} {x m : Str} {p pos apos kpos : Pos} {e o : Expr} {es : List Expr} {kws : List Keyword} {te ta : TE} {t tk : TA} {nm : Option Str}
theorem pk_nil : PK X [] tNil := fun _ _ _ _ H Q I h => wpAny_evalAll_nil ⟨[], H, I, .nil, h⟩
theorem pk_cons (ha : PE X e te) (hr : PK X kws t) : PK X (⟨nm, e, kpos⟩ :: kws) (tCons te t) := by
  intro pos pins s σ H Q I h
  show wpAny _ _ (evalAll ((do let v ← eval e X.env; standAt pos; pure v) :: (backToKw pos (keywordEach kws X.env)).map (·.2))) _ _ s
  refine wpAny_evalAll_cons (wpAny_bind (thn (ha pins s σ H _ I h) fun u s1 ⟨x, H1, I1, r1, q1⟩ => wpAny_bind (wpAny_standAt (wpAny_pure ?_))))
  exact thn (hr pos pins s1 σ H1 _ I1 q1) fun us s2 ⟨xs, H2, I2, r2, q2⟩ => ⟨x :: xs, H2, I2, .cons r1 r2, q2⟩
structure KBinds (K : PySem.W.Frag) (fd : FuncData) (ps ks : List Str) (g : List Value → List Value → List Value) (gV : List V → List V → List V) : Prop where
  to : ∀ (s : Shared) (us ws : List Value), K.In s.heap → (g us ws).length = ps.length → BindsTo s fd ⟨us, ks.zip ws⟩ (ps.zip (g us ws))
  rel : ∀ {vs : List V} {us : List Value} {zs : List V} {ws : List Value}, Vals vs us → Vals zs ws → Vals (gV vs zs) (g us ws)
variable {g : List Value → List Value → List Value} {gV : List V → List V → List V}
end
structure FnScope (N P : List Str) (sc : Scope) : Prop where
  kind : sc.kind = .function
  co : sc.isCoroutine = false
  gen : sc.isGenerator = false
  nd : N.Nodup
  pre : N.take P.length = P
  par : ∀ x ∈ P, sc.names.lookup x = some .local ∨ sc.names.lookup x = some .cell
  nofree : ∀ y ∈ sc.names, y.2 ≠ .free
theorem bindL_out {kindOf : Str → Option NameKind} {x : Str} : ∀ {binds : List (Str × Value)} {m : Str → Option Value}, (∀ v, (x, v) ∉ binds) → bindL kindOf binds m x = m x
  | [], _, _ => rfl
  | (n, v) :: r, m, h => by
    unfold bindL
    rw [bindL_out fun w hw => h w (List.mem_cons_of_mem _ hw)]
    split
    · have : x ≠ n := by rintro rfl; exact h v List.mem_cons_self
      simp [this]
    · rfl
theorem bindC_out {kindOf : Str → Option NameKind} {x : Str} : ∀ {binds : List (Str × Value)} {m : Str → Option Value}, (∀ v, (x, v) ∉ binds) → bindC kindOf binds m x = m x
  | [], _, _ => rfl
  | (n, v) :: r, m, h => by
    unfold bindC
    rw [bindC_out fun w hw => h w (List.mem_cons_of_mem _ hw)]
    split
    · rfl
    · have : x ≠ n := by rintro rfl; exact h v List.mem_cons_self
      simp [this]
theorem bindL_get {kindOf : Str → Option NameKind} {x : Str} {v : Value} : ∀ {P : List Str} {vs : List Value} {i : Nat} {m : Str → Option Value}, P.Nodup → P[i]? = some x → vs[i]? = some v → kindOf x = some .local →
    bindL kindOf (P.zip vs) m x = some v
  | [], _, _, _, _, h, _, _ => by simp at h
  | _ :: _, [], _, _, _, _, h, _ => by simp at h
  | p :: P, w :: vs, 0, m, nd, h1, h2, hk => by
    simp at h1 h2; subst h1; subst h2
    show bindL kindOf ((p, w) :: P.zip vs) m p = _
    unfold bindL
    rw [bindL_out fun v hv => (List.nodup_cons.mp nd).1 (List.of_mem_zip hv).1, if_pos hk]
    simp
  | p :: P, w :: vs, i + 1, m, nd, h1, h2, hk => by
    show bindL kindOf ((p, w) :: P.zip vs) m x = _
    unfold bindL
    exact bindL_get (i := i) (List.nodup_cons.mp nd).2 (by simpa using h1) (by simpa using h2) hk
theorem bindC_get {kindOf : Str → Option NameKind} {x : Str} {v : Value} : ∀ {P : List Str} {vs : List Value} {i : Nat} {m : Str → Option Value}, P.Nodup → P[i]? = some x → vs[i]? = some v → kindOf x ≠ some .local →
    bindC kindOf (P.zip vs) m x = some v
  | [], _, _, _, _, h, _, _ => by simp at h
  | _ :: _, [], _, _, _, _, h, _ => by simp at h
  | p :: P, w :: vs, 0, m, nd, h1, h2, hk => by
    simp at h1 h2; subst h1; subst h2
    show bindC kindOf ((p, w) :: P.zip vs) m p = _
    unfold bindC
    rw [bindC_out fun v hv => (List.nodup_cons.mp nd).1 (List.of_mem_zip hv).1, if_neg hk]
    simp
  | p :: P, w :: vs, i + 1, m, nd, h1, h2, hk => by
    show bindC kindOf ((p, w) :: P.zip vs) m x = _
    unfold bindC
    exact bindC_get (i := i) (List.nodup_cons.mp nd).2 (by simpa using h1) (by simpa using h2) hk
def start (N : List Str) (vs : List V) : St := vs.map some ++ List.replicate (N.length - vs.length) none
def cxOf (CX : CXT) (P : Program) (w : World) (K : PySem.W.Frag) (mg : Str → Option Value) (base : Heap) (N : List Str) (qual : Str) (scope : Scope) (f : Addr) (cd : Value) (A : Around) (outer : List Env) (s : Shared) (H : Hp) (E : XK) : Cx where
  prog := P
  w := w
  K := K
  mg := mg
  base := base
  A := A.deeper (envOfC qual scope s.heap.objs.size f cd)
  N := N
  s₀ := s
  H₀ := H
  env := envOfC qual scope s.heap.objs.size f cd
  outer := outer
  stack := envOfC qual scope s.heap.objs.size f cd :: outer
  ex := []
  calm := true
  fn := fun _ => true
  pn := []
  xe := fun e s' => wpAny (model P w) (A.deeper (envOfC qual scope s.heap.objs.size f cd)) (leaving (envOfC qual scope s.heap.objs.size f cd) e) (fun _ s'' => CX outer H s E e s'') (fun e' s'' => CX outer H s E e' s'') s'
theorem cell_has {sc : Scope} {n : Nat} {x : Str} (h : sc.names.lookup x = some .cell) : ∃ c, (cellsFrom n sc.names []).lookup x = some c := by
  have q := PySem.W.cellsFrom_some sc.names n [] (.inl h)
  exact Option.isSome_iff_exists.mp q
theorem inv_start {CX : CXT} {P : Program} {w : World} {K : PySem.W.Frag} {mg : Str → Option Value} {base : Heap} {N ps : List Str} {qual : Str} {scope : Scope} {f : Addr} {cd : Value} {A : Around} {outer : List Env} {s s1 : Shared} {H : Hp} {E : XK} {us : List Value} {vs : List V}
    (S : FnScope N ps scope) (hd : A.handled = none) (e0 : Env0 P w K mg base A outer s H) (hl : vs.length = ps.length) (r : Vals vs us)
    (x : InCallC s s.heap.objs.size (bindL (envOfC qual scope s.heap.objs.size f cd).kindOf (ps.zip us) fun _ => none) (cellsFrom (s.heap.objs.size + 1) scope.names []) (bindC (envOfC qual scope s.heap.objs.size f cd).kindOf (ps.zip us) fun _ => none) s1) :
    Inv (cxOf CX P w K mg base N qual scope f cd A outer s H E) [] (start N vs) H s1 := by
  have hpl : ps.length ≤ N.length := by have := congrArg List.length S.pre; rw [List.length_take] at this; omega
  obtain ⟨h1, tk, rfl, hk⟩ := x.done
  have noA : ∀ b : Addr, b ∉ (cxOf CX P w K mg base N qual scope f cd A outer s H E).ex := fun b z => absurd (show b ∈ ([] : List Addr) from z) (by simp)
  refine ⟨⟨e0.mod, S.kind, rfl, rfl, Nat.le_refl _, fun y z c h1 h2 => ?_, fun y hy => ?_, fun y c _ h => ?_, fun _ => hd, Around.frames_deeper e0.frames, .inr ⟨rfl, rfl⟩, fun b z => absurd z (noA b), e0.bs, e0.bsz, fun b _ _ => noA b, fun b z => absurd z (noA b), e0.funs, e0.frf⟩,
    rfl, e0.bare, Un.kept hk, ⟨_, x.toInCall.ns, fun i y v h1 h2 h3 => ?_⟩, fun y c h => ⟨_, x.cell y c h⟩, e0.hok.fresh (Nat.le_refl _), fun y c h => ?_, fun p hp => absurd (show p ∈ ([] : List (Addr × Obj)) from hp) (by simp), e0.hok.kept hk, ?_⟩
  · exact name_of_addr x.apart (PySem.mem_of_lookup h1) (PySem.mem_of_lookup h2)
  · have hy : scope.names.lookup y = some .cell ∨ scope.names.lookup y = some .free := hy
    rcases hy with hy | hy
    · exact cell_has hy
    · exact absurd rfl (S.nofree _ (PySem.mem_of_lookup hy))
  · exact Nat.le_of_lt (x.above y c (PySem.mem_of_lookup h))
  · have hi : i < vs.length := by
      unfold start at h2
      by_cases hi : i < vs.length
      · exact hi
      · rw [List.getElem?_append_right (by simpa using hi)] at h2
        rw [List.getElem?_replicate] at h2
        split at h2 <;> cases h2
    have ha : vs[i]? = some v := by
      unfold start at h2
      rw [List.getElem?_append_left (by simpa using hi), List.getElem?_map] at h2
      cases e : vs[i]? with
      | none => rw [e] at h2; cases h2
      | some a => rw [e] at h2; cases h2; rfl
    obtain ⟨u, hu, rv⟩ := r.get ha
    have hp : ps[i]? = some y := by
      rw [← S.pre, List.getElem?_take_of_lt (by omega)]; exact h1
    have ndP : ps.Nodup := by rw [← S.pre]; exact S.nd.sublist (List.take_sublist _ _)
    refine ⟨u, rv, ?_⟩
    rcases S.par y (List.mem_of_getElem? hp) with k | k
    · exact .inl ⟨k, bindL_get ndP hp hu k⟩
    · obtain ⟨c, e⟩ := cell_has (n := s.heap.objs.size + 1) k
      refine .inr ⟨.inl k, c, e, ?_⟩
      have q := x.cell y c e
      rw [bindC_get ndP hp hu (by show scope.names.lookup y ≠ _; rw [k]; decide)] at q
      exact q
  · exact e0.hok.fresh (Nat.le_of_lt (x.above y c (PySem.mem_of_lookup h)))
  · unfold start
    show _ = N.length
    rw [List.length_append, List.length_map, List.length_replicate]
    omega
theorem fn_of {CX : CXT} {P : Program} {w : World} {K : PySem.W.Frag} {mg : Str → Option Value} {base : Heap} {k : Nat} {f : Addr} {name qual : Str} {params : Arguments} {body : List Stmt} {scope : Scope} {dV kV doc pm cdv ct oc : Value} {an od : Option Addr}
    {osl : Array (Option Value)} {N ps : List Str} {sp : Sp} (lk : K.lookup f = some ⟨oc, od, .func (PySem.W.fnOf name qual params body scope dV kV doc pm an cdv ct), osl⟩) (hcd : PySem.W.codeIn K cdv qual = true) (S : FnScope N ps scope)
    (len : ∀ vs H Q E, sp vs H Q E → vs.length = ps.length)
    (hbody : ∀ (A : Around) (outer : List Env) (s : Shared) (H : Hp) (vs : List V) (Q : VK) (E : XK), Room k (A.deeper (envOfC qual scope s.heap.objs.size f cdv)) → sp vs H Q E →
      ∃ t, PSs (cxOf CX P w K mg base N qual scope f cdv A outer s H E) body t ∧ t { nx := fun _ H' => Q .non H', rt := Q } (start N vs) H) :
    FnOk P w K mg base CX (k + 1) f (PySem.W.fnOf name qual params body scope dV kV doc pm an cdv ct) ps sp := by
  refine ⟨len, fun A outer s H args us vs Q E hr e0 hb r hsp => ?_⟩
  have hl := len _ _ _ _ hsp
  have KX : K.In s.heap := e0.mod.kin.keeps fun b o e => (e0.bs b o e).1
  have lim : s.heap.NoLimit := e0.mod.nolimit.keeps fun b o e => (e0.bs b o e).1
  have hkind : ∀ y ∈ ps.zip us, scope.names.lookup y.1 = some .local ∨ (scope.names.lookup y.1 = some .cell ∧ ((cellsFrom (s.heap.objs.size + 1) scope.names []).lookup y.1).isSome = true) := fun ⟨n, v⟩ hy => by
    rcases S.par n (List.of_mem_zip hy).1 with q | q
    · exact .inl q
    · exact .inr ⟨q, PySem.W.cellsFrom_some _ _ _ (.inl q)⟩
  refine codeAny_call_function hr.depth (KX _ _ lk) rfl S.co S.gen rfl (PySem.W.codeRec_of KX hcd) (hb _ _ _ _ ?_)
  refine wpAny_newFunctionEnv_cells S.kind hkind fun env he s1 x => ?_
  subst he
  refine ⟨lim.keeps x.toInCall.keep, codeAny_func ?_⟩
  obtain ⟨t, ht, hq⟩ := hbody A outer s H vs Q E (hr.deeper _) hsp
  have I : Inv (cxOf CX P w K mg base N qual scope f cdv A outer s H E) [] (start N vs) H s1 := inv_start S hr.hd e0 hl r x
  refine wpAny_mono (ht [] s1 (start N vs) H _ I hq) (fun fl s' hs => ?_) fun e s' hs => hs
  have fin : ∀ {σ' : St} {H' : Hp} {v : V} {u : Value}, Inv (cxOf CX P w K mg base N qual scope f cdv A outer s H E) [] σ' H' s' → RelV v u → Q v H' → CE outer P w H s Q u s' :=
    fun {σ' H' v u} J rv q => ⟨v, H', J.os, J.bare, J.base, J.hok, rv, q⟩
  cases fl with
  | ret u =>
    obtain ⟨v, σ', H', J, rv, q⟩ := hs
    exact fin J rv q
  | next =>
    obtain ⟨σ', H', J, q⟩ := hs
    exact fin (v := V.non) (u := Value.none) J rfl q
  | brk =>
    obtain ⟨_, _, _, q⟩ := hs
    exact False.elim q
  | cont =>
    obtain ⟨_, _, _, q⟩ := hs
    exact False.elim q
end L2
namespace L2
open PySem PySem.Spec PyProof.Rows
section
variable {X : Cx} {x : Str} {p pos : Pos} {e : Expr} {es : List Expr} {t : TA} {id T : String} {r : List V → Hp → VK → Prop}
def tCB (r : List V → Hp → VK → Prop) (t : TA) : TE := fun σ H Q => t σ H fun vs H1 => r vs H1 Q
theorem pe_callB (hc : CallR X (.builtin id) r) (hg : Gl X x) (hm : X.mg x = none) (hv : bootBuiltins x = some (.builtin id)) (ha : PA X (e :: es) t) (hn : x ≠ "__name__" := by decide) (hdb : (x == ("__debug__" : Str)) = false := by decide)
    (he : starEach (e :: es) X.env = (false, eval e X.env) :: starEach es X.env := by rfl) (hpl : (backTo pos (starEach es X.env)).any (·.1) = false := by rfl) : PE X (.Call (.Name x p) (e :: es) [] pos) (tCB r t) := by
  intro pins s σ H Q I h
  refine wpAny_Call_Name_kw (ld_blt I hg hm hv ?_ hn hdb)
  exact PyProof.Rows.callWith_builtin1 (thn (ha pos pins s σ H _ I h) fun us s1 ⟨vs, H1, I1, r1, q1⟩ => hc pins s1 σ H1 vs us Q I1 r1 q1) he hpl
theorem pe_callTy (hc : CallR X (.type T) r) (hg : Gl X x) (hm : X.mg x = none) (hv : bootBuiltins x = some (.type T)) (ha : PA X (e :: es) t) (hn : x ≠ "__name__" := by decide) (hdb : (x == ("__debug__" : Str)) = false := by decide)
    (he : starEach (e :: es) X.env = (false, eval e X.env) :: starEach es X.env := by rfl) (hpl : (backTo pos (starEach es X.env)).any (·.1) = false := by rfl) : PE X (.Call (.Name x p) (e :: es) [] pos) (tCB r t) := by
  intro pins s σ H Q I h
  refine wpAny_Call_Name_kw (ld_blt I hg hm hv ?_ hn hdb)
  exact PyProof.Rows.callWith_type1 (thn (ha pos pins s σ H _ I h) fun us s1 ⟨vs, H1, I1, r1, q1⟩ => hc pins s1 σ H1 vs us Q I1 r1 q1) he hpl
end
end L2
namespace HT
open PySem PyProof.Rows
section
open PySem.SeqAt
open PySem.AutoSeq1 (wpAny_loadPart')
open PySem.MeetsSeq PySem.MeetsSeq2 PySem.MeetsSeq3
end
section
variable {prog : Program} {w : World} {A : Around} {E : Value → Shared → Prop} {s : Shared}
def sIx (n d : Nat) : Option Int → Nat
  | none => d
  | some v => if v < 0 then (v + (n : Int)).toNat else min v.toNat n
theorem sIx_none (n d : Nat) : sIx n d none = d := rfl
theorem sIx_nat (n d k : Nat) : sIx n d (some (k : Int)) = min k n := by
  show (if (k : Int) < 0 then ((k : Int) + (n : Int)).toNat else min (k : Int).toNat n) = min k n
  rw [if_neg (by omega), Int.toNat_natCast]
theorem sIx_le (n d : Nat) (hd : d ≤ n) (o : Option Int) : sIx n d o ≤ n := by
  cases o with
  | none => exact hd
  | some v =>
    show (if v < 0 then (v + (n : Int)).toNat else min v.toNat n) ≤ n
    by_cases hv : v < 0
    · rw [if_pos hv]; omega
    · rw [if_neg hv]; exact Nat.min_le_right _ _
theorem clip_eq (v : Int) (n d : Nat) : (if v < 0 then max (v + (n : Int)) 0 else min v (n : Int)) = ((sIx n d (some v) : Nat) : Int) := by
  show (if v < 0 then max (v + (n : Int)) 0 else min v (n : Int)) = (((if v < 0 then (v + (n : Int)).toNat else min v.toNat n) : Nat) : Int)
  by_cases hv : v < 0
  · simp only [if_pos hv]; omega
  · simp only [if_neg hv]; omega
theorem adjust_gen (lo hi : Option Int) (n : Nat) : Builtin.Slice.sliceAdjust lo hi 1 (n : Int) = (((sIx n 0 lo : Nat) : Int), ((sIx n n hi : Nat) : Int)) := by
  have h1 : ¬ ((1 : Int) < 0) := by omega
  unfold Builtin.Slice.sliceAdjust
  simp only [h1, if_false]
  refine Prod.ext ?_ ?_
  · cases lo with
    | none => rfl
    | some v => exact clip_eq v n 0
  · cases hi with
    | none => rfl
    | some v => exact clip_eq v n n
theorem places_gen (i j : Nat) : Builtin.Slice.slicePlaces (i : Int) (j : Int) 1 = j - i := by
  unfold Builtin.Slice.slicePlaces
  have h1 : (1 : Int) > 0 := by omega
  simp only [h1, if_true, Int.ediv_one]
  split <;> omega
theorem slicePart_ {v : Value} {o : Option Int} {Q : Option Int → Shared → Prop} (p : IsPart v o) (h : Q o s) : wpAny (model prog w) A (Builtin.Slice.slicePartIndex v) Q E s := by
  cases p with
  | none => exact slicePart_none h
  | int i t => exact slicePart_int h
theorem sliceApplied_gen {sl : Addr} {vl vu : Value} {lo hi : Option Int} {n : Nat} {Q : Int × Int × Nat → Shared → Prop} (hs : s.heap.IsSliceOf sl vl vu .none) (pl : IsPart vl lo) (pu : IsPart vu hi)
    (h : Q (((sIx n 0 lo : Nat) : Int), 1, sIx n n hi - sIx n 0 lo) s) : wpAny (model prog w) A (Builtin.Slice.sliceApplied (.ref sl) (pure (n : Int))) Q E s := by
  obtain ⟨os, hos, hcs, hds⟩ := id hs
  unfold Builtin.Slice.sliceApplied Builtin.Slice.sliceFields
  refine wpAny_bind (wpAny_bind (wpAny_field hos hds (x := vl) rfl (wpAny_bind (wpAny_field hos hds (x := vu) rfl (wpAny_bind (wpAny_field hos hds (x := .none) rfl (wpAny_pure ?_)))))))
  refine wpAny_bind (slicePart_none ?_)
  show wpAny _ _ (if ((1 : Int) == 0) = true then _ else _) _ _ s
  rw [if_neg (by decide)]
  refine wpAny_bind (slicePart_ pl (wpAny_bind (slicePart_ pu (wpAny_bind (wpAny_pure ?_)))))
  show wpAny _ _ (match Builtin.Slice.sliceAdjust lo hi 1 (n : Int) with | (lo, hi) => pure (lo, (1 : Int), Builtin.Slice.slicePlaces lo hi 1)) _ _ s
  rw [adjust_gen lo hi n]
  show wpAny _ _ (pure (((sIx n 0 lo : Nat) : Int), (1 : Int), Builtin.Slice.slicePlaces ((sIx n 0 lo : Nat) : Int) ((sIx n n hi : Nat) : Int) 1)) _ _ s
  rw [places_gen]
  exact wpAny_pure h
theorem pick_gen (xs : Array Value) (i k : Nat) : ((List.range k).filterMap fun (m : Nat) => xs[((i : Int) + (m : Int) * 1).toNat]?).toArray = ((xs.toList.drop i).take k).toArray := by
  have e : (fun (m : Nat) => xs[((i : Int) + (m : Int) * 1).toNat]?) = fun m => xs[i + m]? := by
    funext m
    have : ((i : Int) + (m : Int) * 1).toNat = i + m := by omega
    rw [this]
  rw [e]
  have := pick_run xs i k
  rw [List.filterMap_map] at this
  have e2 : ((fun x => xs[x]?) ∘ fun x => i + x) = fun m => xs[i + m]? := rfl
  rw [e2] at this
  rw [this]
theorem getItem_tuple_cut {t sl : Addr} {items : Array Value} {vl vu : Value} {lo hi : Option Int} {Q : Value → Shared → Prop} (ht : IsTup s.heap t items) (hs : s.heap.IsSliceOf sl vl vu .none) (pl : IsPart vl lo) (pu : IsPart vu hi)
    (hw : ¬ (sIx items.size 0 lo = 0 ∧ sIx items.size items.size hi = items.size))
    (h : Q (.ref s.heap.objs.size) { s with heap := s.heap.push { cls := .type "tuple", data := .seq ((items.toList.drop (sIx items.size 0 lo)).take (sIx items.size items.size hi - sIx items.size 0 lo)).toArray } })
    (hsz : items.size ≤ sizeLine) : wpAny (model prog w) A (getItem (.ref t) (.ref sl)) Q E s := by
  have htake : sizeOk (.seq ((items.toList.drop (sIx items.size 0 lo)).take (sIx items.size items.size hi - sIx items.size 0 lo)).toArray) := by
    show ((items.toList.drop (sIx items.size 0 lo)).take (sIx items.size items.size hi - sIx items.size 0 lo)).toArray.size ≤ sizeLine
    rw [List.size_toArray, List.length_take, List.length_drop, Array.length_toList]
    omega
  have hj : sIx items.size items.size hi ≤ items.size := sIx_le _ _ (Nat.le_refl _) hi
  obtain ⟨os, hos, hcs, hds⟩ := id hs
  have hTs : s.TypeIs (.ref sl) "slice" := ⟨os, hos, hcs⟩
  unfold getItem
  try with_reducible refine wpAny_holding ?_
  first | refine wpAny_bind (wpAny_pure ?_) | skip
  refine wpAny_bind (wpAny_sequenceKey ht.typeIs (by decide) ?_)
  refine wpAny_bind (wpAny_callSpecial?_slot (name := Str.ofString "__getitem__") ht.typeIs PyProof.Rows.slot_tuple_getitem
    (wpAny_call_entry PyProof.Rows.slot_tuple_getitem ht.typeIs entry_tuple_getitem ?_ (args_tuple_getitem _ _)))
  show wpAny _ _ (Builtin.Tuple.tupleItemsOf (.ref t) >>= _) _ _ s
  refine wpAny_bind (tupleItemsOf_ ht ?_)
  refine wpAny_bind (wpAny_typeOf hTs ?_)
  rw [if_pos (by decide)]
  refine wpAny_bind (sliceApplied_gen hs pl pu ?_)
  have hno : ¬ ((((sIx items.size 0 lo : Nat) : Int) == 0 && (1 : Int) == 1 && (sIx items.size items.size hi - sIx items.size 0 lo) == items.size) = true) := by
    intro q
    rw [Bool.and_eq_true, Bool.and_eq_true] at q
    have q1 : ((sIx items.size 0 lo : Nat) : Int) = 0 := eq_of_beq q.1.1
    have q2 : sIx items.size items.size hi - sIx items.size 0 lo = items.size := eq_of_beq q.2
    exact hw ⟨by omega, by omega⟩
  show wpAny _ _ (if (((sIx items.size 0 lo : Nat) : Int) == 0 && (1 : Int) == 1 && (sIx items.size items.size hi - sIx items.size 0 lo) == items.size) = true then _ else _) _ _ s
  rw [if_neg hno, pick_gen]
  first
    | exact wpAny_bind (m := Builtin.Tuple.tupleExact _) (wpAny_newObj_type (wpAny_pure ⟨_, rfl, wpAny_pure h⟩) htake)
    | exact wpAny_bind (m := Builtin.Tuple.tupleExact _) (wpAny_newObj_type (wpAny_bind (wpAny_pure (wpAny_pure ⟨_, rfl, wpAny_pure h⟩))) htake)
    | exact wpAny_bind (wpAny_bind (m := Builtin.Tuple.tupleExact _) (wpAny_newObj_type (wpAny_pure (wpAny_pure ⟨_, rfl, wpAny_pure h⟩)) htake))
    | exact wpAny_bind (wpAny_bind (m := Builtin.Tuple.tupleExact _) (wpAny_newObj_type (wpAny_pure ⟨_, rfl, wpAny_pure h⟩) htake))
end
end HT
namespace L2
open PySem PySem.Spec PyProof.Rows
abbrev TO := St → Hp → (Option Int → Hp → Prop) → Prop
def PO (X : Cx) (e : Option Expr) (t : TO) : Prop :=
  ∀ (pins : List (Addr × Obj)) (s : Shared) (σ : St) (H : Hp) (Q : Option Int → Hp → Prop), Inv X pins σ H s → t σ H Q →
    wpAny (model X.prog X.w) X.A (evalPart e X.env) (fun u s' => ∃ o H', Inv X pins σ H' s' ∧ IsPart u o ∧ Q o H') X.xe s
def tNoPart : TO := fun _ H Q => Q none H
def tPart (t : TE) : TO := fun σ H Q => t σ H fun x H1 => ∃ i, x = .int i ∧ Q (some i) H1
section
variable {X : Cx} {e : Expr} {te : TE} {lo hi : Option Expr} {tl th : TO} {pos p2 : Pos}
theorem po_none : PO X none tNoPart := by
  intro pins s σ H Q I h
  rw [evalPart_none]
  exact wpAny_pure ⟨none, H, I, .none, h⟩
theorem po_some (h : PE X e te) : PO X (some e) (tPart te) := by
  intro pins s σ H Q I hw
  rw [evalPart_some]
  refine thn (h pins s σ H _ I hw) fun u s1 ⟨x, H1, I1, r1, q1⟩ => ?_
  obtain ⟨i, rfl, q⟩ := q1
  obtain ⟨t, rfl⟩ := r1
  exact ⟨some i, H1, I1, .int i t, q⟩
def SlR (X : Cx) (r : V → Option Int → Option Int → Hp → VK → Prop) : Prop :=
  ∀ (pins : List (Addr × Obj)) (s : Shared) (σ : St) (H : Hp) (x : V) (v vl vu : Value) (lo hi : Option Int) (sl : Addr) (Q : VK), Inv X pins σ H s → RelV x v → s.heap.IsSliceOf sl vl vu .none → IsPart vl lo → IsPart vu hi → r x lo hi H Q →
    ∃ T id, typeLookup (.type T) "__getitem__" = pure (some (.builtin id)) ∧ s.TypeIs v T ∧ wpAny (model X.prog X.w) X.A (getItem v (.ref sl)) (EP X pins σ Q) X.xe s
def tSl (r : V → Option Int → Option Int → Hp → VK → Prop) (te : TE) (tl th : TO) : TE := fun σ H Q => te σ H fun x H1 => tl σ H1 fun l H2 => th σ H2 fun u H3 => r x l u H3 Q
theorem pe_slice {r : V → Option Int → Option Int → Hp → VK → Prop} (hr : SlR X r) (he : PE X e te) (hl : PO X lo tl) (hu : PO X hi th) : PE X (.Subscript e (.Slice lo hi none p2) pos) (tSl r te tl th) := by
  intro pins s σ H Q I h
  refine Subscript_ (thn (he pins s σ H _ I h) fun v s1 ⟨x, H1, I1, r1, q1⟩ => ?_)
  refine wpAny_Slice (thn (hl pins s1 σ H1 _ I1 q1) fun vl s2 ⟨l, H2, I2, pl, q2⟩ => thn (hu pins s2 σ H2 _ I2 q2) fun vu s3 ⟨u, H3, I3, pu, q3⟩ => ?_)
  rw [evalPart_none]
  refine wpAny_pure ?_
  have I4 : Inv X pins σ H3 { s3 with heap := s3.heap.push { cls := .type "slice", data := .fields #[vl, vu, .none] } } := I3.kept (t' := s3.toks) fun b ob q => Heap.get?_push_of_some _ q
  obtain ⟨T, id, hT, ht, hg⟩ := hr pins { s3 with heap := s3.heap.push { cls := .type "slice", data := .fields #[vl, vu, .none] } } σ H3 x v vl vu l u s3.heap.objs.size Q I4 r1 (Heap.IsSliceOf.new ..) pl pu q3
  show wpAny (model X.prog X.w) X.A (subscriptTail e (.Slice lo hi none p2) v (.ref s3.heap.objs.size)) (EP X pins σ Q) X.xe { s3 with heap := s3.heap.push { cls := .type "slice", data := .fields #[vl, vu, .none] } }
  exact tail_any (ops := [.ref s3.heap.objs.size, v]) ht hT hg (by with_unfolding_all rfl)
def cutV (xs : List V) (lo hi : Option Int) : List V := (xs.drop (HT.sIx xs.length 0 lo)).take (HT.sIx xs.length xs.length hi - HT.sIx xs.length 0 lo)
theorem cutV_length (xs : List V) (lo hi : Option Int) : (cutV xs lo hi).length ≤ xs.length := by
  unfold cutV
  rw [List.length_take, List.length_drop]
  omega
def rSlT (K : PySem.W.Frag) : V → Option Int → Option Int → Hp → VK → Prop := fun x lo hi H Q => ∃ a xs, x = .ref a ∧ SqT K H a xs ∧
  ¬ (HT.sIx xs.length 0 lo = 0 ∧ HT.sIx xs.length xs.length hi = xs.length) ∧ ∀ p, H p = none → Q (.ref p) (upd H p (.tup (cutV xs lo hi)))
theorem sl_tup : SlR X (rSlT X.K) := by
  intro pins s σ H x v vl vu lo hi sl Q I rx hs pl pu h
  obtain ⟨a, xs, rfl, hx, hw, q⟩ := h
  cases rx
  obtain ⟨its, r, ht, hz⟩ := I.tuple hx
  have hlen : its.toArray.size = xs.length := by rw [List.size_toArray]; exact r.length.symm
  refine ⟨"tuple", _, PyProof.Rows.slot_tuple_getitem.lookup, ht.typeIs, ?_⟩
  refine HT.getItem_tuple_cut ht hs pl pu (by rw [hlen]; exact hw) ?_ (by rw [hlen]; exact hz)
  rw [hlen]
  refine ⟨.ref s.heap.objs.size, _, I.laid (t' := s.toks) (o := .tup (cutV xs lo hi)) (fun b ob q => Heap.get?_push_of_some _ q) (Nat.le_refl _) ?_, rfl, q _ (I.hok.fresh (Nat.le_refl _))⟩
  exact ⟨Nat.le_trans (cutV_length xs lo hi) hz, _, (r.drop (HT.sIx xs.length 0 lo)).take (HT.sIx xs.length xs.length hi - HT.sIx xs.length 0 lo), IsTup.new _ _⟩
end
end L2
namespace L2
open PySem PySem.Spec PyProof.Rows
def ixN (n : Nat) (i : Int) : Option Nat := if 0 ≤ i then (if i < n then some i.toNat else none) else if -(n : Int) ≤ i then some (i + n).toNat else none
def atI {α : Type} (xs : List α) (i : Int) : Option α := (ixN xs.length i).bind fun j => xs[j]?
theorem ixN_seq {n : Nat} {i : Int} {j : Nat} (h : ixN n i = some j) : seqIndex? i n = some j ∧ j < n ∧ -(n : Int) ≤ i ∧ i < n := by
  unfold ixN at h
  by_cases h0 : 0 ≤ i
  · rw [if_pos h0] at h
    by_cases h1 : i < n
    · rw [if_pos h1] at h
      have e : i.toNat = j := Option.some.inj h
      exact ⟨by rw [seqIndex_of h0 h1, e], by omega, by omega, h1⟩
    · rw [if_neg h1] at h; cases h
  · rw [if_neg h0] at h
    by_cases h1 : -(n : Int) ≤ i
    · rw [if_pos h1] at h
      have e : (i + n).toNat = j := Option.some.inj h
      exact ⟨by rw [seqIndex_neg (by omega) h1, e], by omega, h1, by omega⟩
    · rw [if_neg h1] at h; cases h
theorem atI_get {α : Type} {xs : List α} {i : Int} {v : α} (h : atI xs i = some v) : ∃ j, seqIndex? i xs.length = some j ∧ xs[j]? = some v ∧ j < xs.length ∧ -(xs.length : Int) ≤ i ∧ i < xs.length := by
  unfold atI at h
  cases e : ixN xs.length i with
  | none => rw [e] at h; cases h
  | some j =>
    rw [e] at h
    obtain ⟨h1, h2, h3, h4⟩ := ixN_seq e
    exact ⟨j, h1, h, h2, h3, h4⟩
theorem atI_nat {α : Type} {xs : List α} {j : Nat} {v : α} (h : xs[j]? = some v) : atI xs (j : Int) = some v := by
  have hj : j < xs.length := (List.getElem?_eq_some_iff.mp h).1
  have e : ixN xs.length (j : Int) = some j := by
    unfold ixN
    rw [if_pos (by omega), if_pos (by omega)]; simp
  unfold atI; rw [e]; exact h
theorem atI_last {α : Type} (xs : List α) (v : α) : atI (xs ++ [v]) (-1) = some v := by
  have hl : (xs ++ [v]).length = xs.length + 1 := by simp
  have e : ixN (xs ++ [v]).length (-1) = some xs.length := by
    unfold ixN
    rw [hl, if_neg (by decide), if_pos (by omega)]
    congr 1
    omega
  unfold atI
  rw [e]
  show (xs ++ [v])[xs.length]? = some v
  simp
def PlainIx (b : Expr) : Prop := ∀ o i, subscripted b false o i = operate [o, i] (getItem o i)
def IxR (X : Cx) (r : R2) : Prop :=
  ∀ (value slice : Expr) (pins : List (Addr × Obj)) (s : Shared) (σ : St) (H : Hp) (x y : V) (v u : Value) (Q : VK), Inv X pins σ H s → RelV x v → RelV y u → r x y H Q →
    subscripted slice false v u = operate [v, u] (getItem v u) → wpAny (model X.prog X.w) X.A (subscriptTail value slice v u) (EP X pins σ Q) X.xe s
def MtR (X : Cx) (id : String) (r : V → List V → Hp → VK → Prop) : Prop :=
  ∀ (pins : List (Addr × Obj)) (s : Shared) (σ : St) (H : Hp) (x : V) (xs : List V) (v : Value) (us : List Value) (Q : VK), Inv X pins σ H s → RelV x v → Vals xs us → r x xs H Q →
    wpAny (model X.prog X.w) X.A (call (.builtin id) (v :: us)) (EP X pins σ Q) X.xe s
section
variable {X : Cx} {a b : Expr} {ta tb : TE} {pos : Pos}
theorem pe_ix {r : R2} (hr : IxR X r) (ha : PE X a ta) (hb : PE X b tb) (hs : PlainIx b) : PE X (.Subscript a b pos) (tOp r ta tb) := by
  intro pins s σ H Q I h
  exact Subscript_ (binT ha hb I h fun v u s2 x y H2 I2 rx ry q => hr a b pins s2 σ H2 x y v u Q I2 rx ry q (hs _ _))
def rIxL (K : PySem.W.Frag) : R2 := fun x y H Q => ∃ p xs i v, x = .ref p ∧ y = .int i ∧ SqL K H p xs ∧ atI xs i = some v ∧ Q v H
def rIxT (K : PySem.W.Frag) : R2 := fun x y H Q => ∃ p xs i v, x = .ref p ∧ y = .int i ∧ SqT K H p xs ∧ atI xs i = some v ∧ Q v H
theorem ix_list : IxR X (rIxL X.K) := by
  intro value slice pins s σ H x y v u Q I rx ry h hs
  obtain ⟨p, xs, i, z, rfl, rfl, hq, he, q⟩ := h
  cases rx
  obtain ⟨t, rfl⟩ := ry
  obtain ⟨its, r, pl, hz⟩ := I.list hq
  obtain ⟨j, h1, h2, h3, h4, h5⟩ := atI_get he
  obtain ⟨w, ew, rw'⟩ := r.get h2
  have hl := r.length
  have hn := line63
  have fin : EP X pins σ Q w s := ⟨z, H, I, rw', q⟩
  by_cases h0 : 0 ≤ i
  · have hj : i.toNat = j := by
      rw [seqIndex_of h0 h5] at h1
      exact Option.some.inj h1
    exact item_listR pl.isList h0 (by omega) (by rw [hj]; simpa using ew) fin hs
  · have hj : (i + (its.toArray.size : Int)).toNat = j := by
      rw [seqIndex_neg (by omega) h4] at h1
      rw [List.size_toArray, ← hl]
      exact Option.some.inj h1
    exact subscriptTail_builtinR (x := w) pl.isList.typeIs slot_list_getitem.lookup
      (wpAny_getItem_list_neg (Q := fun r s' => r = w ∧ EP X pins σ Q r s') pl.isList (by omega) (by rw [List.size_toArray] <;> omega) (by omega) (by rw [hj]; simpa using ew) ⟨rfl, fin⟩) hs
theorem ix_tup : IxR X (rIxT X.K) := by
  intro value slice pins s σ H x y v u Q I rx ry h hs
  obtain ⟨p, xs, i, z, rfl, rfl, hq, he, q⟩ := h
  cases rx
  obtain ⟨t, rfl⟩ := ry
  obtain ⟨its, r, pl, hz⟩ := I.tuple hq
  obtain ⟨j, h1, h2, h3, h4, h5⟩ := atI_get he
  obtain ⟨w, ew, rw'⟩ := r.get h2
  have hl := r.length
  have hn := line63
  have fin : EP X pins σ Q w s := ⟨z, H, I, rw', q⟩
  exact subscriptTail_builtinR (x := w) pl.typeIs slot_tuple_getitem.lookup
    (getItem_tuple (j := j) (Q := fun r s' => r = w ∧ EP X pins σ Q r s') pl (by omega) (by omega) (by rw [List.size_toArray, ← hl]; exact h1) (by simpa using ew) ⟨rfl, fin⟩) hs
theorem slice_bounds (lo hi : Option Int) (n : Nat) : (sliceBounds lo hi none n).1 = ((HT.sIx n 0 lo : Nat) : Int) ∧ (sliceBounds lo hi none n).2.1 = ((HT.sIx n n hi : Nat) : Int) ∧ (sliceBounds lo hi none n).2.2 = 1 := by
  refine ⟨?_, ?_, rfl⟩
  · cases lo with
    | none => simp [sliceBounds, HT.sIx]
    | some i =>
      simp only [sliceBounds, HT.sIx, Option.getD_none, show (1 : Int) > 0 by decide, if_true]
      by_cases h : i < 0
      · simp only [h, if_true] <;> omega
      · simp only [h, if_false] <;> omega
  · cases hi with
    | none => simp [sliceBounds, HT.sIx]
    | some i =>
      simp only [sliceBounds, HT.sIx, Option.getD_none, show (1 : Int) > 0 by decide, if_true]
      by_cases h : i < 0
      · simp only [h, if_true] <;> omega
      · simp only [h, if_false] <;> omega
theorem slicePick_cut (its : List Value) (lo hi : Option Int) : slicePick its.toArray lo hi none = ((its.drop (HT.sIx its.length 0 lo)).take (HT.sIx its.length its.length hi - HT.sIx its.length 0 lo)).toArray := by
  obtain ⟨h1, h2, h3⟩ := slice_bounds lo hi its.toArray.size
  unfold slicePick
  rw [h1, h2, h3]
  simp only [sliceRange_one, pick_run, List.size_toArray] <;> rfl
def rSlL (K : PySem.W.Frag) : V → Option Int → Option Int → Hp → VK → Prop := fun x lo hi H Q => ∃ a xs, x = .ref a ∧ SqL K H a xs ∧ ∀ p, H p = none → Q (.ref p) (upd H p (.lst (cutV xs lo hi)))
theorem sl_list : SlR X (rSlL X.K) := by
  intro pins s σ H x v vl vu lo hi sl Q I rx hs pl pu h
  obtain ⟨a, xs, rfl, hx, q⟩ := h
  cases rx
  obtain ⟨its, r, ht, hz⟩ := I.list hx
  have hlen := r.length
  refine ⟨"list", _, slot_list_getitem.lookup, ht.isList.typeIs, ?_⟩
  refine wpAny_getItem_list_slice ht.isList hs pl pu .none (by simp) ?_ (by rw [List.size_toArray] <;> omega)
  rw [slicePick_cut, ← hlen]
  refine ⟨.ref s.heap.objs.size, _, I.laid (t' := s.toks) (o := .lst (cutV xs lo hi)) (fun b ob q => Heap.get?_push_of_some _ q) (Nat.le_refl _) ?_, rfl, q _ (I.hok.fresh (Nat.le_refl _))⟩
  exact ⟨Nat.le_trans (cutV_length xs lo hi) hz, _, 0, (r.drop (HT.sIx xs.length 0 lo)).take (HT.sIx xs.length xs.length hi - HT.sIx xs.length 0 lo), Heap.get?_push_size _ rfl⟩
def flatV : V → Bool
  | .non => true
  | .bl _ => true
  | .int _ => true
  | .str _ => true
  | _ => false
def eqV : V → V → Bool
  | .non, .non => true
  | .bl a, .bl b => a == b
  | .bl a, .int b => (if a then 1 else 0) == b
  | .int a, .bl b => a == (if b then 1 else 0)
  | .int a, .int b => a == b
  | .str a, .str b => a == b
  | _, _ => false
theorem eqAt_V {A : Around} {s : Shared} {y x : V} {u v : Value} (ry : RelV y u) (rx : RelV x v) (fy : flatV y = true) (fx : flatV x = true) : SeqAt.EqAt A s u v (eqV y x) := by
  cases y with
  | non =>
    cases ry
    cases x with
    | non => cases rx; exact SeqAt.EqAt.same _
    | bl b => cases rx; exact SeqAt.EqAt.none_bool b
    | int b => obtain ⟨t, rfl⟩ := rx; exact SeqAt.EqAt.none_int b t
    | str b => obtain ⟨t, rfl⟩ := rx; exact SeqAt.EqAt.none_str b t
    | _ => exact absurd (show false = true from fx) Bool.false_ne_true
  | bl a =>
    cases ry
    cases x with
    | non => cases rx; exact SeqAt.EqAt.bool_none a
    | bl b => cases rx; exact SeqAt.EqAt.bool_bool a b
    | int b => obtain ⟨t, rfl⟩ := rx; exact SeqAt.EqAt.bool_int a b t
    | str b => obtain ⟨t, rfl⟩ := rx; exact SeqAt.EqAt.bool_str a b t
    | _ => exact absurd (show false = true from fx) Bool.false_ne_true
  | int a =>
    obtain ⟨t', rfl⟩ := ry
    cases x with
    | non => cases rx; exact SeqAt.EqAt.int_none a t'
    | bl b => cases rx; exact SeqAt.EqAt.int_bool a t' b
    | int b => obtain ⟨t, rfl⟩ := rx; exact SeqAt.EqAt.int_int a t' b t
    | str b => obtain ⟨t, rfl⟩ := rx; exact SeqAt.EqAt.int_str a t' b t
    | _ => exact absurd (show false = true from fx) Bool.false_ne_true
  | str a =>
    obtain ⟨t', rfl⟩ := ry
    cases x with
    | non => cases rx; exact SeqAt.EqAt.str_none a t'
    | bl b => cases rx; exact SeqAt.EqAt.str_bool a t' b
    | int b => obtain ⟨t, rfl⟩ := rx; exact SeqAt.EqAt.str_int a t' b t
    | str b => obtain ⟨t, rfl⟩ := rx; exact SeqAt.EqAt.str_str a t' b t
    | _ => exact absurd (show false = true from fx) Bool.false_ne_true
  | _ => exact absurd (show false = true from fy) Bool.false_ne_true
def eqU (x : V) (u : Value) : Bool := match u with
  | .none => eqV .non x
  | .bool b => eqV (.bl b) x
  | .int i _ => eqV (.int i) x
  | .str z _ => eqV (.str z) x
  | _ => false
theorem eqU_of {x y : V} {u : Value} (r : RelV y u) (f : flatV y = true) : eqU x u = eqV y x := by
  cases y with
  | non => cases r; rfl
  | bl b => cases r; rfl
  | int i => obtain ⟨t, rfl⟩ := r; rfl
  | str z => obtain ⟨t, rfl⟩ := r; rfl
  | _ => exact absurd (show false = true from f) Bool.false_ne_true
theorem any_eqU {x : V} : ∀ {xs : List V} {us : List Value}, Vals xs us → xs.all flatV = true → us.any (eqU x) = xs.any fun y => eqV y x
  | _, _, .nil, _ => rfl
  | y :: xs, u :: us, .cons r t, f => by
    rw [List.all_cons, Bool.and_eq_true] at f
    rw [List.any_cons, List.any_cons, eqU_of r f.1, any_eqU t f.2]
theorem mem_eqAt {A : Around} {s : Shared} {x : V} {v : Value} (rx : RelV x v) (fx : flatV x = true) : ∀ {xs : List V} {us : List Value}, Vals xs us → xs.all flatV = true → ∀ u ∈ us, SeqAt.EqAt A s u v (eqU x u)
  | _, _, .nil, _ => fun u hu => by cases hu
  | y :: xs, u :: us, .cons r t, f => fun u' hu => by
    rw [List.all_cons, Bool.and_eq_true] at f
    rcases List.mem_cons.mp hu with rfl | hu
    · rw [eqU_of r f.1]; exact eqAt_V r rx f.1 fx
    · exact mem_eqAt rx fx t f.2 u' hu
def inV (x : V) (xs : List V) : Bool := xs.any fun y => eqV y x
def rIn (K : PySem.W.Frag) (neg : Bool) : R2 := fun x y H Q => ∃ p xs, y = .ref p ∧ (SqL K H p xs ∨ SqT K H p xs) ∧ flatV x = true ∧ xs.all flatV = true ∧ Q (.bl (if neg then !inV x xs else inV x xs)) H
theorem op_in_seq : OpR X (compareOp .In) (rIn X.K false) := by
  intro pins s σ H x y v u Q I rx ry h
  obtain ⟨p, xs, rfl, hq, fx, fs, q⟩ := h
  cases ry
  rcases hq with hq | hq
  · obtain ⟨its, r, pl, hz⟩ := I.list hq
    refine SeqAt.in_listAt (eqU x) pl.isList (fun w hw => mem_eqAt rx fx r fs w (by simpa using hw)) ⟨.bl _, H, I, rfl, ?_⟩
    rw [show its.toArray.any (eqU x) = its.any (eqU x) by simp, any_eqU r fs]
    exact q
  · obtain ⟨its, r, pl, hz⟩ := I.tuple hq
    refine SeqAt.in_tupleAt (eqU x) pl (fun w hw => mem_eqAt rx fx r fs w (by simpa using hw)) ⟨.bl _, H, I, rfl, ?_⟩
    rw [show its.toArray.any (eqU x) = its.any (eqU x) by simp, any_eqU r fs]
    exact q
theorem op_notIn_seq : OpR X (compareOp .NotIn) (rIn X.K true) := by
  intro pins s σ H x y v u Q I rx ry h
  obtain ⟨p, xs, rfl, hq, fx, fs, q⟩ := h
  cases ry
  rcases hq with hq | hq
  · obtain ⟨its, r, pl, hz⟩ := I.list hq
    refine SeqAt.notIn_listAt (eqU x) pl.isList (fun w hw => mem_eqAt rx fx r fs w (by simpa using hw)) ⟨.bl _, H, I, rfl, ?_⟩
    rw [show its.toArray.any (eqU x) = its.any (eqU x) by simp, any_eqU r fs]
    exact q
  · obtain ⟨its, r, pl, hz⟩ := I.tuple hq
    refine SeqAt.notIn_tupleAt (eqU x) pl (fun w hw => mem_eqAt rx fx r fs w (by simpa using hw)) ⟨.bl _, H, I, rfl, ?_⟩
    rw [show its.toArray.any (eqU x) = its.any (eqU x) by simp, any_eqU r fs]
    exact q
theorem call_len_seq : CallR X (.builtin "len") (fun xs H Q => ∃ p ys, xs = [.ref p] ∧ (SqL X.K H p ys ∨ SqT X.K H p ys) ∧ Q (.int ys.length) H) := by
  intro pins s σ H xs us Q I r h
  obtain ⟨p, ys, rfl, hq, q⟩ := h
  obtain ⟨u, rfl, rx⟩ := vals1 r
  cases rx
  have hn := line63
  rcases hq with hq | hq
  · obtain ⟨its, r', pl, hz⟩ := I.list hq
    have hlen := r'.length
    exact Calls.call_len_list pl.isList (by simp only [List.size_toArray] <;> omega) ⟨.int ys.length, H, I.tok _, ⟨s.toks + 1, by rw [List.size_toArray, hlen]⟩, q⟩
  · obtain ⟨its, r', pl, hz⟩ := I.tuple hq
    have hlen := r'.length
    exact len_tuple pl (by simp only [List.size_toArray] <;> omega) ⟨.int ys.length, H, I.tok _, ⟨s.toks + 1, by rw [List.size_toArray, hlen]⟩, q⟩
theorem call_list_of : CallR X (.type "list") (fun xs H Q => ∃ p ys, xs = [.ref p] ∧ (SqL X.K H p ys ∨ SqT X.K H p ys) ∧ ∀ l, H l = none → Q (.ref l) (upd H l (.lst ys))) := by
  intro pins s σ H xs us Q I r h
  obtain ⟨p, ys, rfl, hq, q⟩ := h
  obtain ⟨u, rfl, rx⟩ := vals1 r
  cases rx
  have fin : ∀ (its : List Value), Vals ys its → ys.length ≤ sizeLine → ∀ (h' : Heap) (c' : Nat), (∀ b o', s.heap.get? b = some o' → h'.get? b = some o') →
      h'.get? s.heap.objs.size = some { cls := .type "list", dict := none, data := .seq its.toArray c', slots := #[] } → EP X pins σ Q (.ref s.heap.objs.size) { s with heap := h' } := fun its r' hz h' c' kp e =>
    ⟨.ref s.heap.objs.size, _, I.laid (t' := s.toks) kp (Nat.le_refl _) (show ObjOk X.prog X.w _ h' _ (.lst ys) from ⟨hz, its, c', r', e⟩), rfl, q _ (I.hok.fresh (Nat.le_refl _))⟩
  rcases hq with hq | hq
  · obtain ⟨its, r', pl, hz⟩ := I.list hq
    have hlen := r'.length
    obtain ⟨o, ho, hc, n, hd⟩ := pl.isList
    exact call_list_seq p (.inl rfl) ho hc hd (fun h' c' kp e => fin its r' hz h' c' kp e) (by simp only [List.size_toArray] <;> omega)
  · obtain ⟨its, r', pl, hz⟩ := I.tuple hq
    have hlen := r'.length
    obtain ⟨o, ho, hc, n, hd⟩ := pl
    exact call_list_seq p (.inr rfl) ho hc hd (fun h' c' kp e => fin its r' hz h' c' kp e) (by simp only [List.size_toArray] <;> omega)
def tyV (K : PySem.W.Frag) (T : String) (x : V) (H : Hp) : Prop := match x with
  | .str _ => T = "str"
  | .int _ => T = "int"
  | .ref p => (T = "list" ∧ ∃ xs, SqL K H p xs) ∨ (T = "tuple" ∧ ∃ o, K.lookup p = some o ∧ o.cls = .type "tuple" ∧ o.dict = none) ∨
      (T = "dict" ∧ ((∃ kvs, H p = some (.dK kvs)) ∨ ∃ kvs, H p = some (.dT kvs))) ∨ (T = "set" ∧ ∃ S n, H p = some (.set S n))
  | _ => False
theorem tyV_is {pins : List (Addr × Obj)} {σ : St} {H : Hp} {s : Shared} {T : String} {x : V} {v : Value} (I : Inv X pins σ H s) (r : RelV x v) (ty : tyV X.K T x H) :
    s.TypeIs v T ∧ ∀ a, v = .ref a → ∃ ob, s.heap.get? a = some ob ∧ ob.dict = none := by
  cases x with
  | str z =>
    obtain ⟨t, rfl⟩ := r
    cases (show T = "str" from ty)
    exact ⟨typeIs_str s z t, fun _ e => nomatch e⟩
  | int i =>
    obtain ⟨t, rfl⟩ := r
    cases (show T = "int" from ty)
    exact ⟨typeIs_int s i t, fun _ e => nomatch e⟩
  | ref p =>
    cases r
    rcases ty with ⟨rfl, xs, hq⟩ | ⟨rfl, o, hk, hc, hd⟩ | ⟨rfl, hk⟩ | ⟨rfl, S, n, hk⟩
    · obtain ⟨its, _, pl, _⟩ := I.list hq
      refine ⟨pl.isList.typeIs, fun a e => ?_⟩
      cases e
      obtain ⟨o, n, e, c, hd, _⟩ := pl
      exact ⟨o, e, hd⟩
    · refine ⟨⟨o, I.kIn p o hk, hc⟩, fun a e => ?_⟩
      cases e
      exact ⟨o, I.kIn _ o hk, hd⟩
    · have z : ∃ o, s.heap.get? p = some o ∧ o.ExactDict := by
        rcases hk with ⟨kvs, hk⟩ | ⟨kvs, hk⟩
        · obtain ⟨_, _, _, _, o, _, _, e, ex, _⟩ := I.hok p _ hk
          exact ⟨o, e, ex⟩
        · obtain ⟨_, _, _, _, o, _, _, e, ex, _⟩ := I.hok p _ hk
          exact ⟨o, e, ex⟩
      obtain ⟨o, e, ex⟩ := z
      refine ⟨⟨o, e, ex.1⟩, fun a e2 => ?_⟩
      cases e2
      exact ⟨o, e, ex.2.1⟩
    · obtain ⟨o, _, _, _, e, ex, _⟩ := I.hok p _ hk
      refine ⟨⟨o, e, ex.1⟩, fun a e2 => ?_⟩
      cases e2
      exact ⟨o, e, ex.2.1⟩
  | _ => exact False.elim ty
def tBM0 (K : PySem.W.Frag) (T : String) (r : V → List V → Hp → VK → Prop) (to : TE) : TE := fun σ H Q => to σ H fun x H1 => tyV K T x H1 ∧ r x [] H1 Q
def tBM (K : PySem.W.Frag) (T : String) (r : V → List V → Hp → VK → Prop) (to : TE) (t : TA) : TE := fun σ H Q => to σ H fun x H1 => tyV K T x H1 ∧ t σ H1 fun xs H2 => r x xs H2 Q
variable {o e : Expr} {es : List Expr} {to : TE} {t : TA} {name : Str} {apos cpos : Pos} {T id : String} {r : V → List V → Hp → VK → Prop}
theorem pe_bm0 (pa : PlainAttrs T) (slot : Slot T name id) (hty : typeOf (.builtin id) = pure (.type "method_descriptor")) (hm : MtR X id r) (ho : PE X o to)
    (hbase : attributeBase o name X.env (eval o X.env) = eval o X.env := by rfl) (hline : (apos.endLine == cpos.line) = true := by rfl) : PE X (.Call (.Attribute o name apos) [] [] cpos) (tBM0 X.K T r to) := by
  intro pins s σ H Q I h
  refine wpAny_Call_method0_late hbase hline (thn (ho pins s σ H _ I h) fun v s1 ⟨x, H1, I1, r1, ty, q1⟩ => ?_)
  obtain ⟨h1, h2⟩ := tyV_is I1 r1 ty
  exact ⟨T, id, pa, slot, hty, h1, h2, Calls.callWith_builtin rfl (PySem.evalArgs_none (hm pins s1 σ H1 x [] v [] Q I1 r1 .nil q1))⟩
theorem pe_bm (pa : PlainAttrs T) (slot : Slot T name id) (hty : typeOf (.builtin id) = pure (.type "method_descriptor")) (hm : MtR X id r) (ho : PE X o to) (ha : PA X (e :: es) t)
    (hbase : attributeBase o name X.env (eval o X.env) = eval o X.env := by rfl)
    (hfew : ((backTo cpos (starEach (e :: es) X.env)).all (fun x => !x.1) && (backToKw cpos (keywordEach [] X.env)).all (fun x => x.1.isSome)
      && decide ((e :: es).length + ([] : List Keyword).length + (if ([] : List Keyword).isEmpty then 0 else 1) < 30)) = true := by rfl)
    (hline : (apos.endLine == cpos.line) = true := by rfl) (hs : starEach (e :: es) X.env = (false, eval e X.env) :: starEach es X.env := by rfl) (hplain : (backTo cpos (starEach es X.env)).any (·.1) = false := by rfl) :
    PE X (.Call (.Attribute o name apos) (e :: es) [] cpos) (tBM X.K T r to t) := by
  intro pins s σ H Q I h
  refine wpAny_Call_method_late hbase hfew hline rfl (thn (ho pins s σ H _ I h) fun v s1 ⟨x, H1, I1, r1, ty, q1⟩ => ?_)
  obtain ⟨h1, h2⟩ := tyV_is I1 r1 ty
  refine ⟨T, id, pa, slot, hty, h1, h2, ?_⟩
  have hA := ha cpos pins s1 σ H1 _ I1 q1
  rw [hs] at hA ⊢
  refine Calls.callWith_builtin (by show (false || (backTo cpos (starEach es X.env)).any (·.1)) = false; rw [hplain] <;> rfl) (Calls.evalArgs_plain ?_)
  exact thn hA fun us s2 ⟨vs, H2, I2, r2, q2⟩ => hm pins s2 σ H2 x vs v us Q I2 r1 r2 q2
end
end L2
namespace L2
open PySem PySem.Spec PyProof.Rows
def MtM (X : Cx) (id : String) (r : V → List V → Hp → VK → Prop) : Prop :=
  ∀ (pins : List (Addr × Obj)) (s : Shared) (σ : St) (H : Hp) (x : V) (xs : List V) (v : Value) (us : List Value) (Q : VK), Inv X pins σ H s → RelV x v → Vals xs us → r x xs H Q →
    wpAny (model X.prog X.w) X.A (call (.builtin id) (v :: us)) (EP X pins σ Q) X.xe s
theorem Vals.one : ∀ {x : V} {us : List Value}, Vals [x] us → ∃ u, us = [u] ∧ RelV x u
  | _, _, .cons r .nil => ⟨_, rfl, r⟩
theorem Vals.two : ∀ {x y : V} {us : List Value}, Vals [x, y] us → ∃ u v, us = [u, v] ∧ RelV x u ∧ RelV y v
  | _, _, _, .cons r (.cons q .nil) => ⟨_, _, rfl, r, q⟩
theorem Vals.zero : ∀ {us : List Value}, Vals [] us → us = []
  | _, .nil => rfl
section
variable {X : Cx} {pins : List (Addr × Obj)} {σ : St} {H : Hp} {s : Shared} {l b : Addr} {xs ys zs : List V}
theorem Inv.lset {its its' : List Value} {n : Nat} {f : Array Value → Array Value} {t' : Nat} (I : Inv X pins σ H s) (hH : H l = some (.lst xs))
    (e : s.heap.get? l = some { cls := .type "list", data := .seq its.toArray n }) (hf : f its.toArray = its'.toArray) (hv : Vals ys its') (hz : ys.length ≤ sizeLine) :
    Inv X pins σ (upd H l (.lst ys)) { s with heap := s.heap.update l (Obj.mapSeq f), toks := t' } := by
  have q := PySem.IsL.update e f
  rw [hf] at q
  refine I.write (x := l) (e := l) (by rw [hH]; exact trivial) (.inl rfl) (fun b' u hb hu => (Heap.get?_update_other s.heap (Obj.mapSeq f) (Ne.symm hb)).trans hu) ⟨_, q⟩ ?_
  exact ⟨hz, its', _, hv, q⟩
theorem Inv.lnew {its : List Value} {t' : Nat} (I : Inv X pins σ H s) (hv : Vals ys its) (hz : ys.length ≤ sizeLine) :
    Inv X pins σ (upd H s.heap.objs.size (.lst ys)) { s with heap := s.heap.push { cls := .type "list", data := .seq its.toArray }, toks := t' } :=
  I.laid (fun _ _ q => Heap.get?_push_of_some _ q) (Nat.le_refl _) ⟨hz, its, 0, hv, Heap.get?_push_size _ rfl⟩
theorem Inv.fresh (I : Inv X pins σ H s) : H s.heap.objs.size = none := I.hok.fresh (Nat.le_refl _)
theorem Inv.lstM (I : Inv X pins σ H s) (hH : H l = some (.lst xs)) : xs.length ≤ sizeLine ∧ ∃ (its : List Value) (n : Nat), Vals xs its ∧ xs.length = its.length ∧ s.heap.get? l = some { cls := .type "list", data := .seq its.toArray n } := by
  obtain ⟨z, its, n, r, e⟩ := I.hok l _ hH
  exact ⟨z, its, n, r, r.length, e⟩
end
section
variable {X : Cx}
def rAppend : V → List V → Hp → VK → Prop := fun x vs H Q => ∃ l xs y, x = .ref l ∧ vs = [y] ∧ H l = some (.lst xs) ∧ xs.length < sizeLine ∧ Q .non (upd H l (.lst (xs ++ [y])))
theorem mt_append : MtM X "list.append" rAppend := by
  intro pins s σ H x vs v us Q I rx rv h
  obtain ⟨l, xs, y, rfl, rfl, hH, hz, q⟩ := h
  cases rx
  obtain ⟨u, rfl, ru⟩ := rv.one
  obtain ⟨z, its, n, r, hl, e⟩ := I.lstM hH
  refine call_meets F.slot_list_append ⟨_, e, rfl⟩ F.entry_list_append (F.args_list_append_2 _ _) (PySem.list_append l its.toArray n u (by rw [List.size_toArray]; omega)) ⟨e, ?_⟩
  refine ⟨.non, _, I.lset (its' := its ++ [u]) hH e (by simp) (r.append (.cons ru .nil)) ?_, rfl, q⟩
  rw [List.length_append, List.length_singleton]
  omega
def rClear : V → List V → Hp → VK → Prop := fun x vs H Q => ∃ l xs, x = .ref l ∧ vs = [] ∧ H l = some (.lst xs) ∧ Q .non (upd H l (.lst []))
theorem mt_clear : MtM X "list.clear" rClear := by
  intro pins s σ H x vs v us Q I rx rv h
  obtain ⟨l, xs, rfl, rfl, hH, q⟩ := h
  cases rx
  have hus := rv.zero
  subst hus
  obtain ⟨z, its, n, r, hl, e⟩ := I.lstM hH
  refine call_meets F.slot_list_clear ⟨_, e, rfl⟩ F.entry_list_clear (F.args_list_clear_1 _) (AutoSeq1.list_clear_list_0 l its.toArray n (by rw [List.size_toArray]; omega)) ⟨e, ?_⟩
  exact ⟨.non, _, I.lset (its' := []) (ys := []) hH e rfl .nil (Nat.zero_le _), rfl, q⟩
end
section
variable {prog : Program} {w : World} {A : Around} {E : Value → Shared → Prop} {s : Shared}
end
section
variable {X : Cx}
end
end L2
namespace Att
open PySem PySem.W PySem.Calls PyProof.Rows
theorem ints_of_wellAll {P : Params} {h : Heap} : ∀ (ns : List Int) (vs : List Value), WellAll P h vs (ns.map WData.int) → IntsAre vs ns := by
  intro ns
  induction ns with
  | nil =>
    intro vs w
    rw [List.map_nil] at w
    cases w
    exact .nil
  | cons n ns ih =>
    intro vs w
    rw [List.map_cons] at w
    cases w with
    | cons a b =>
      cases a
      exact .cons _ _ (ih _ b)
theorem script_of {l : OpenLaw} {n : Nat} (hn : l.most = some n) {P : Params} {h : Heap} {args : List WData} {vals : List Value}
    (hpre : l.row.toRowW.claim.pre args = true) (hwl : WellAll P h vals args) :
    ∃ a vs ns, vals = [Value.ref a] ∧ args = [WData.list (ns.map WData.int)] ∧ h.get? a = some { cls := .type "list", data := .seq vs.toArray } ∧ IntsAre vs ns ∧ ns.length ≤ n := by
  have hsh : WShape.hasAll [] args [.list .int] = true := (pre_splitW hpre).1
  have hc : l.pre.holds [] { args := args } = true := (pre_splitW hpre).2
  obtain ⟨d, r, rfl, h1, h2⟩ := hasAllW_cons hsh
  obtain rfl := hasAllW_nil h2
  obtain ⟨xs, rfl, h3⟩ := hasW_list h1
  obtain ⟨ns, rfl⟩ := items_int h3
  have hlen : ns.length ≤ n := by
    unfold OpenLaw.pre at hc
    have h4 : (WTm.not (.lt (.lit (.int (n : Int))) (.len (.arg 0)))).holds [] { args := [.list (ns.map .int)] } = true := by
      have h4 := (holds_andW hc).1
      rw [hn] at h4
      exact h4
    have h5 := condW_of h4 (w_not (w_lt w_lit (w_len_list (w_arg rfl))))
    rw [List.length_map] at h5
    refine Nat.le_of_not_lt fun q => ?_
    have q' : (n : Int) < ((ns.length : Nat) : Int) := by omega
    first
      | (rw [decide_eq_true q'] at h5; exact absurd h5 (by decide))
      | (simp at h5; omega)
  cases hwl with
  | cons w1 w2 =>
    cases w2
    cases w1 with
    | list ho hall => exact ⟨_, _, ns, rfl, rfl, ho, ints_of_wellAll ns _ hall, hlen⟩
theorem post_true (l : OpenLaw) (args : List WData) : l.row.toRowW.claim.post args (.bool true) args = true :=
  postW_of (r := l.row.toRowW) (X := (true == true))
    (show WShape.has [] (.bool true) .bool = true by first | rfl | decide | simp [WShape.has, WShape.arms, WShape.armsAll])
    (show (WTm.eq .res (.lit (.bool true))).value [] { args := args, res := some (.bool true), after := args } = some (.bool (true == true)) from w_eq_bool (w_res rfl) w_lit) rfl
section
variable {prog : Program} {w : World} {A : Around} {E : Value → Shared → Prop} {s : Shared} {K : Frag}
end
end Att
namespace L2
open PySem PySem.Spec PyProof.Rows
theorem vals_ints : ∀ {vs : List Value} {ns : List Int}, IntsAre vs ns → Vals (ns.map V.int) vs
  | _, _, .nil => .nil
  | _, _, .cons n t h => .cons ⟨t, rfl⟩ (vals_ints h)
def Only (H : Hp) : Prop := ∀ b, H b = none ∨ ∃ o xs, H b = some (.frz o (.lst xs))
theorem law_call {P : Program} {w : World} {K : PySem.W.Frag} {mg mb : Str → Option Value} {CX : CXT} {k : Nat} {fa a : Addr} {fd : FuncData} {x : Str} {sp : Sp} {s₁ : Shared} {vs : List Value} {ns : List Int}
    (KX : K.In s₁.heap) (hns : s₁.heap.Ns mainGlobals mg) (hb : s₁.heap.Ns builtinsNs mb) (hbb : ∀ x : Str, x ≠ "__name__" → mb x = bootBuiltins x) (hlim : s₁.heap.NoLimit) (hg : s₁.gens = #[])
    (ha : s₁.heap.get? a = some { cls := .type "list", data := .seq vs.toArray }) (hi : IntsAre vs ns) (hl : ns.length ≤ sizeLine) (hr : Room k callerA)
    (F : ∀ base : Heap, K.In base → base.Ns mainGlobals mg → FnOk P w K mg base CX k fa fd [x] sp) (hbind : ∀ (s : Shared) (u : Value), BindsTo s fd ⟨[u], []⟩ [(x, u)])
    (hsp : ∀ H : Hp, Only H → SqL K H a (ns.map V.int) → sp [.ref a] H (fun v _ => v = .bl true) fun _ _ _ => False)
    (hCX : ∀ H e s', CX [] H s₁ (fun _ _ _ => False) e s' → False) :
    codeAny (model P w) callerA (.call (.ref fa) ⟨[.ref a], []⟩) (fun r s' => r = .ok (.ret (.bool true)) ∧ OldK s₁.heap s'.heap ∧ s'.os = s₁.os ∧ AllBare s'.gens) s₁ := by
  have rv := vals_ints hi
  have lenV := hi.length
  have core : ∀ H : Hp, Only H → SqL K H a (ns.map V.int) → HOk P w H s₁.heap → (∀ b, H b ≠ none → b = a) → (H a ≠ none → K.lookup a = none) →
      codeAny (model P w) callerA (.call (.ref fa) ⟨[.ref a], []⟩) (fun r s' => r = .ok (.ret (.bool true)) ∧ OldK s₁.heap s'.heap ∧ s'.os = s₁.os ∧ AllBare s'.gens) s₁ := by
    intro H hO hS hok hA hK
    have base_of : ∀ {b : Addr} {o : Obj}, s₁.heap.get? b = some o → H b = none → (hidT s₁.heap H).get? b = some o := fun e n => hidT_get e n
    have noA : ∀ {b : Addr} {o : Obj} {es : Array DictEntry} {ep : Nat}, s₁.heap.get? b = some o → o.data = .dict es ep → H b = none := fun {b o es ep} e d => by
      cases q : H b with
      | none => rfl
      | some u =>
        have e' : b = a := hA b (by rw [q]; simp)
        subst e'
        rw [ha] at e; cases e
        have d' : Data.seq vs.toArray _ = Data.dict es ep := d
        cases d'
    have nsK : ∀ {b : Addr} {m : Str → Option Value}, s₁.heap.Ns b m → (hidT s₁.heap H).Ns b m := fun {b m} ⟨o, es, ep, e, d, r⟩ => ⟨o, es, ep, base_of e (noA e d), d, r⟩
    have hKb : K.In (hidT s₁.heap H) := fun b o e => base_of (KX b o e) (by
      cases q : H b with
      | none => rfl
      | some u =>
        have e' : b = a := hA b (by rw [q]; simp)
        subst e'
        rw [hK (by rw [q]; simp)] at e; cases e)
    have hM : Mod K mg (hidT s₁.heap H) := ⟨hKb, nsK hns, ⟨mb, nsK hb, hbb⟩, let ⟨mc, h1, h2⟩ := hlim; ⟨mc, nsK h1, h2⟩⟩
    have e0 : Env0 P w K mg (hidT s₁.heap H) callerA [] s₁ H := ⟨rfl, hM, fun b o e => of_hidT e, Nat.le_of_eq (hidT_size _ _), trivial, fun b hb => absurd (show b ∈ ([] : List Addr) from hb) (by simp), hok, .of_eq hg⟩
    refine codeAny_mono ((F _ hKb (nsK hns)).run callerA [] s₁ H ⟨[.ref a], []⟩ [.ref a] [.ref a] _ _ hr e0 (hbind s₁ (.ref a)) (.cons rfl .nil) (hsp H hO hS)) fun r s' h => ?_
    cases r with
    | error e => exact (hCX H e s' h).elim
    | ok fl =>
      cases fl with
      | next => exact False.elim h
      | brk => exact False.elim h
      | cont => exact False.elim h
      | ret u =>
        obtain ⟨v, H', os, bare, un, hok', r', q⟩ := h
        have q' : v = .bl true := q
        subst q'
        obtain rfl : u = Value.bool true := r'
        refine ⟨rfl, OldK.of_keep fun b o e => ?_, os, bare⟩
        cases q : H b with
        | none => exact un.keep b o e q (by intro z; exact absurd (show b ∈ ([] : List Addr) from z) (by simp)) (by simp)
        | some u =>
          rcases hO b with z | ⟨ob, xs, z⟩
          · rw [q] at z; cases z
          · have z2 := un.frzs b ob _ z
            obtain ⟨e1, _⟩ := hok b _ z
            obtain ⟨e2, _⟩ := hok' b _ z2
            rw [e] at e1; cases e1
            exact e2
  cases hk : K.lookup a with
  | some o =>
    have e := KX a o hk
    rw [ha] at e
    cases e
    refine core (fun _ => none) (fun _ => .inl rfl) (.inr ⟨_, vs.toArray, _, hk, rfl, rfl, rfl, by rw [List.size_toArray, lenV]; exact hl, by simpa using rv⟩) (fun b u z => by have z' : (none : Option HO) = some u := z; cases z') (fun b z => absurd rfl z) fun z => absurd rfl z
  | none =>
    refine core (fun b => if b = a then some (.frz { cls := .type "list", data := .seq vs.toArray } (.lst (ns.map V.int))) else none) (fun b => ?_) (.inl (.inr ⟨{ cls := .type "list", data := .seq vs.toArray }, if_pos rfl⟩)) (fun b u z => ?_) (fun b z => ?_) fun _ => hk
    · by_cases hb : b = a
      · exact .inr ⟨_, _, if_pos hb⟩
      · exact .inl (if_neg hb)
    · by_cases hb : b = a
      · have z' := (if_pos hb).symm.trans z
        cases z'
        subst hb
        exact ⟨ha, by rw [List.length_map]; exact hl, vs, _, rv, ha⟩
      · have z' := (if_neg hb).symm.trans z
        cases z'
    · by_cases hb : b = a
      · exact hb
      · exact absurd (if_neg hb) z
end L2
namespace L2
open PySem PySem.Spec PyProof.Rows
end L2
namespace L2
open PySem PySem.Spec PyProof.Rows
def inClass (s : Stmt) (j : Nat) : Stmt := match s with
  | .ClassDef _ _ _ body _ _ _ _ _ _ _ => body.getD j (.Pass ⟨0, 0, 0, 0⟩)
  | _ => .Pass ⟨0, 0, 0, 0⟩
def defArgs (s : Stmt) : Arguments := match s with
  | .FunctionDef _ a _ _ _ _ _ _ _ _ => a
  | _ => { posonlyargs := [], args := [], vararg := none, kwonlyargs := [], kw_defaults := [], kwarg := none, defaults := [] }
def defBody (s : Stmt) : List Stmt := match s with
  | .FunctionDef _ _ b _ _ _ _ _ _ _ => b
  | _ => []
def defScope (s : Stmt) : Scope := match s with
  | .FunctionDef _ _ _ _ _ _ sc _ _ _ => sc
  | _ => { kind := .function, names := [], isGenerator := false, isCoroutine := false }
abbrev CX0 : CXT := fun _ _ _ _ _ _ => False
abbrev E0 : XK := fun _ _ _ => False
theorem pass0 {X : Cx} : Passes CX0 X E0 := fun _ _ _ _ _ _ _ h => h.elim
structure Fun (K : PySem.W.Frag) (x qual : Str) (st : Stmt) (f : Addr) (fd : FuncData) : Prop where
  ex : ∃ (oc : Value) (od : Option Addr) (kV doc pm : Value) (an : Option Addr) (cdv ct : Value) (osl : Array (Option Value)),
    fd = PySem.W.fnOf x qual (defArgs st) (defBody st) (defScope st) .none kV doc pm an cdv ct ∧ K.lookup f = some ⟨oc, od, .func fd, osl⟩ ∧ PySem.W.codeIn K cdv qual = true
  kp : PySem.W.keepIn K (.ref f) = true
section
variable {P : Program} {w : World} {K : PySem.W.Frag} {mg : Str → Option Value} {base : Heap}
theorem Fun.ok {x qual : Str} {st : Stmt} {f : Addr} {fd : FuncData} {N ps : List Str} {k : Nat} {sp : Sp} (F : Fun K x qual st f fd) (S : FnScope N ps (defScope st)) (len : ∀ vs H Q E, sp vs H Q E → vs.length = ps.length)
    (hbody : ∀ (cdv : Value) (A : Around) (outer : List Env) (s : Shared) (H : Hp) (vs : List V) (Q : VK) (E : XK), Room k (A.deeper (envOfC qual (defScope st) s.heap.objs.size f cdv)) → sp vs H Q E →
      ∃ t, PSs (cxOf CX0 P w K mg base N qual (defScope st) f cdv A outer s H E).nox (defBody st) t ∧ t { nx := fun _ H' => Q .non H', rt := Q } (start N vs) H) : FnOk P w K mg base CX0 (k + 1) f fd ps sp := by
  obtain ⟨oc, od, kV, doc, pm, an, cdv, ct, osl, rfl, lk, hcd⟩ := F.ex
  refine fn_of lk hcd S len fun A outer s H vs Q E hr hsp => ?_
  obtain ⟨t, h, q⟩ := hbody cdv A outer s H vs Q E hr hsp
  exact ⟨t, h.nox, q⟩
theorem Fun.binds {x qual : Str} {st : Stmt} {f : Addr} {fd : FuncData} {ps : List Str} (F : Fun K x qual st f fd)
    (h : ∀ (kV doc pm : Value) (an : Option Addr) (cdv ct : Value) (us : List Value), us.length = ps.length → bindArgs (PySem.W.fnOf x qual (defArgs st) (defBody st) (defScope st) .none kV doc pm an cdv ct) ⟨us, []⟩ = pure (ps.zip us)) : Binds K fd ps [] := by
  obtain ⟨oc, od, kV, doc, pm, an, cdv, ct, osl, rfl, lk, hcd⟩ := F.ex
  exact .all (h kV doc pm an cdv ct)
theorem fun_mk {x qual : Str} {st : Stmt} {f : Addr} {oc : Value} {od an : Option Addr} {osl : Array (Option Value)} {kV doc pm cdv ct : Value} (l : K.lookup f = some ⟨oc, od, .func (PySem.W.fnOf x qual (defArgs st) (defBody st) (defScope st) .none kV doc pm an cdv ct), osl⟩)
    (c : PySem.W.codeIn K cdv qual = true) (k : PySem.W.keepIn K (.ref f) = true) : Fun K x qual st f (PySem.W.fnOf x qual (defArgs st) (defBody st) (defScope st) .none kV doc pm an cdv ct) := ⟨⟨oc, od, kV, doc, pm, an, cdv, ct, osl, rfl, l, c⟩, k⟩
end
theorem hu_of {A : Around} {k : Nat} (hr : Room k A) : A.units + 1 < cLine := Nat.lt_of_le_of_lt (Nat.add_le_add_left (by decide : 1 ≤ 64) _) hr.units
theorem small1000 {n : Nat} (h : n ≤ 1000) : n < sizeLine := Nat.lt_of_le_of_lt h (by decide)
section
variable {X : Cx}
theorem pv (i : Nat) {x : Str} {pos : Pos} (hN : X.N[i]? = some x := by rfl) (hv : Vis X.env.scope x := by first | exact Or.inl rfl | exact Or.inr (Or.inl rfl) | exact Or.inr (Or.inr rfl)) (hd : (x == ("__debug__" : Str)) = false := by decide)
    (hcd : (x == ("__classdict__" : Str)) = false := by decide) : PE X (.Name x pos) (tVar i) := pe_var hN hv hd hcd
end
def Same (H H' : Hp) : Prop := ∀ b o, H b = some o → H' b = some o
theorem Same.refl (H : Hp) : Same H H := fun _ _ h => h
theorem Same.trans {H H1 H2 : Hp} (a : Same H H1) (b : Same H1 H2) : Same H H2 := fun c o h => b c o (a c o h)
theorem Same.seq {K : PySem.W.Frag} {H H' : Hp} {a : Addr} {xs : List V} (e : Same H H') (h : SqL K H a xs) : SqL K H' a xs := by
  rcases h with (h | ⟨o, h⟩) | h
  · exact .inl (.inl (e _ _ h))
  · exact .inl (.inr ⟨o, e _ _ h⟩)
  · exact .inr h
end L2
namespace L2
open PySem PySem.Spec PyProof.Rows
end L2
namespace L2
open PySem PySem.Spec PyProof.Rows
end L2
namespace L2
open PySem PySem.Spec PyProof.Rows
end L2
namespace L2
open PySem PySem.Spec PyProof.Rows
end L2
namespace L2
open PySem PySem.Spec PyProof.Rows
end L2
namespace L2
open PySem PySem.Spec PyProof.Rows
end L2
namespace L2
open PySem PySem.Spec PyProof.Rows
end L2
namespace L2
open PySem PySem.Spec PyProof.Rows
end L2
namespace L2
open PySem PySem.Spec PyProof.Rows
end L2
namespace L2
open PySem PySem.Spec PyProof.Rows
end L2
namespace L2
open PySem PySem.Spec PyProof.Rows
section
variable {κ : Type} [DecidableEq κ]
def valV (kvs : List (κ × V)) (k : κ) : Option V := (kvs.find? fun kv => decide (kv.1 = k)).map (·.2)
def putK (kvs : List (κ × V)) (k : κ) (v : V) : List (κ × V) :=
  if (kvs.any fun kv => decide (kv.1 = k)) = true then kvs.map (fun kv => if kv.1 = k then (kv.1, v) else kv) else kvs ++ [(k, v)]
def dropK (kvs : List (κ × V)) (k : κ) : List (κ × V) := kvs.filter fun kv => decide (kv.1 ≠ k)
theorem valV_pos {p : κ × V} {r : List (κ × V)} {k : κ} (e : p.1 = k) : valV (p :: r) k = some p.2 := by simp [valV, List.find?_cons, e]
theorem valV_neg {p : κ × V} {r : List (κ × V)} {k : κ} (e : ¬ p.1 = k) : valV (p :: r) k = valV r k := by simp [valV, List.find?_cons, e]
theorem valV_any (k : κ) : ∀ kvs : List (κ × V), (kvs.any fun kv => decide (kv.1 = k)) = (valV kvs k).isSome
  | [] => rfl
  | p :: r => by
    rw [List.any_cons]
    by_cases e : p.1 = k
    · simp only [valV_pos e, decide_eq_true e, Bool.true_or, Option.isSome_some]
    · rw [valV_neg e, decide_eq_false e, Bool.false_or]; exact valV_any k r
theorem length_putK (kvs : List (κ × V)) (k : κ) (v : V) : (putK kvs k v).length ≤ kvs.length + 1 := by
  unfold putK
  split
  · rw [List.length_map]; omega
  · rw [List.length_append, List.length_cons, List.length_nil]; omega
theorem putK_new {kvs : List (κ × V)} {k : κ} (v : V) (h : valV kvs k = none) : putK kvs k v = kvs ++ [(k, v)] := by
  unfold putK
  rw [valV_any, h]
  exact if_neg (by decide)
theorem RelO.isSome_eq {o : Option V} {u : Option Value} (r : RelO o u) : o.isSome = u.isSome := by
  cases o with
  | none => cases u with
    | none => rfl
    | some _ => exact (show False from r).elim
  | some _ => cases u with
    | none => exact (show False from r).elim
    | some _ => rfl
theorem KV.val {kvs : List (κ × V)} {vs : List (κ × Value)} (r : KV kvs vs) (k : κ) : RelO (valV kvs k) (valueAt vs k) := by
  unfold KV at r
  induction r with
  | nil => exact True.intro
  | @cons p q ps qs h t ih =>
    obtain ⟨h1, h2⟩ := h
    by_cases e : p.1 = k
    · have e' : q.1 = k := h1.symm.trans e
      have b : valueAt (q :: qs) k = some q.2 := by simp [valueAt, List.find?_cons, e']
      rw [valV_pos e, b]; exact h2
    · have e' : ¬ q.1 = k := fun z => e (h1.trans z)
      have b : valueAt (q :: qs) k = valueAt qs k := by simp [valueAt, List.find?_cons, e']
      rw [valV_neg e, b]; exact ih
theorem KV.any {kvs : List (κ × V)} {vs : List (κ × Value)} (r : KV kvs vs) (k : κ) : (kvs.any fun kv => decide (kv.1 = k)) = vs.any fun kv => decide (kv.1 = k) := by
  unfold KV at r
  induction r with
  | nil => rfl
  | cons h t ih => rw [List.any_cons, List.any_cons, ih, h.1]
theorem KV.repl {kvs : List (κ × V)} {vs : List (κ × Value)} (r : KV kvs vs) (k : κ) {y : V} {u : Value} (ry : RelV y u) :
    KV (kvs.map fun kv => if kv.1 = k then (kv.1, y) else kv) (vs.map fun kv => if kv.1 = k then (kv.1, u) else kv) := by
  unfold KV at r ⊢
  induction r with
  | nil => exact .nil
  | @cons p q ps qs h t ih =>
    rw [List.map_cons, List.map_cons]
    refine .cons ?_ ih
    obtain ⟨h1, h2⟩ := h
    by_cases e : p.1 = k
    · rw [if_pos e, if_pos (h1.symm.trans e)]; exact ⟨h1, ry⟩
    · rw [if_neg e, if_neg (fun z => e (h1.trans z))]; exact ⟨h1, h2⟩
theorem KV.put {kvs : List (κ × V)} {vs : List (κ × Value)} (r : KV kvs vs) (k : κ) {y : V} {u : Value} (ry : RelV y u) : KV (putK kvs k y) (stored vs k u) := by
  unfold putK stored
  rw [r.any k]
  by_cases e : (vs.any fun kv => decide (kv.1 = k)) = true
  · rw [if_pos e, if_pos e]; exact r.repl k ry
  · rw [if_neg e, if_neg e]; exact Paired.snoc r ⟨rfl, ry⟩
theorem KV.drop {kvs : List (κ × V)} {vs : List (κ × Value)} (r : KV kvs vs) (k : κ) : KV (dropK kvs k) (without vs k) := by
  unfold KV at r ⊢
  unfold dropK without
  induction r with
  | nil => exact .nil
  | @cons p q ps qs h t ih =>
    obtain ⟨h1, h2⟩ := h
    rw [List.filter_cons, List.filter_cons]
    by_cases e : p.1 = k
    · have a : ¬ decide (p.1 ≠ k) = true := by simp [e]
      have b : ¬ decide (q.1 ≠ k) = true := by simp [h1.symm.trans e]
      rw [if_neg a, if_neg b]; exact ih
    · have e' : ¬ q.1 = k := fun z => e (h1.trans z)
      have a : decide (p.1 ≠ k) = true := by simp [e]
      have b : decide (q.1 ≠ k) = true := by simp [e']
      rw [if_pos a, if_pos b]; exact .cons ⟨h1, h2⟩ ih
theorem KV.keys {kvs : List (κ × V)} {vs : List (κ × Value)} (r : KV kvs vs) : kvs.map (·.1) = vs.map (·.1) := by
  unfold KV at r
  induction r with
  | nil => rfl
  | cons h t ih => rw [List.map_cons, List.map_cons, ih, h.1]
theorem KV.length {kvs : List (κ × V)} {vs : List (κ × Value)} (r : KV kvs vs) : kvs.length = vs.length := Paired.length r
theorem dropK_le (kvs : List (κ × V)) (k : κ) : (dropK kvs k).length ≤ kvs.length := List.length_filter_le _ _
end
theorem kV_is {P : Program} {w : World} {k : Key} {u : Value} (r : RelV (kV k) u) : (mixKind P w).is k u = true := by
  cases k with
  | inl i => obtain ⟨t, e⟩ := (show ∃ t, u = Value.int i t from r); subst e; exact mixKind_int P w i t
  | inr x => obtain ⟨t, e⟩ := (show ∃ t, u = Value.str x t from r); subst e; exact mixKind_str P w x t
theorem items_are {P : Program} {w : World} : ∀ {ks : List Key} {us : List Value}, Vals (ks.map kV) us → ItemsAre (mixKind P w) ks us
  | [], _, r => by rw [List.map_nil] at r; cases r; exact .nil
  | k :: ks, _, r => by
    rw [List.map_cons] at r
    cases r with
    | cons h t => exact .cons (kV_is h) (items_are t)
abbrev KT (H : Hp) : List (List Key × V) → List (List Key × Addr × Value) → Prop := Paired fun p q => p.1 = q.1 ∧ H q.2.1 = some (.tup (p.1.map kV)) ∧ RelV p.2 q.2.2
theorem KT.val {H : Hp} {kvs : List (List Key × V)} {xs : List (List Key × Addr × Value)} (r : KT H kvs xs) (k : List Key) : RelO (valV kvs k) ((atKey xs k).map (·.2)) := by
  induction r with
  | nil => exact True.intro
  | @cons p q ps qs h t ih =>
    obtain ⟨h1, _, h2⟩ := h
    by_cases e : p.1 = k
    · have e' : q.1 = k := h1.symm.trans e
      have b : atKey (q :: qs) k = some q.2 := by simp [atKey, List.find?_cons, e']
      rw [valV_pos e, b]; exact h2
    · have e' : ¬ q.1 = k := fun z => e (h1.trans z)
      have b : atKey (q :: qs) k = atKey qs k := by simp [atKey, List.find?_cons, e']
      rw [valV_neg e, b]; exact ih
theorem KT.repl {H : Hp} {kvs : List (List Key × V)} {xs : List (List Key × Addr × Value)} (r : KT H kvs xs) (k : List Key) {y : V} {u : Value} (ry : RelV y u) :
    KT H (kvs.map fun kv => if kv.1 = k then (kv.1, y) else kv) (xs.map (putAt k u)) := by
  induction r with
  | nil => exact .nil
  | @cons p q ps qs h t ih =>
    rw [List.map_cons, List.map_cons]
    refine .cons ?_ ih
    obtain ⟨h1, h2, h3⟩ := h
    unfold putAt
    by_cases e : p.1 = k
    · rw [if_pos e, if_pos (h1.symm.trans e)]; exact ⟨h1, h2, ry⟩
    · rw [if_neg e, if_neg (fun z => e (h1.trans z))]; exact ⟨h1, h2, h3⟩
theorem KT.put {H : Hp} {kvs : List (List Key × V)} {xs : List (List Key × Addr × Value)} (r : KT H kvs xs) (k : List Key) {b : Addr} {y : V} {u : Value} (hb : H b = some (.tup (k.map kV))) (ry : RelV y u) :
    KT H (putK kvs k y) (storedH xs k b u) := by
  have e : (kvs.any fun kv => decide (kv.1 = k)) = (atKey xs k).isSome := by
    rw [valV_any, (r.val k).isSome_eq, Option.isSome_map]
  unfold putK storedH
  rw [e]
  by_cases q : (atKey xs k).isSome = true
  · rw [if_pos q, if_pos q]; exact r.repl k ry
  · rw [if_neg q, if_neg q]; exact Paired.snoc r ⟨rfl, hb, ry⟩
theorem KT.keeps {H H' : Hp} {kvs : List (List Key × V)} {xs : List (List Key × Addr × Value)} (r : KT H kvs xs) (ht : ∀ b ys, H b = some (.tup ys) → H' b = some (.tup ys)) : KT H' kvs xs :=
  Paired.mapP r fun _ _ z => ⟨z.1, ht _ _ z.2.1, z.2.2⟩
section
variable {P : Program} {w : World} {H : Hp} {h : Heap} {a : Addr}
theorem rd_of {u : HO} (ok : HOk P w H h) (e : Rd H a u) : ObjOk P w H h a u := e.ok ok
theorem dk_rd {kvs : List (Key × V)} (ok : HOk P w H h) (e : Rd H a (.dK kvs)) : kvs.length ≤ sizeLine ∧ (a == sysModules) = false ∧ ∃ vs, KV kvs vs ∧ h.DictOf (mixKind P w) a vs :=
  show ObjOk P w H h a (.dK kvs) from rd_of ok e
theorem dk_of {kvs : List (Key × V)} (ok : HOk P w H h) (e : H a = some (.dK kvs)) : kvs.length ≤ sizeLine ∧ (a == sysModules) = false ∧ ∃ vs, KV kvs vs ∧ h.DictOf (mixKind P w) a vs := dk_rd ok (.inl e)
theorem key_of {ks : List Key} (ok : HOk P w H h) (e : H a = some (.tup (ks.map kV))) : (tupleKind (mixKind P w)).is h ks a := by
  obtain ⟨_, its, r, o, h1, h2, n, h3⟩ := (show ObjOk P w H h a (.tup (ks.map kV)) from ok a _ e)
  exact ⟨o, its.toArray, n, h1, h2, h3, by simpa using items_are r⟩
theorem dt_rd {kvs : List (List Key × V)} (ok : HOk P w H h) (e : Rd H a (.dT kvs)) : kvs.length ≤ sizeLine ∧ (a == sysModules) = false ∧
    ∃ xs, KT H kvs xs ∧ h.DictOfH (tupleKind (mixKind P w)) a xs := by
  obtain ⟨z, y, xs, r, o, es, ep, h1, h2, h3, h4, h5⟩ := (show ObjOk P w H h a (.dT kvs) from rd_of ok e)
  refine ⟨z, y, xs, r, o, es, ep, h1, h2, h3, h4, fun x hx => ?_, h5⟩
  have all : ∀ {l : List (List Key × V)} {m : List (List Key × Addr × Value)}, KT H l m → ∀ x ∈ m, (tupleKind (mixKind P w)).is h x.1 x.2.1 := by
    intro l m q
    induction q with
    | nil => intro x hx; exact nomatch hx
    | @cons p q ps qs hq t ih =>
      intro x hx
      rcases List.mem_cons.mp hx with e | hx
      · subst e
        exact key_of ok (by rw [← hq.1]; exact hq.2.1)
      · exact ih x hx
  exact all r x hx
theorem dt_of {kvs : List (List Key × V)} (ok : HOk P w H h) (e : H a = some (.dT kvs)) : kvs.length ≤ sizeLine ∧ (a == sysModules) = false ∧
    ∃ xs, KT H kvs xs ∧ h.DictOfH (tupleKind (mixKind P w)) a xs := dt_rd ok (.inl e)
end
def DGet (H : Hp) (a : Addr) (y : V) (r : Option V) : Prop :=
  (∃ kvs k, Rd H a (.dK kvs) ∧ y = kV k ∧ r = valV kvs k) ∨ ∃ kvs k b, Rd H a (.dT kvs) ∧ y = .ref b ∧ H b = some (.tup (k.map kV)) ∧ r = valV kvs k
def DPut (H : Hp) (a : Addr) (y v : V) (H' : Hp) : Prop :=
  (∃ kvs k, H a = some (.dK kvs) ∧ y = kV k ∧ kvs.length < sizeLine ∧ H' = upd H a (.dK (putK kvs k v))) ∨
  ∃ kvs k b, H a = some (.dT kvs) ∧ y = .ref b ∧ H b = some (.tup (k.map kV)) ∧ kvs.length < sizeLine ∧ H' = upd H a (.dT (putK kvs k v))
theorem DGet.k {H : Hp} {a : Addr} {kvs : List (Key × V)} {k : Key} (e : H a = some (.dK kvs)) : DGet H a (kV k) (valV kvs k) := .inl ⟨kvs, k, .inl e, rfl, rfl⟩
theorem DPut.k {H : Hp} {a : Addr} {kvs : List (Key × V)} {k : Key} {v : V} (e : H a = some (.dK kvs)) (hl : kvs.length < sizeLine) : DPut H a (kV k) v (upd H a (.dK (putK kvs k v))) := .inl ⟨kvs, k, e, rfl, hl, rfl⟩
section
variable {X : Cx} {pins : List (Addr × Obj)} {σ : St} {H : Hp} {s : Shared} {a : Addr} {y v : V} {u r : Value} {o : Option V} {A : Around} {E : Value → Shared → Prop}
theorem Inv.big (I : Inv X pins σ H s) : sysModules < s.heap.objs.size := by
  have h : mainGlobals < s.heap.objs.size := (I.mod.glob.keeps I.bk).lt
  exact Nat.lt_trans (by decide) h
theorem d_getItem {Q : Value → Shared → Prop} (hu : A.units + 1 < cLine) (I : Inv X pins σ H s) (g : DGet H a y (some v)) (ry : RelV y u) (h : ∀ w' s', Inv X pins σ H s' → RelV v w' → Q w' s') :
    wpAny (model X.prog X.w) A (getItem (.ref a) u) Q E s := by
  rcases g with ⟨kvs, k, e, ey, l⟩ | ⟨kvs, k, b, e, ey, eb, l⟩
  · subst ey
    obtain ⟨z, hd, vs, rel, dd⟩ := dk_rd I.hok e
    obtain ⟨w', hw, rw'⟩ := RelO.some_of (v := v) (o := valueAt vs k) (by rw [l]; exact rel.val k)
    exact wpAny_getItem_of (kV_is ry) dd.mapOf hw (h w' _ (I.tok _) rw')
  · subst ey
    cases (show u = Value.ref b from ry)
    obtain ⟨z, hd, xs, rel, dd⟩ := dt_rd I.hok e
    obtain ⟨w', hw, rw'⟩ := RelO.some_of (v := v) (o := (atKey xs k).map (·.2)) (by rw [l]; exact rel.val k)
    obtain ⟨p, hp, hp2⟩ := Option.map_eq_some_iff.mp hw
    refine wpAny_getItem_heap (tupleKind_room_in1 hu) (key_of I.hok eb) dd hp ?_
    rw [hp2]
    exact h w' _ (I.tok _) rw'
theorem d_notIn {Q : Value → Shared → Prop} (hu : A.units + 1 < cLine) (I : Inv X pins σ H s) (g : DGet H a y o) (ry : RelV y u) (h : ∀ s', Inv X pins σ H s' → Q (.bool (!o.isSome)) s') :
    wpAny (model X.prog X.w) A (compareOp .NotIn u (.ref a)) Q E s := by
  rcases g with ⟨kvs, k, e, ey, l⟩ | ⟨kvs, k, b, e, ey, eb, l⟩
  · subst ey
    obtain ⟨z, hd, vs, rel, dd⟩ := dk_rd I.hok e
    refine wpAny_notIn_of (kV_is ry) hd dd.mapOf ?_
    rw [← (rel.val k).isSome_eq, ← l]
    exact h _ (I.tok _)
  · subst ey
    cases (show u = Value.ref b from ry)
    obtain ⟨z, hd, xs, rel, dd⟩ := dt_rd I.hok e
    refine wpAny_notIn_heap (tupleKind_room_in1 hu) (key_of I.hok eb) hd dd ?_
    have q := (rel.val k).isSome_eq
    rw [Option.isSome_map] at q
    rw [← q, ← l]
    exact h _ (I.tok _)
theorem d_write {h' : Heap} {t' : Nat} {ob : HO} (I : Inv X pins σ H s) (mu : Mut (H a)) (hs : Heap.SameBut a s.heap h') (he : ∃ q, h'.get? a = some q) (new : ObjOk X.prog X.w (upd H a ob) h' a ob) :
    Inv X pins σ (upd H a ob) { s with heap := h', toks := t' } :=
  I.write (x := a) (e := a) mu (.inl rfl) (fun b q hb z => (hs.2 b hb).trans z) he new
theorem dk_new {P : Program} {w : World} {H' : Hp} {h' : Heap} {kvs : List (Key × V)} {vs : List (Key × Value)} (z : kvs.length ≤ sizeLine) (hd : (a == sysModules) = false) (rel : KV kvs vs) (dd : h'.DictOf (mixKind P w) a vs) :
    ObjOk P w H' h' a (.dK kvs) := ⟨z, hd, vs, rel, dd⟩
theorem d_setItem {H' : Hp} {Q : Unit → Shared → Prop} (hu : A.units + 1 < cLine) (I : Inv X pins σ H s) (g : DPut H a y v H') (ry : RelV y u) (rv : RelV v r) (h : ∀ s', Inv X pins σ H' s' → Q () s') :
    wpAny (model X.prog X.w) A (setItem (.ref a) u r) Q E s := by
  rcases g with ⟨kvs, k, e, ey, l, eH⟩ | ⟨kvs, k, b, e, ey, eb, l, eH⟩
  · subst ey eH
    obtain ⟨z, hd, vs, rel, dd⟩ := dk_of I.hok e
    have hz : vs.length ≤ sizeLine := by rw [← rel.length]; exact z
    have hl : (putK kvs k v).length ≤ sizeLine := by have := length_putK kvs k v; omega
    refine wpAny_setItem_pairs (hsz := hz) (kV_is ry) dd fun h' dd' hs => h _ ?_
    have he : ∃ q, h'.get? a = some q := let ⟨q, _, _, hq, _⟩ := dd'; ⟨q, hq⟩
    exact d_write I (by rw [e]; exact True.intro) hs he (dk_new hl hd (rel.put k rv) dd')
  · subst ey eH
    cases (show u = Value.ref b from ry)
    obtain ⟨z, hd, xs, rel, dd⟩ := dt_of I.hok e
    have hz : xs.length ≤ sizeLine := by rw [← Paired.length rel]; exact z
    have hl : (putK kvs k v).length ≤ sizeLine := by have := length_putK kvs k v; omega
    refine wpAny_setItem_heap (hsz := hz) (tupleKind_room_in1 hu) (key_of I.hok eb) dd fun h' dd' hs => h _ ?_
    obtain ⟨q, es, ep, hq, h2, h3, h4, _, h5⟩ := dd'
    refine d_write I (by rw [e]; exact True.intro) hs ⟨q, hq⟩ ⟨hl, hd, _, (rel.put k eb rv).keeps fun c ys ec => ?_, q, es, ep, hq, h2, h3, h4, h5⟩
    rw [upd_ne (ne_of ec e (fun z => nomatch z))]
    exact ec
end
section
variable {X : Cx} {pins : List (Addr × Obj)} {σ : St} {H : Hp} {s : Shared} {a : Addr} {kvs : List (Key × V)} {k : Key} {u : Value} {A : Around} {E : Value → Shared → Prop}
theorem d_pop {v : V} {more : List Value} {Q : Value → Shared → Prop} (I : Inv X pins σ H s) (e : H a = some (.dK kvs)) (ry : RelV (kV k) u) (l : valV kvs k = some v) (hm : more = [] ∨ ∃ x, more = [x])
    (h : ∀ w' s', Inv X pins σ (upd H a (.dK (dropK kvs k))) s' → RelV v w' → Q w' s') : wpAny (model X.prog X.w) A (call (.builtin "dict.pop") (.ref a :: u :: more)) Q E s := by
  obtain ⟨z, hd, vs, rel, dd⟩ := dk_of I.hok e
  obtain ⟨w', hw, rw'⟩ := RelO.some_of (v := v) (o := valueAt vs k) (by rw [← l]; exact rel.val k)
  have hp : (keyPart u).isSome = true := by
    cases k with
    | inl i => obtain ⟨t, q⟩ := (show ∃ t, u = Value.int i t from ry); subst q; rfl
    | inr x => obtain ⟨t, q⟩ := (show ∃ t, u = Value.str x t from ry); subst q; rfl
  have ha : argsOk "dict.pop" ⟨.ref a :: u :: more, []⟩ := by
    rcases hm with q | ⟨x, q⟩
    · subst q; exact PySem.F.args_dict_pop_2 _ _
    · subst q; exact PySem.F.args_dict_pop_3 _ _ _
  refine call_meetsIn PySem.F.slot_dict_pop dd.typeIs PySem.F.entry_dict_pop ha (meets_dict_pop_there (mixKind X.prog X.w) a (kV_is ry) more hm hp)
    ⟨vs, w', dd, by rw [← rel.length]; exact z, hw, fun h' dd' hs => h w' _ ?_ rw'⟩
  have he : ∃ q, h'.get? a = some q := let ⟨q, _, _, hq, _⟩ := dd'; ⟨q, hq⟩
  exact d_write I (by rw [e]; exact True.intro) hs he (dk_new (Nat.le_trans (dropK_le kvs k) z) hd (rel.drop k) dd')
end
def NoSl (i : Expr) : Prop := ∀ ov iv, subscripted i false ov iv = operate [ov, iv] (getItem ov iv)
theorem subD_of {prog : Program} {w : World} {A : Around} {E : Value → Shared → Prop} {s : Shared} {env : Env} {value slice : Expr} {pos : Pos} {T id : String} {Q : Value → Shared → Prop}
    (hl : typeLookup (.type T) "__getitem__" = pure (some (.builtin id))) (hs : NoSl slice)
    (h : wpAny (model prog w) A (eval value env) (fun o s₁ => wpAny (model prog w) A (eval slice env) (fun i s₂ => s₂.TypeIs o T ∧ wpAny (model prog w) A (getItem o i) Q E s₂) E s₁) E s) :
    wpAny (model prog w) A (eval (.Subscript value slice pos) env) Q E s := by
  refine Subscript_ (wpAny_mono h (fun o s₁ h₁ => wpAny_mono h₁ (fun i s₂ h₂ => ?_) fun _ _ x => x) fun _ _ x => x)
  obtain ⟨hT, h₂⟩ := h₂
  unfold subscriptTail
  refine wpAny_bind ?_
  rw [getitemInPython_of_ne hT.not_modules]
  refine wpAny_bind (wpAny_specialOf hT hl ?_)
  have fin : wpAny (model prog w) A (subscripted slice false o i) (fun r s₃ => wpAny (model prog w) A (letTemporaryGo value o r >>= fun _ => pure r) Q E s₃) E s₂ := by
    rw [hs o i]
    exact wpAny_operating (wpAny_mono h₂ (fun r s₃ h₃ => wpAny_bind (wpAny_letTemporaryGo (wpAny_pure h₃))) fun _ _ x => x)
  first
    | exact wpAny_pure (wpAny_bind fin)
    | exact wpAny_bind (wpAny_pure (wpAny_bind fin))
    | exact wpAny_bind fin
theorem dict_typeIs {X : Cx} {pins : List (Addr × Obj)} {σ : St} {H : Hp} {s : Shared} {a : Addr} {y : V} {o : Option V} (I : Inv X pins σ H s) (g : DGet H a y o) : s.TypeIs (.ref a) "dict" := by
  rcases g with ⟨kvs, k, e, _, _⟩ | ⟨kvs, k, b, e, _, _, _⟩
  · obtain ⟨_, _, vs, _, dd⟩ := dk_rd I.hok e
    exact dd.typeIs
  · obtain ⟨_, _, xs, _, dd⟩ := dt_rd I.hok e
    exact dd.typeIs
def tDGet (td ty : TE) : TE := fun σ H Q => td σ H fun x H1 => ty σ H1 fun y H2 => ∃ a v, x = .ref a ∧ DGet H2 a y (some v) ∧ Q v H2
def tDNotIn (ty td : TE) : TE := fun σ H Q => ty σ H fun y H1 => td σ H1 fun x H2 => ∃ a o, x = .ref a ∧ DGet H2 a y o ∧ Q (.bl (!o.isSome)) H2
def sDPut (td ty tv : TE) : TS := fun D σ H => tv σ H fun v H1 => td σ H1 fun x H2 => ty σ H2 fun y H3 => ∃ a H4, x = .ref a ∧ DPut H3 a y v H4 ∧ D.nx σ H4
section
variable {X : Cx} {o i e value : Expr} {pos pos' tpos : Pos} {td ty tv : TE}
theorem pe_dget (hu : X.A.units + 1 < cLine) (ho : PE X o td) (hi : PE X i ty) (hs : NoSl i) : PE X (.Subscript o i pos) (tDGet td ty) := by
  intro pins s σ H Q I h
  refine subD_of PySem.F.slot_dict_getitem.lookup hs (thn (ho pins s σ H _ I h) fun u s1 ⟨x, H1, I1, rx, q1⟩ => thn (hi pins s1 σ H1 _ I1 q1) fun iv s2 ⟨y, H2, I2, ry, a, v, ex, g, q2⟩ => ?_)
  subst ex
  obtain rfl : u = Value.ref a := rx
  exact ⟨dict_typeIs I2 g, d_getItem hu I2 g ry fun w' s3 I3 rw' => ⟨v, H2, I3, rw', q2⟩⟩
theorem pc_dnotin (hu : X.A.units + 1 < cLine) (hi : PE X i ty) (ho : PE X o td) : PC X .NotIn i o (tDNotIn ty td) := by
  intro pins s σ H Q I h
  refine thn (hi pins s σ H _ I h) fun iv s1 ⟨y, H1, I1, ry, q1⟩ => thn (ho pins s1 σ H1 _ I1 q1) fun u s2 ⟨x, H2, I2, rx, a, ov, ex, g, q2⟩ => ?_
  subst ex
  obtain rfl : u = Value.ref a := rx
  exact d_notIn hu I2 g ry fun s3 I3 => ⟨.bl (!ov.isSome), H2, I3, rfl, q2⟩
theorem ps_dput (hu : X.A.units + 1 < cLine) (ho : PE X o td) (hi : PE X i ty) (hv : PE X value tv) (hs : swapsWith value (some (.Subscript o i pos')) pos.line X.env = pure false) :
    PS X (.Assign [.Subscript o i pos'] value pos) (sDPut td ty tv) := by
  intro pins s σ H D I h
  refine wpAny_Assign_Subscript (thn (hv pins s σ H _ I h) fun r s1 ⟨v, H1, I1, rv, q1⟩ => thn (ho pins s1 σ H1 _ I1 q1) fun u s2 ⟨x, H2, I2, rx, q2⟩ => thn (hi pins s2 σ H2 _ I2 q2) fun iv s3 ⟨y, H3, I3, ry, a, H4, ex, g, q3⟩ => ?_) hs
  subst ex
  obtain rfl : u = Value.ref a := rx
  exact d_setItem hu I3 g ry rv fun s4 I4 => ⟨σ, H4, I4, q3⟩
end
section
variable {X : Cx} {pos : Pos}
end
structure M1 (X : Cx) (o : Expr) (m : Str) (apos : Pos) (e : Expr) (cpos : Pos) : Prop where
  base : attributeBase o m X.env (eval o X.env) = eval o X.env
  few : ((backTo cpos (starEach [e] X.env)).all (fun x => !x.1) && (backToKw cpos (keywordEach [] X.env)).all (fun x => x.1.isSome)
    && decide (([e] : List Expr).length + ([] : List Keyword).length + (if ([] : List Keyword).isEmpty then 0 else 1) < 30)) = true
  line : (apos.endLine == cpos.line) = true
  trees : backTo cpos (starEach [e] X.env) = [(false, eval e X.env)]
def IsD (H : Hp) (a : Addr) : Prop := (∃ kvs, Rd H a (.dK kvs)) ∨ ∃ kvs, Rd H a (.dT kvs)
theorem isD_at {X : Cx} {pins : List (Addr × Obj)} {σ : St} {H : Hp} {s : Shared} {a : Addr} (I : Inv X pins σ H s) (d : IsD H a) :
    s.TypeIs (.ref a) "dict" ∧ (∀ b, Value.ref a = .ref b → ∃ ob, s.heap.get? b = some ob ∧ ob.dict = none) ∧ (a == sysModules) = false := by
  rcases d with ⟨kvs, e⟩ | ⟨kvs, e⟩
  · obtain ⟨_, hd, vs, _, dd⟩ := dk_rd I.hok e
    refine ⟨dd.typeIs, fun b q => ?_, hd⟩
    cases q
    obtain ⟨ob, _, _, h1, h2, _⟩ := dd
    exact ⟨ob, h1, h2.2.1⟩
  · obtain ⟨_, hd, xs, _, dd⟩ := dt_rd I.hok e
    refine ⟨dd.typeIs, fun b q => ?_, hd⟩
    cases q
    obtain ⟨ob, _, _, h1, h2, _⟩ := dd
    exact ⟨ob, h1, h2.2.1⟩
section
variable {X : Cx} {pins : List (Addr × Obj)} {σ : St} {H : Hp} {s : Shared} {a : Addr} {y d : V} {u r : Value} {o : Option V} {A : Around} {E : Value → Shared → Prop}
end
def tDPop1 (td ty : TE) : TE := fun σ H Q => td σ H fun x H1 => ∃ a, x = .ref a ∧ IsD H1 a ∧ ty σ H1 fun y H2 => ∃ kvs k v, H2 a = some (.dK kvs) ∧ y = kV k ∧ valV kvs k = some v ∧ Q v (upd H2 a (.dK (dropK kvs k)))
section
variable {X : Cx} {o e f : Expr} {apos cpos : Pos} {td ty tx : TE}
theorem pe_dpop1 (ho : PE X o td) (he : PE X e ty) (m : M1 X o "pop" apos e cpos) : PE X (.Call (.Attribute o "pop" apos) [e] [] cpos) (tDPop1 td ty) := by
  intro pins s σ H Q I h
  refine wpAny_Call_method m.base m.few m.line PySem.F.plainAttrs_dict PySem.F.slot_dict_pop PySem.F.type_dict_pop (thn (ho pins s σ H _ I h) fun u s1 ⟨x, H1, I1, rx, a, ex, d, q1⟩ => ?_)
  subst ex
  obtain rfl : u = Value.ref a := rx
  obtain ⟨t1, t2, _⟩ := isD_at I1 d
  refine ⟨t1, t2, ?_⟩
  rw [m.trees]
  refine Calls.callWith_builtin rfl (Calls.evalArgs_plain (Calls.spliced_cons (thn (he pins s1 σ H1 _ I1 q1) fun iv s2 ⟨y, H2, I2, ry, kvs, k, v, ea, ey, l, q2⟩ => Calls.spliced_nil ?_)))
  subst ey
  exact d_pop I2 ea ry l (.inl rfl) fun w' s3 I3 rw' => ⟨v, _, I3, rw', q2⟩
end
section
variable {X : Cx} {pins : List (Addr × Obj)} {σ : St} {H : Hp} {s : Shared} {a : Addr} {kvs : List (Key × V)} {A : Around} {E : Value → Shared → Prop}
theorem d_copyOf {Q : Value → Shared → Prop} (I : Inv X pins σ H s) (e : Rd H a (.dK kvs)) (h : ∀ p s', H p = none → Inv X pins σ (upd H p (.dK kvs)) s' → Q (.ref p) s') : wpAny (model X.prog X.w) A (call (.type "dict") [.ref a]) Q E s := by
  obtain ⟨z, hd, vs, rel, dd⟩ := dk_rd I.hok e
  refine kt_call_dict hd dd (by rw [← rel.length]; exact z) fun h' dd' hs => ?_
  refine h _ _ (I.hok.fresh (Nat.le_refl _)) (I.laid (a := s.heap.objs.size) (o := .dK kvs) (t' := s.toks) (fun b q hq => ?_) (Nat.le_refl _) (dk_new z (beq_eq_false_iff_ne.mpr (Ne.symm (Nat.ne_of_lt I.big))) rel dd'))
  exact (hs.2 b (Nat.ne_of_lt (Heap.lt_size hq))).trans (Heap.get?_push_of_some _ hq)
end
section
variable {X : Cx} {pins : List (Addr × Obj)} {σ : St} {H : Hp} {s : Shared} {a : Addr} {y : V} {u : Value} {A : Around} {E : Value → Shared → Prop}
end
end L2
namespace Att
open PySem PySem.W PySem.Calls PyProof.Rows
end Att
namespace L2
open PySem PySem.Spec PyProof.Rows
end L2
namespace L2
open PySem PySem.Spec PyProof.Rows
end L2
namespace L2
open PySem PySem.Spec PyProof.Rows
section
variable {X : Cx}
end
section
variable {κ : Type} [DecidableEq κ]
end
end L2
namespace Bg
theorem gcd_fmod (a b : Int) : Int.gcd b (a.fmod b) = Int.gcd a b := by
  rw [Int.fmod_def, Int.mul_comm, Int.gcd_sub_mul_right_right, Int.gcd_comm]
theorem gcd_emod (a b : Int) : Int.gcd b (a % b) = Int.gcd a b := by
  rw [Int.emod_def, Int.mul_comm, Int.gcd_sub_mul_right_right, Int.gcd_comm]
theorem fmod_lt {a b : Int} (h : b ≠ 0) : (a.fmod b).natAbs < b.natAbs := by
  rw [Int.fmod_eq_emod]
  have h1 := Int.emod_nonneg a h
  have h2 := Int.emod_lt a h
  by_cases c : 0 ≤ b ∨ b ∣ a
  · rw [if_pos c]; omega
  · rw [if_neg c]
    have hb : b < 0 := by
      rcases Int.lt_or_le b 0 with z | z
      · exact z
      · exact absurd (Or.inl z) c
    have hd : ¬ b ∣ a := fun z => c (Or.inr z)
    have hn : a % b ≠ 0 := fun z => hd (Int.dvd_of_emod_eq_zero z)
    omega
def Bd (k : Nat) (x : Int) : Prop := x.natAbs < 2 ^ k
instance {k : Nat} {x : Int} : Decidable (Bd k x) := inferInstanceAs (Decidable (x.natAbs < 2 ^ k))
theorem Bd.mono {j k : Nat} {x : Int} (h : Bd j x) (l : j ≤ k) : Bd k x := Nat.lt_of_lt_of_le h (Nat.pow_le_pow_right (by decide) l)
theorem Bd.neg {k : Nat} {x : Int} (h : Bd k x) : Bd k (-x) := by unfold Bd at *; rw [Int.natAbs_neg]; exact h
theorem Bd.mul {j k : Nat} {x y : Int} (h : Bd j x) (g : Bd k y) : Bd (j + k) (x * y) := by
  unfold Bd at *
  rw [Int.natAbs_mul, Nat.pow_add]
  exact Nat.mul_lt_mul_of_lt_of_lt h g
theorem Bd.add {k : Nat} {x y : Int} (h : Bd k x) (g : Bd k y) : Bd (k + 1) (x + y) := by
  unfold Bd at *
  rw [Nat.pow_succ]
  omega
theorem Bd.sub {k : Nat} {x y : Int} (h : Bd k x) (g : Bd k y) : Bd (k + 1) (x - y) := by
  unfold Bd at *
  rw [Nat.pow_succ]
  omega
theorem Bd.of_le {k : Nat} {x y : Int} (h : Bd k y) (l : x.natAbs ≤ y.natAbs) : Bd k x := Nat.lt_of_le_of_lt l h
theorem natAbs_fdiv_le (a b : Int) : (a.fdiv b).natAbs ≤ a.natAbs := by
  by_cases hb : b = 0
  · subst hb; simp
  have key : ∀ a b : Int, 0 < b → (a.fdiv b).natAbs ≤ a.natAbs := fun a b hb => by
    rw [Int.fdiv_eq_ediv_of_nonneg a (by omega)]
    have h1 : b * (a / b) + a % b = a := Int.mul_ediv_add_emod a b
    have h2 := Int.emod_nonneg a (show b ≠ 0 by omega)
    have h3 := Int.emod_lt_of_pos a hb
    rcases Int.lt_or_le (a / b) 0 with q | q
    · have e : a ≤ a / b := by
        have : b * (a / b) ≤ 1 * (a / b) - (b - 1) := by
          have z : (b - 1) * (a / b) ≤ (b - 1) * (-1) := Int.mul_le_mul_of_nonneg_left (by omega) (by omega)
          have z2 : b * (a / b) = (b - 1) * (a / b) + a / b := by rw [Int.sub_mul]; omega
          omega
        omega
      omega
    · have e : a / b ≤ a := by
        have z : 1 * (a / b) ≤ b * (a / b) := Int.mul_le_mul_of_nonneg_right (by omega) q
        omega
      omega
  rcases Int.lt_or_le b 0 with h | h
  · have e : a.fdiv b = (-a).fdiv (-b) := by rw [Int.neg_fdiv_neg]
    rw [e]
    have := key (-a) (-b) (by omega)
    omega
  · exact key a b (by omega)
theorem Bd.fdiv {k : Nat} {x : Int} (h : Bd k x) (y : Int) : Bd k (x.fdiv y) := h.of_le (natAbs_fdiv_le x y)
theorem Bd.emod {k : Nat} {y : Int} (h : Bd k y) (hy : y ≠ 0) (x : Int) : Bd k (x % y) := by
  refine h.of_le ?_
  have h1 := Int.emod_nonneg x hy
  have h2 := Int.emod_lt x hy
  omega
theorem Bd.log {k : Nat} {x : Int} (h : Bd k x) : x.natAbs.log2 ≤ k := by
  by_cases z : x.natAbs = 0
  · rw [z]; simp
  · exact Nat.le_of_lt ((Nat.log2_lt z).mpr h)
def g3 (a b n : Int) : Nat := Int.gcd (Int.gcd n a) b
def gd (a b n : Int) : Int := if n < 0 then -(g3 a b n : Int) else (g3 a b n : Int)
theorem g3_n (a b n : Int) : (g3 a b n : Int) ∣ n := Int.dvd_trans (Int.gcd_dvd_left ..) (Int.gcd_dvd_left ..)
theorem g3_a (a b n : Int) : (g3 a b n : Int) ∣ a := Int.dvd_trans (Int.gcd_dvd_left ..) (Int.gcd_dvd_right ..)
theorem g3_b (a b n : Int) : (g3 a b n : Int) ∣ b := Int.gcd_dvd_right ..
theorem g3_pos {a b n : Int} (h : n ≠ 0) : 0 < g3 a b n := by
  rcases Nat.eq_zero_or_pos (g3 a b n) with z | z
  · have := g3_n a b n
    rw [z] at this
    exact absurd (Int.zero_dvd.mp (by simpa using this)) h
  · exact z
theorem g3_eq (a b n : Int) : Int.gcd (Int.gcd a b) n = g3 a b n := by
  unfold g3
  rw [Int.gcd_comm, ← Int.gcd_assoc]
theorem gd_ne {a b n : Int} (h : n ≠ 0) : gd a b n ≠ 0 := by
  have := g3_pos (a := a) (b := b) h
  unfold gd
  split <;> omega
theorem gd_abs (a b n : Int) : (gd a b n).natAbs = g3 a b n := by
  unfold gd
  split <;> simp
theorem gd_dvd {a b n x : Int} (h : (g3 a b n : Int) ∣ x) : gd a b n ∣ x := by
  unfold gd
  split
  · exact Int.neg_dvd.mpr h
  · exact h
theorem gd_bd {k : Nat} {a b n : Int} (hn : n ≠ 0) (h : Bd k n) : Bd k (gd a b n) := by
  refine h.of_le ?_
  rw [gd_abs]
  exact Nat.le_of_dvd (by omega) (by
    have := Int.natAbs_dvd_natAbs.mpr (g3_n a b n)
    simpa using this)
def lA (a b n : Int) : Int := a.fdiv (gd a b n)
def lB (a b n : Int) : Int := b.fdiv (gd a b n)
def lN (a b n : Int) : Int := n.fdiv (gd a b n)
theorem lA_mul {a b n : Int} : lA a b n * gd a b n = a := Int.fdiv_mul_cancel (gd_dvd (g3_a a b n))
theorem lB_mul {a b n : Int} : lB a b n * gd a b n = b := Int.fdiv_mul_cancel (gd_dvd (g3_b a b n))
theorem lN_mul {a b n : Int} : lN a b n * gd a b n = n := Int.fdiv_mul_cancel (gd_dvd (g3_n a b n))
theorem l_a {a b n : Int} : lA a b n * n = a * lN a b n := by
  have h1 := lA_mul (a := a) (b := b) (n := n)
  have h2 := lN_mul (a := a) (b := b) (n := n)
  calc lA a b n * n = lA a b n * (lN a b n * gd a b n) := by rw [h2]
    _ = lA a b n * gd a b n * lN a b n := by rw [Int.mul_assoc, Int.mul_comm (gd a b n)]
    _ = a * lN a b n := by rw [h1]
theorem l_b {a b n : Int} : lB a b n * n = b * lN a b n := by
  have h1 := lB_mul (a := a) (b := b) (n := n)
  have h2 := lN_mul (a := a) (b := b) (n := n)
  calc lB a b n * n = lB a b n * (lN a b n * gd a b n) := by rw [h2]
    _ = lB a b n * gd a b n * lN a b n := by rw [Int.mul_assoc, Int.mul_comm (gd a b n)]
    _ = b * lN a b n := by rw [h1]
theorem l_n {a b n : Int} (h : n ≠ 0) : 1 ≤ lN a b n := by
  have h2 := lN_mul (a := a) (b := b) (n := n)
  have hp := g3_pos (a := a) (b := b) h
  have hs : 0 < lN a b n := by
    by_cases c : n < 0
    · have e : gd a b n = -(g3 a b n : Int) := if_pos c
      rw [e] at h2
      refine Int.lt_of_not_ge fun z => ?_
      have : 0 ≤ lN a b n * -(g3 a b n : Int) := Int.mul_nonneg_of_nonpos_of_nonpos z (by omega)
      omega
    · have e : gd a b n = (g3 a b n : Int) := if_neg c
      rw [e] at h2
      refine Int.lt_of_not_ge fun z => ?_
      have : lN a b n * (g3 a b n : Int) ≤ 0 := Int.mul_nonpos_of_nonpos_of_nonneg z (by omega)
      omega
  omega
theorem l_gcd {a b n : Int} (h : n ≠ 0) : g3 (lA a b n) (lB a b n) (lN a b n) = 1 := by
  have hp := g3_pos (a := a) (b := b) h
  have e : g3 a b n = g3 (lA a b n) (lB a b n) (lN a b n) * (gd a b n).natAbs := by
    have h1 := lA_mul (a := a) (b := b) (n := n)
    have h2 := lB_mul (a := a) (b := b) (n := n)
    have h3 := lN_mul (a := a) (b := b) (n := n)
    have : g3 (lA a b n * gd a b n) (lB a b n * gd a b n) (lN a b n * gd a b n) = g3 (lA a b n) (lB a b n) (lN a b n) * (gd a b n).natAbs := by
      unfold g3
      rw [Int.gcd_mul_right]
      have e1 : ((Int.gcd (lN a b n) (lA a b n) * (gd a b n).natAbs : Nat) : Int).gcd (lB a b n * gd a b n) = Int.gcd ((Int.gcd (lN a b n) (lA a b n) : Int) * gd a b n) (lB a b n * gd a b n) := by
        rw [Int.gcd_eq_natAbs_gcd_natAbs, Int.gcd_eq_natAbs_gcd_natAbs]
        congr 1
        rw [Int.natAbs_mul, Int.natAbs_natCast, Int.natAbs_natCast]
      rw [e1, Int.gcd_mul_right]
    rw [h1, h2, h3] at this
    exact this
  rw [gd_abs] at e
  have : 1 * g3 a b n = g3 (lA a b n) (lB a b n) (lN a b n) * g3 a b n := by omega
  exact (Nat.eq_of_mul_eq_mul_right hp this).symm
end Bg
namespace L2
open PySem PySem.Spec PyProof.Rows Bg
theorem bits_of {k : Nat} {x : Int} (h : Bd k x) : Builtin.Int.intBits x ≤ k := by
  unfold Builtin.Int.intBits
  split
  · exact Nat.zero_le _
  · rename_i z
    have z' : x ≠ 0 := by simpa using z
    exact (Nat.log2_lt (by omega)).mpr h
theorem Bd.ok {j k : Nat} {x y : Int} (h : Bd j x) (g : Bd k y) (l : j + k ≤ 134217728) : IntMulOk x y := by
  have h1 := bits_of h
  have h2 := bits_of g
  unfold IntMulOk
  have : Builtin.Int.intTooBig (Builtin.Int.intBits x + Builtin.Int.intBits y) = false := by
    unfold Builtin.Int.intTooBig bitsLine
    simp only [decide_eq_false_iff_not, Int.not_lt, gt_iff_lt]
    have : (2 ^ 27 : Nat) = 134217728 := by decide
    omega
  rw [this]
  simp
section
variable {X : Cx}
theorem op_mulB : OpR X (binaryOp .Mult) (rI IntMulOk fun i j => .int (i * j)) := opI fun _ _ _ _ _ _ _ hc q => mul_int q hc
abbrev CFd (_ j : Int) : Prop := j ≠ 0 ∧ j.natAbs.log2 < 9000
abbrev CFp (_ j : Int) : Prop := 0 < j ∧ j.natAbs.log2 < 9000
abbrev CPw (i j : Int) : Prop := 0 ≤ j ∧ (Builtin.Int.intBits i : Int) * j ≤ 2 ^ 27
theorem op_fdivB : OpR X (binaryOp .FloorDiv) (rI CFd fun i j => .int (i.fdiv j)) := opI fun _ _ _ _ _ _ _ hc q => floordiv_int hc.1 q (.inl (PyProof.noPylong_of_log2 hc.2))
theorem op_fdivP : OpR X (binaryOp .FloorDiv) (rI CFp fun i j => .int (i / j)) := opI fun i j _ _ _ _ _ hc q => by
  have h1 : (0 : Int) < j := hc.1
  exact floordiv_int (by omega) (by rw [Int.fdiv_eq_ediv_of_nonneg i (by omega)]; exact q) (.inl (PyProof.noPylong_of_log2 hc.2))
theorem op_powB : OpR X (binaryOp .Pow) (rI CPw fun i j => .int (i ^ j.toNat)) := opI fun _ _ _ _ _ _ _ hc q => pow_int hc.1 hc.2 q
def rIs (K : PySem.W.Frag) : List V → Hp → VK → Prop := fun xs H Q => ∃ x T t b, xs = [x, .ty T] ∧ TyOf K H x t ∧ PySem.W.kitOne K t (.type T) = some b ∧ Q (.bl b) H
theorem call_isinst : CallR X (.builtin "isinstance") (rIs X.K) := by
  intro pins s σ H xs us Q I r h
  obtain ⟨x, T, t, b, rfl, ty, e, q⟩ := h
  obtain ⟨u, c, rfl, ru, rc⟩ := vals2 r
  cases (show c = Value.type T from rc)
  exact isinst_ok I ru ty e fun tk => ⟨.bl b, H, I.tok tk, rfl, q⟩
end
theorem kit_same (K : PySem.W.Frag) (T : String) : PySem.W.kitOne K (.type T) (.type T) = some true := by
  unfold PySem.W.kitOne
  rw [if_pos]
  simp
theorem kit_int_bool (K : PySem.W.Frag) : PySem.W.kitOne K (.type "int") (.type "bool") = some false := by
  unfold PySem.W.kitOne
  rw [if_neg (by decide)]
  show (if PySem.W.kitMeta "bool" = true then PySem.W.subIn K (.type "int") (.type "bool") else none) = some false
  rw [if_pos (by decide +kernel)]
  show (fastBuiltinMro "int").map (·.contains (Value.type "bool")) = some false
  decide +kernel
section
variable {K : PySem.W.Frag} {H : Hp} {Q : VK}
theorem i_is_int {i : Int} (h : Q (.bl true) H) : rIs K [.int i, .ty "int"] H Q := ⟨_, _, _, _, rfl, .int i, kit_same K _, h⟩
theorem i_is_intb {i : Int} (h : Q (.bl false) H) : rIs K [.int i, .ty "bool"] H Q := ⟨_, _, _, _, rfl, .int i, kit_int_bool K, h⟩
theorem i_is_tup {a : Addr} {xs : List V} (e : H a = some (.tup xs)) (h : Q (.bl true) H) : rIs K [.ref a, .ty "tuple"] H Q := ⟨_, _, _, _, rfl, .tup e, kit_same K _, h⟩
end
def Own (P : Program) (w : World) (K : PySem.W.Frag) (mg : Str → Option Value) (base : Heap) (k : Nat) (x : Str) (ps : List Str) (dvs : List V) (sp : Sp) : Prop :=
  ∃ (f : Addr) (fd : FuncData) (ds : List Value), FnOk P w K mg base CX0 k f fd ps sp ∧ mg x = some (.ref f) ∧ PySem.W.keepIn K (.ref f) = true ∧ Binds K fd ps ds ∧ Vals dvs ds
theorem pe_own {X : Cx} {k j : Nat} {x : Str} {ps : List Str} {dvs : List V} {sp : Sp} {p pos : Pos} {e : Expr} {es : List Expr} {t : TA} (O : Own X.prog X.w X.K X.mg X.base k x ps dvs sp) (hr : Room j X.A) (hg : Gl X x)
    (ha : PA X (e :: es) t) (hk : k ≤ j := by decide) (hdb : (x == ("__debug__" : Str)) = false := by decide) (he : starEach (e :: es) X.env = (false, eval e X.env) :: starEach es X.env := by rfl) (hpl : (backTo pos (starEach es X.env)).any (·.1) = false := by rfl) :
    PE X (.Call (.Name x p) (e :: es) [] pos) (tCall sp dvs E0 t) := by
  obtain ⟨f, fd, ds, F, hm, kp, hb, hd⟩ := O
  exact pe_call F (hr.mono hk) hg hm kp hb hd pass0 ha hdb he hpl
structure FunD (K : PySem.W.Frag) (x qual : Str) (st : Stmt) (f : Addr) (fd : FuncData) (its : List Value) : Prop where
  ex : ∃ (oc : Value) (od : Option Addr) (T : Addr) (kV doc pm : Value) (an : Option Addr) (cdv ct : Value) (osl : Array (Option Value)) (to : Obj) (n : Nat),
    fd = PySem.W.fnOf x qual (defArgs st) (defBody st) (defScope st) (.ref T) kV doc pm an cdv ct ∧ K.lookup f = some ⟨oc, od, .func fd, osl⟩ ∧ PySem.W.codeIn K cdv qual = true ∧ K.lookup T = some to ∧ to.data = .seq its.toArray n
  kp : PySem.W.keepIn K (.ref f) = true
section
variable {P : Program} {w : World} {K : PySem.W.Frag} {mg : Str → Option Value} {base : Heap}
theorem FunD.ok {x qual : Str} {st : Stmt} {f : Addr} {fd : FuncData} {its : List Value} {N ps : List Str} {k : Nat} {sp : Sp} (F : FunD K x qual st f fd its) (S : FnScope N ps (defScope st)) (len : ∀ vs H Q E, sp vs H Q E → vs.length = ps.length)
    (hbody : ∀ (cdv : Value) (A : Around) (outer : List Env) (s : Shared) (H : Hp) (vs : List V) (Q : VK) (E : XK), Room k (A.deeper (envOfC qual (defScope st) s.heap.objs.size f cdv)) → sp vs H Q E →
      ∃ t, PSs (cxOf CX0 P w K mg base N qual (defScope st) f cdv A outer s H E).nox (defBody st) t ∧ t { nx := fun _ H' => Q .non H', rt := Q } (start N vs) H) : FnOk P w K mg base CX0 (k + 1) f fd ps sp := by
  obtain ⟨oc, od, T, kV, doc, pm, an, cdv, ct, osl, to, n, rfl, lk, hcd, _⟩ := F.ex
  refine fn_of lk hcd S len fun A outer s H vs Q E hr hsp => ?_
  obtain ⟨t, h, q⟩ := hbody cdv A outer s H vs Q E hr hsp
  exact ⟨t, h.nox, q⟩
end
def Top (K : PySem.W.Frag) (mg : Str → Option Value) (x : Str) (st : Stmt) : Prop := ∃ (f : Addr) (fd : FuncData), Fun K x x st f fd ∧ mg x = some (.ref f)
def TopD (K : PySem.W.Frag) (mg : Str → Option Value) (x : Str) (st : Stmt) (its : List Value) : Prop := ∃ (f : Addr) (fd : FuncData), FunD K x x st f fd its ∧ mg x = some (.ref f)
theorem top_mk {K : PySem.W.Frag} {h : Heap} {mg : Str → Option Value} {x : Str} {st : Stmt} {f : Addr} {oc : Value} {od an : Option Addr} {osl : Array (Option Value)} {kV doc pm cdv ct : Value} (X : K.In h) (G : h.Ns mainGlobals mg)
    (a : PySem.W.nsIn K mainGlobals x = some (some (.ref f))) (l : K.lookup f = some ⟨oc, od, .func (PySem.W.fnOf x x (defArgs st) (defBody st) (defScope st) .none kV doc pm an cdv ct), osl⟩)
    (c : PySem.W.codeIn K cdv x = true) (k : PySem.W.keepIn K (.ref f) = true) : Top K mg x st := ⟨f, _, fun_mk l c k, PySem.W.mg_of X G a⟩
theorem topD_mk {K : PySem.W.Frag} {h : Heap} {mg : Str → Option Value} {x : Str} {st : Stmt} {f T : Addr} {oc : Value} {od an : Option Addr} {osl : Array (Option Value)} {kV doc pm cdv ct : Value} {its : List Value} {n : Nat} {to : Obj} (X : K.In h) (G : h.Ns mainGlobals mg)
    (a : PySem.W.nsIn K mainGlobals x = some (some (.ref f))) (l : K.lookup f = some ⟨oc, od, .func (PySem.W.fnOf x x (defArgs st) (defBody st) (defScope st) (.ref T) kV doc pm an cdv ct), osl⟩)
    (c : PySem.W.codeIn K cdv x = true) (k : PySem.W.keepIn K (.ref f) = true) (t : K.lookup T = some to) (d : to.data = .seq its.toArray n) : TopD K mg x st its := ⟨f, _, ⟨⟨oc, od, T, kV, doc, pm, an, cdv, ct, osl, _, n, rfl, l, c, t, d⟩, k⟩, PySem.W.mg_of X G a⟩
theorem Top.own {P : Program} {w : World} {K : PySem.W.Frag} {mg : Str → Option Value} {base : Heap} {k : Nat} {x : Str} {st : Stmt} {ps : List Str} {sp : Sp} (T : Top K mg x st)
    (hb : ∀ (kV doc pm : Value) (an : Option Addr) (cdv ct : Value) (us : List Value), us.length = ps.length → bindArgs (PySem.W.fnOf x x (defArgs st) (defBody st) (defScope st) .none kV doc pm an cdv ct) ⟨us, []⟩ = pure (ps.zip us))
    (h : ∀ f fd, Fun K x x st f fd → FnOk P w K mg base CX0 k f fd ps sp) : Own P w K mg base k x ps [] sp := by
  obtain ⟨f, fd, F, m⟩ := T
  exact ⟨f, fd, [], h f fd F, m, F.kp, F.binds hb, .nil⟩
def NewL (xs : List V) (H : Hp) (Q : VK) : Prop := xs.length ≤ sizeLine ∧ ∀ p, H p = none → Q (.ref p) (upd H p (.lst xs))
def NewT (xs : List V) (H : Hp) (Q : VK) : Prop := xs.length ≤ sizeLine ∧ ∀ p, H p = none → Q (.ref p) (upd H p (.tup xs))
def rLen (K : PySem.W.Frag) : List V → Hp → VK → Prop := fun xs H Q => ∃ p ys, xs = [.ref p] ∧ (SqL K H p ys ∨ SqT K H p ys) ∧ Q (.int ys.length) H
def rAbs : List V → Hp → VK → Prop := fun xs H Q => ∃ i, xs = [.int i] ∧ Q (.int (if i < 0 then -i else i)) H
def rInt : List V → Hp → VK → Prop := fun xs H Q => (∃ i, xs = [.int i] ∧ Q (.int i) H) ∨ ∃ k, xs = [.bl k] ∧ Q (.int (if k then 1 else 0)) H
theorem call_lenR {X : Cx} : CallR X (.builtin "len") (rLen X.K) := call_len_seq
theorem call_absR {X : Cx} : CallR X (.builtin "abs") rAbs := call_abs
theorem call_intR {X : Cx} : CallR X (.type "int") rInt := call_int1
section
variable {σ : St} {H : Hp} {Q : VK} {B : Bool → Hp → Prop} {D : Ends} {K : PySem.W.Frag}
theorem i_seq {t u : TS} (h : t { D with nx := u D } σ H) : tSeq t u D σ H := h
theorem i_next (h : D.nx σ H) : tNext D σ H := h
theorem i_asg {te : TE} {g : TG} (h : te σ H fun x H1 => g x σ H1 D.nx) : tAsg te g D σ H := h
theorem i_gname {i : Nat} {v : V} {R : St → Hp → Prop} (h : R (σ.set i (some v)) H) : gName i v σ H R := h
theorem i_ret {te : TE} (h : te σ H D.rt) : tRet te D σ H := h
theorem i_drop {te : TE} (h : te σ H fun _ H1 => D.nx σ H1) : tDrop te D σ H := h
theorem i_ifS {c : TT} {t u : TS} (h : c σ H fun b H1 => if b = true then t D σ H1 else u D σ H1) : tIfS c t u D σ H := h
theorem i_c {v : V} (h : Q v H) : tC v σ H Q := h
theorem i_op {r : R2} {ta tb : TE} (h : ta σ H fun x H1 => tb σ H1 fun y H2 => r x y H2 Q) : tOp r ta tb σ H Q := h
theorem i_un {r : V → Hp → VK → Prop} {ta : TE} (h : ta σ H fun x H1 => r x H1 Q) : tUn r ta σ H Q := h
theorem i_I0 {g : Int → Int → V} {i j : Int} (h : Q (g i j) H) : rI0 g (.int i) (.int j) H Q := ⟨i, j, rfl, rfl, h⟩
theorem i_I {C : Int → Int → Prop} {g : Int → Int → V} {i j : Int} (h : Q (g i j) H) (c : C i j) : rI C g (.int i) (.int j) H Q := ⟨i, j, rfl, rfl, c, h⟩
theorem i_U {g : Int → V} {i : Int} (h : Q (g i) H) : rU g (.int i) H Q := ⟨i, rfl, h⟩
theorem i_eqI {i j : Int} (h : Q (.bl (decide (i = j))) H) : rEq (.int i) (.int j) H Q := ⟨rfl, by
  have e : decide (V.int i = V.int j) = decide (i = j) := by rw [dec_int]; exact Bool.beq_eq_decide_eq i j
  rw [e]; exact h⟩
theorem i_neI {i j : Int} (h : Q (.bl (!decide (i = j))) H) : rNe (.int i) (.int j) H Q := ⟨rfl, by
  have e : decide (V.int i = V.int j) = decide (i = j) := by rw [dec_int]; exact Bool.beq_eq_decide_eq i j
  rw [e]; exact h⟩
theorem i_test {t : TE} (h : t σ H fun x H' => ∃ k, x = .bl k ∧ B k H') : tTest t σ H B := h
theorem i_tB {t : TE} (h : t σ H fun x H' => ∃ k, x = .bl k ∧ B k H') : tB t σ H B := h
theorem i_bl {k : Bool} {R : Bool → Prop} (h : R k) : ∃ k', V.bl k = .bl k' ∧ R k' := ⟨k, rfl, h⟩
theorem i_and {t u : TT} (h : t σ H fun c H1 => if c = true then u σ H1 B else B false H1) : tAnd t u σ H B := h
theorem i_or {t u : TT} (h : t σ H fun c H1 => if c = true then B true H1 else u σ H1 B) : tOr t u σ H B := h
theorem i_not {t : TT} (h : t σ H fun c H1 => B (!c) H1) : tNot t σ H B := h
theorem i_andV {t u : TE} (h : t σ H fun x H1 => ∃ c, x = .bl c ∧ if c = true then u σ H1 Q else Q (.bl false) H1) : tAndV t u σ H Q := h
theorem i_orV {t u : TE} (h : t σ H fun x H1 => ∃ c, x = .bl c ∧ if c = true then Q (.bl true) H1 else u σ H1 Q) : tOrV t u σ H Q := h
theorem i_notV {t : TE} (h : t σ H fun x H1 => ∃ c, x = .bl c ∧ Q (.bl (!c)) H1) : tNotV t σ H Q := h
theorem i_ifE {c : TT} {ta tb : TE} (h : c σ H fun b H1 => if b = true then ta σ H1 Q else tb σ H1 Q) : tIf c ta tb σ H Q := h
theorem i_nil {R : List V → Hp → Prop} (h : R [] H) : tNil σ H R := h
theorem i_cons {ta : TE} {tr : TA} {R : List V → Hp → Prop} (h : ta σ H fun x H1 => tr σ H1 fun xs H2 => R (x :: xs) H2) : tCons ta tr σ H R := h
theorem i_call {sp : Sp} {dvs : List V} {E : XK} {t : TA} (h : t σ H fun vs H1 => sp (vs ++ dvs) H1 Q E) : tCall sp dvs E t σ H Q := h
theorem i_cb {r : List V → Hp → VK → Prop} {t : TA} (h : t σ H fun vs H1 => r vs H1 Q) : tCB r t σ H Q := h
theorem i_tup {t : TA} (h : t σ H fun xs H1 => NewT xs H1 Q) : tTup t σ H Q := h
theorem i_lst {t : TA} (h : t σ H fun xs H1 => NewL xs H1 Q) : tLst t σ H Q := h
theorem small_le {n : Nat} (h : n ≤ 1000) : n ≤ sizeLine := Nat.le_of_lt (small1000 h)
theorem i_ixT {p : Addr} {xs : List V} {i : Int} {v : V} (h : H p = some (.tup xs)) (e : atI xs i = some v) (q : Q v H) : rIxT K (.ref p) (.int i) H Q := ⟨p, xs, i, v, rfl, rfl, SqT.of h, e, q⟩
theorem i_ixL {p : Addr} {xs : List V} {i : Int} {v : V} (h : H p = some (.lst xs)) (e : atI xs i = some v) (q : Q v H) : rIxL K (.ref p) (.int i) H Q := ⟨p, xs, i, v, rfl, rfl, SqL.of h, e, q⟩
theorem i_lenT {p : Addr} {xs : List V} (h : H p = some (.tup xs)) (q : Q (.int xs.length) H) : rLen K [.ref p] H Q := ⟨p, xs, rfl, .inr (SqT.of h), q⟩
theorem i_lenL {p : Addr} {xs : List V} (h : H p = some (.lst xs)) (q : Q (.int xs.length) H) : rLen K [.ref p] H Q := ⟨p, xs, rfl, .inl (SqL.of h), q⟩
theorem i_abs {i : Int} (q : Q (.int (if i < 0 then -i else i)) H) : rAbs [.int i] H Q := ⟨i, rfl, q⟩
theorem i_intB {k : Bool} (q : Q (.int (if k then 1 else 0)) H) : rInt [.bl k] H Q := .inr ⟨k, rfl, q⟩
theorem i_par {i j : Nat} {ta : TA} (h : ta σ H fun vs H1 => ∃ v w, vs = [v, w] ∧ D.nx ((σ.set i (some v)).set j (some w)) H1) : tPar i j ta D σ H := h
theorem i_par2 {v w : V} {R : V → V → Prop} (h : R v w) : ∃ v' w', [v, w] = [v', w'] ∧ R v' w' := ⟨v, w, rfl, h⟩
end
theorem if_d {p A B : Prop} [Decidable p] (h1 : p → A) (h2 : ¬ p → B) : if decide p = true then A else B := by
  by_cases h : p
  · rw [if_pos (decide_eq_true h)]; exact h1 h
  · rw [if_neg (by simp [h])]; exact h2 h
theorem if_nd {p A B : Prop} [Decidable p] (h1 : ¬ p → A) (h2 : p → B) : if (!decide p) = true then A else B := by
  by_cases h : p
  · rw [if_neg (by simp [h])]; exact h2 h
  · rw [if_pos (by simp [h])]; exact h1 h
theorem if_ne {α : Type} {x y : α} {A B : Prop} [Decidable (x = y)] (e : x = y) (h : B) : if (!decide (x = y)) = true then A else B := if_nd (fun c => absurd e c) fun _ => h
theorem if_t {A B : Prop} (h : A) : if true = true then A else B := by rw [if_pos rfl]; exact h
theorem if_f {A B : Prop} (h : B) : if false = true then A else B := by rw [if_neg Bool.false_ne_true]; exact h
theorem if_nt {A B : Prop} (h : B) : if (!true) = true then A else B := by rw [if_neg (by decide)]; exact h
theorem if_nf {A B : Prop} (h : A) : if (!false) = true then A else B := by rw [if_pos (by decide)]; exact h
theorem same_upd {H : Hp} {p : Addr} (h : H p = none) (o : HO) : Same H (upd H p o) := fun b u q => by rw [upd_ne (ne_of_none q h)]; exact q
theorem bd_self (x : Int) : Bd (x.natAbs.log2 + 1) x := by
  unfold Bd
  exact Nat.lt_log2_self
theorem bd_addx {j k : Nat} {x y : Int} (h : Bd j x) (g : Bd k y) : Bd (j + k + 1) (x + y) := (h.mono (Nat.le_add_right ..)).add (g.mono (Nat.le_add_left ..))
theorem bd_subx {j k : Nat} {x y : Int} (h : Bd j x) (g : Bd k y) : Bd (j + k + 1) (x - y) := (h.mono (Nat.le_add_right ..)).sub (g.mono (Nat.le_add_left ..))
end L2
namespace L2
open PySem PySem.Spec PyProof.Rows Bg
section
variable {P : Program} {w : World} {K : PySem.W.Frag} {mg : Str → Option Value} {base : Heap}
theorem FunD.binds {x qual : Str} {st : Stmt} {f : Addr} {fd : FuncData} {its ds : List Value} {ps : List Str} (F : FunD K x qual st f fd its)
    (h : ∀ (T : Addr) (kV doc pm : Value) (an : Option Addr) (cdv ct : Value) (us : List Value), (us ++ ds).length = ps.length → ∃ k : Option (Array Value) → Sem (List (Str × Value)),
      bindArgs (PySem.W.fnOf x qual (defArgs st) (defBody st) (defScope st) (.ref T) kV doc pm an cdv ct) ⟨us, []⟩ = seqItems? (.ref T) >>= k ∧ k (some its.toArray) = pure (ps.zip (us ++ ds))) : Binds K fd ps ds := by
  obtain ⟨oc, od, T, kV, doc, pm, an, cdv, ct, osl, to, n, rfl, lk, hcd, lT, hs⟩ := F.ex
  intro s us KX hl
  obtain ⟨k, h1, h2⟩ := h T kV doc pm an cdv ct us hl
  exact BindsTo.of_defaults rfl (KX _ _ lT) hs h1 h2
theorem FunD.kbinds {x qual : Str} {st : Stmt} {f : Addr} {fd : FuncData} {its : List Value} {ps ks : List Str} {g : List Value → List Value → List Value} {gV : List V → List V → List V} (F : FunD K x qual st f fd its)
    (h : ∀ (T : Addr) (kV doc pm : Value) (an : Option Addr) (cdv ct : Value) (us ws : List Value), (g us ws).length = ps.length → ∃ k : Option (Array Value) → Sem (List (Str × Value)),
      bindArgs (PySem.W.fnOf x qual (defArgs st) (defBody st) (defScope st) (.ref T) kV doc pm an cdv ct) ⟨us, ks.zip ws⟩ = seqItems? (.ref T) >>= k ∧ k (some its.toArray) = pure (ps.zip (g us ws)))
    (r : ∀ {vs : List V} {us : List Value} {zs : List V} {ws : List Value}, Vals vs us → Vals zs ws → Vals (gV vs zs) (g us ws)) : KBinds K fd ps ks g gV := by
  obtain ⟨oc, od, T, kV, doc, pm, an, cdv, ct, osl, to, n, rfl, lk, hcd, lT, hs⟩ := F.ex
  refine ⟨fun s us ws KX hl => ?_, r⟩
  obtain ⟨k, h1, h2⟩ := h T kV doc pm an cdv ct us ws hl
  exact BindsTo.of_defaults rfl (KX _ _ lT) hs h1 h2
theorem TopD.own {k : Nat} {x : Str} {st : Stmt} {ps : List Str} {its ds : List Value} {dvs : List V} {sp : Sp} (T : TopD K mg x st its)
    (hb : ∀ (T : Addr) (kV doc pm : Value) (an : Option Addr) (cdv ct : Value) (us : List Value), (us ++ ds).length = ps.length → ∃ k : Option (Array Value) → Sem (List (Str × Value)),
      bindArgs (PySem.W.fnOf x x (defArgs st) (defBody st) (defScope st) (.ref T) kV doc pm an cdv ct) ⟨us, []⟩ = seqItems? (.ref T) >>= k ∧ k (some its.toArray) = pure (ps.zip (us ++ ds)))
    (hd : Vals dvs ds) (h : ∀ f fd, FunD K x x st f fd its → FnOk P w K mg base CX0 k f fd ps sp) : Own P w K mg base k x ps dvs sp := by
  obtain ⟨f, fd, F, m⟩ := T
  exact ⟨f, fd, ds, h f fd F, m, F.kp, F.binds hb, hd⟩
end
end L2
namespace Att
open PySem PySem.W PySem.Calls PyProof.Rows Bg
theorem weight_item {x : WData} : ∀ {xs : List WData}, x ∈ xs → WData.weight x ≤ WData.weightAll xs
  | [], h => absurd h (by simp)
  | y :: ys, h => by
    simp only [WData.weightAll]
    rcases List.mem_cons.mp h with e | e
    · subst e; omega
    · have := weight_item e
      omega
theorem lay_bits {ns : List Int} (h : WData.layableAll [WData.list (ns.map WData.int)] = true) : ∀ x ∈ ns, Bd 1048576 x := fun x hx => by
  have h1 : WData.layable (WData.list (ns.map WData.int)) = true := by simpa [WData.layableAll] using h
  unfold WData.layable at h1
  rw [Bool.and_eq_true] at h1
  have h2 : WData.weight (WData.list (ns.map WData.int)) ≤ 2 ^ 20 := of_decide_eq_true h1.2
  simp only [WData.weight] at h2
  have h3 : WData.weight (WData.int x) ≤ WData.weightAll (ns.map WData.int) := weight_item (List.mem_map.mpr ⟨x, hx, rfl⟩)
  simp only [WData.weight] at h3
  unfold Bd
  by_cases z : x = 0
  · subst z
    exact Nat.pow_pos (by decide)
  · rw [if_neg (by simpa using z)] at h3
    have e : (2 : Nat) ^ 20 = 1048576 := by decide
    exact (Nat.log2_lt (by omega)).mp (by omega)
theorem attach_callB {l : OpenLaw} {n : Nat} {q : Program} {loose : List Str} {XP : (Str → Option Value) → Heap → Prop} {YP : World → Heap → Prop} {d : DefRec}
    (hn : l.most = some n) (hdf : d.params.defaults = [])
    (call : ∀ (w : World) (s₀ s₁ : Shared) (mg mb : Str → Option Value) (fa : Addr) (a : Addr) (vs : List Value) (ns : List Int),
      Ground q loose [] XP w s₀ mg mb s₁.heap → YP w s₁.heap → mg d.name = some (.ref fa) →
      s₁.heap.get? a = some { cls := .type "list", data := .seq vs.toArray } → IntsAre vs ns → ns.length ≤ n → (∀ x ∈ ns, Bd 1048576 x) → s₁.gens = #[] →
      codeAny (model l.prog w) callerA (.call (.ref fa) ⟨[.ref a], []⟩) (fun r s' => r = .ok (.ret (.bool true)) ∧ OldK s₁.heap s'.heap ∧ s'.os = s₁.os ∧ AllBare s'.gens) s₁) :
    WalkO q loose XP YP l.row.toRowW d [] (fun f vs => PySem.call f vs) := by
  intro w s₀ s₁ mg mb G Y fa o pm cd doc dV kV ho hd hcd hD hmg hg args vals as hpre hlay hrd hwl hlo
  obtain ⟨a, vs, ns, rfl, rfl, hobj, hints, hlen⟩ := script_of hn hpre hwl
  refine enter_call (codeAny_mono (call w s₀ s₁ mg mb fa a vs ns G Y hmg hobj hints hlen (lay_bits hlay) hg) fun r s' hq => ?_)
  obtain ⟨rfl, h2, h3, h4⟩ := hq
  exact ⟨.inl ⟨.bool true, .bool true, [], rfl, fun _ => rfl, .bool true, post_true l _, fun _ => ⟨List.Pairwise.nil, fun _ hm => (nomatch hm)⟩⟩, h2, h3, h4⟩
end Att
namespace L2
open PySem PySem.Spec PyProof.Rows Bg
def spLaw (K : PySem.W.Frag) : Sp := fun vs H Q _ => ∃ (a : Addr) (ns : List Int), vs = [.ref a] ∧ SqL K H a (ns.map V.int) ∧ ns.length ≤ 63 ∧ (∀ x ∈ ns, Bd 1048576 x) ∧ ∀ H', Q (.bl true) H'
theorem walk_B {l : PySem.W.OpenLaw} {k : Nat} {q : Program} {loose : List Str} {XP : (Str → Option Value) → Heap → Prop} {YP : World → Heap → Prop} {d : DefRec} {K : Params → PySem.W.Frag} {x : Str}
    (hn : l.most = some 63) (hdf : d.params.defaults = []) (hr : Room k callerA)
    (hY : ∀ (w : World) (h : Heap), YP w h → (K w.params).In h)
    (F : ∀ (w : World) (mg : Str → Option Value) (fa : Addr) (h : Heap), (K w.params).In h → h.Ns mainGlobals mg → mg d.name = some (.ref fa) →
      ∃ fd : FuncData, (∀ (s : Shared) (u : Value), BindsTo s fd ⟨[u], []⟩ [(x, u)]) ∧
        ∀ base : Heap, (K w.params).In base → base.Ns mainGlobals mg → FnOk l.prog w (K w.params) mg base CX0 k fa fd [x] (spLaw (K w.params))) :
    PySem.W.WalkO q loose XP YP l.row.toRowW d [] (fun f vs => PySem.call f vs) := by
  refine Att.attach_callB hn hdf fun w s₀ s₁ mg mb fa a vs ns G Y hmg hobj hints hlen hbd hg => ?_
  have KX := hY w _ Y
  obtain ⟨fd, hb, hF⟩ := F w mg fa _ KX G.T.g hmg
  exact law_call KX G.T.g G.T.b G.T.builtins G.T.nolimit hg hobj hints (Nat.le_trans hlen (by decide)) hr hF hb (fun H hO hS => ⟨a, ns, rfl, hS, hlen, hbd, fun _ => rfl⟩) fun H e s' z => z
theorem law_mk {P : Program} {w : World} {K : PySem.W.Frag} {mg : Str → Option Value} {fa : Addr} {k : Nat} {st : Stmt} {x : Str} (T : Top K mg "law" st) (hfa : mg "law" = some (.ref fa))
    (hb : ∀ (kV doc pm : Value) (an : Option Addr) (cdv ct : Value) (v : Value), bindArgs (PySem.W.fnOf "law" "law" (defArgs st) (defBody st) (defScope st) .none kV doc pm an cdv ct) ⟨[v], []⟩ = pure [(x, v)])
    (h : ∀ base f fd, Fun K "law" "law" st f fd → FnOk P w K mg base CX0 k f fd [x] (spLaw K)) :
    ∃ fd : FuncData, (∀ (s : Shared) (u : Value), BindsTo s fd ⟨[u], []⟩ [(x, u)]) ∧ ∀ base : Heap, K.In base → base.Ns mainGlobals mg → FnOk P w K mg base CX0 k fa fd [x] (spLaw K) := by
  obtain ⟨f, fd, F, m⟩ := T
  have e := hfa.symm.trans m
  cases e
  obtain ⟨oc, od, kV, doc, pm, an, cdv, ct, osl, e1, lk, hcd⟩ := id F.ex
  refine ⟨fd, fun s u => ?_, fun base _ _ => h base _ _ F⟩
  rw [e1]
  exact .of_eq (hb kV doc pm an cdv ct u)
end L2
namespace Bg
theorem g3_mul (c x y z : Int) : g3 (c * x) (c * y) (c * z) = c.natAbs * g3 x y z := by
  unfold g3
  rw [Int.gcd_mul_left]
  have e1 : ((c.natAbs * Int.gcd z x : Nat) : Int).gcd (c * y) = Int.gcd (c * (Int.gcd z x : Nat)) (c * y) := by
    rw [Int.gcd_eq_natAbs_gcd_natAbs, Int.gcd_eq_natAbs_gcd_natAbs]
    congr 1
    rw [Int.natAbs_mul, Int.natAbs_natCast, Int.natAbs_natCast]
  rw [e1, Int.gcd_mul_left]
theorem dvd_g3 {d x y z : Int} (hx : d ∣ x) (hy : d ∣ y) (hz : d ∣ z) : d ∣ (g3 x y z : Int) := Int.dvd_coe_gcd (Int.dvd_coe_gcd hz hx) hy
theorem low_dvd {x y z x' y' z' : Int} (hg : g3 x y z = 1) (hx : x * z' = x' * z) (hy : y * z' = y' * z) : z ∣ z' := by
  have h1 : z ∣ z' * x := ⟨x', by rw [Int.mul_comm z', hx, Int.mul_comm]⟩
  have h2 : z ∣ z' * y := ⟨y', by rw [Int.mul_comm z', hy, Int.mul_comm]⟩
  have h3 : z ∣ z' * z := ⟨z', by rw [Int.mul_comm]⟩
  have h := dvd_g3 h1 h2 h3
  rw [g3_mul, hg, Nat.mul_one] at h
  exact Int.dvd_natAbs.mp h
theorem low_eq {x y z x' y' z' : Int} (h1 : 1 ≤ z) (h2 : 1 ≤ z') (g1 : g3 x y z = 1) (g2 : g3 x' y' z' = 1) (hx : x * z' = x' * z) (hy : y * z' = y' * z) : x = x' ∧ y = y' ∧ z = z' := by
  have d1 : z ∣ z' := low_dvd g1 hx hy
  have d2 : z' ∣ z := low_dvd g2 hx.symm hy.symm
  have e : z = z' := by
    have a1 := Int.le_of_dvd (by omega) d1
    have a2 := Int.le_of_dvd (by omega) d2
    omega
  subst e
  exact ⟨Int.eq_of_mul_eq_mul_right (by omega) hx, Int.eq_of_mul_eq_mul_right (by omega) hy, rfl⟩
theorem low_unique {x y z a b n : Int} (h1 : 1 ≤ z) (g1 : g3 x y z = 1) (hn : n ≠ 0) (hx : x * n = a * z) (hy : y * n = b * z) : x = lA a b n ∧ y = lB a b n ∧ z = lN a b n := by
  refine low_eq h1 (l_n hn) g1 (l_gcd hn) ?_ ?_
  · have e := l_a (a := a) (b := b) (n := n)
    refine Int.eq_of_mul_eq_mul_right hn ?_
    calc x * lN a b n * n = x * n * lN a b n := by rw [Int.mul_assoc, Int.mul_comm (lN a b n), Int.mul_assoc]
      _ = a * z * lN a b n := by rw [hx]
      _ = a * lN a b n * z := by rw [Int.mul_assoc, Int.mul_comm z, Int.mul_assoc]
      _ = lA a b n * n * z := by rw [e]
      _ = lA a b n * z * n := by rw [Int.mul_assoc, Int.mul_comm n, Int.mul_assoc]
  · have e := l_b (a := a) (b := b) (n := n)
    refine Int.eq_of_mul_eq_mul_right hn ?_
    calc y * lN a b n * n = y * n * lN a b n := by rw [Int.mul_assoc, Int.mul_comm (lN a b n), Int.mul_assoc]
      _ = b * z * lN a b n := by rw [hy]
      _ = b * lN a b n * z := by rw [Int.mul_assoc, Int.mul_comm z, Int.mul_assoc]
      _ = lB a b n * n * z := by rw [e]
      _ = lB a b n * z * n := by rw [Int.mul_assoc, Int.mul_comm n, Int.mul_assoc]
end Bg
namespace Bg
theorem Bd.pow {k : Nat} {x : Int} (h : Bd k x) : ∀ n : Nat, 0 < k → Bd (k * n + 1) (x ^ n)
  | 0, _ => by
    unfold Bd
    rw [Int.pow_zero, Nat.mul_zero]
    decide
  | n + 1, hk => by
    have ih := Bd.pow h n hk
    rw [Int.pow_succ]
    have e : k * (n + 1) + 1 = (k * n + 1) + k := by rw [Nat.mul_succ]; omega
    rw [e]
    exact ih.mul h
theorem bd_powx {k n : Nat} {x : Int} (h : Bd k x) : Bd ((k + 1) * n + 1) (x ^ n) := Bd.pow (h.mono (Nat.le_succ k)) n (Nat.succ_pos k)
theorem bd_ediv {k : Nat} {x y : Int} (h : Bd k x) : Bd k (x / y) := h.of_le (Int.natAbs_ediv_le_natAbs x y)
theorem bd_emod {k : Nat} {x y : Int} (h : Bd k y) (hy : 0 < y) : Bd k (x % y) := h.emod (by omega) x
theorem bd_range {k : Nat} {x B : Int} (h0 : 0 ≤ x) (h1 : x ≤ B) (hB : B.natAbs < 2 ^ k) : Bd k x := by
  unfold Bd
  omega
theorem bd_small {x : Int} (k : Nat) (h0 : -1000000 ≤ x) (h1 : x ≤ 1000000) (hk : 20 ≤ k) : Bd k x := by
  have h : Bd 20 x := by
    unfold Bd
    have : (2 : Nat) ^ 20 = 1048576 := by decide
    omega
  exact h.mono hk
theorem gcd_abs2 (a b : Int) : Int.gcd (if a < 0 then -a else a) (if b < 0 then -b else b) = Int.gcd a b := by
  have e : ∀ x : Int, (if x < 0 then -x else x) = (x.natAbs : Int) := fun x => by split <;> omega
  rw [e, e, Int.gcd_eq_natAbs_gcd_natAbs, Int.gcd_eq_natAbs_gcd_natAbs, Int.natAbs_natCast, Int.natAbs_natCast]
end Bg
namespace L2
open PySem PySem.Spec PyProof.Rows Bg
section
variable {σ : St} {H : Hp} {Q : VK} {D : Ends} {K : PySem.W.Frag}
def tCut (t : TS) : TS := fun D σ H => ∃ T : St → Hp → Prop, (∀ σ' H', T σ' H' → D.nx σ' H') ∧ t { D with nx := T } σ H
theorem ps_cut {X : Cx} {st : Stmt} {t : TS} (h : PS X st t) : PS X st (tCut t) := by
  intro pins s σ H D I hw
  obtain ⟨T, hT, hw⟩ := hw
  refine thn (h pins s σ H _ I hw) fun f s' q => ?_
  cases f with
  | next => obtain ⟨σ', H', I', q⟩ := q; exact ⟨σ', H', I', hT _ _ q⟩
  | brk => exact q
  | cont => exact q
  | ret v => exact q
theorem i_cut {t : TS} {T : St → Hp → Prop} (h : t { D with nx := T } σ H) (hT : ∀ σ' H', T σ' H' → D.nx σ' H') : tCut t D σ H := ⟨T, hT, h⟩
theorem i_newT {xs : List V} (hl : xs.length ≤ 1000) (h : ∀ p H2, Same H H2 → H2 p = some (.tup xs) → Q (.ref p) H2) : NewT xs H Q :=
  ⟨small_le hl, fun p hp => h p _ (same_upd hp _) upd_same⟩
theorem i_newL {xs : List V} (hl : xs.length ≤ 1000) (h : ∀ p H2, Same H H2 → H2 p = some (.lst xs) → Q (.ref p) H2) : NewL xs H Q :=
  ⟨small_le hl, fun p hp => h p _ (same_upd hp _) upd_same⟩
theorem i_newLf {xs : List V} (hl : xs.length ≤ 1000) (h : ∀ p H2, H p = none → Same H H2 → H2 p = some (.lst xs) → Q (.ref p) H2) : NewL xs H Q :=
  ⟨small_le hl, fun p hp => h p _ hp (same_upd hp _) upd_same⟩
theorem i_sl {r : V → Option Int → Option Int → Hp → VK → Prop} {te : TE} {tl th : TO} (h : te σ H fun x H1 => tl σ H1 fun l H2 => th σ H2 fun u H3 => r x l u H3 Q) : tSl r te tl th σ H Q := h
theorem i_noPart {R : Option Int → Hp → Prop} (h : R none H) : tNoPart σ H R := h
theorem i_part {t : TE} {R : Option Int → Hp → Prop} (h : t σ H fun x H1 => ∃ i, x = .int i ∧ R (some i) H1) : tPart t σ H R := h
theorem i_int {k : Int} {R : Int → Prop} (h : R k) : ∃ k', V.int k = .int k' ∧ R k' := ⟨k, rfl, h⟩
theorem i_forL {tl : TE} {g : TG} {tb : TS} (h : tl σ H fun x H1 => ∃ a, x = .ref a ∧ (∃ xs, SqL K H1 a xs) ∧ ∃ W : Nat → Nat → St → Hp → Prop, (∃ m, W 0 m σ H1) ∧ ∀ i m σ H, W i m σ H →
  ((Itl K a).stop i H ∧ D.nx σ H) ∨ ((Itl K a).go i H ∧ ∃ N : St → Hp → Prop, (∀ σ' H', N σ' H' → ∃ m', m' < m ∧ W (i + 1) m' σ' H') ∧ ∀ x H', (Itl K a).yld i H x H' → g x σ H' fun σ2 H2 => tb { D with nx := N, ct := N, bk := D.nx } σ2 H2)) :
  tFor (iList K tl) g tb D σ H := h
theorem at_ints {ns : List Int} {i : Nat} {y : V} (h : (ns.map V.int)[i]? = some y) : ∃ z, y = V.int z ∧ z ∈ ns := by
  rw [List.getElem?_map] at h
  cases e : ns[i]? with
  | none => rw [e] at h; cases h
  | some z => rw [e] at h; exact ⟨z, (Option.some.inj h).symm, List.mem_of_getElem? e⟩
end
end L2
namespace L2
open PySem PySem.Spec PyProof.Rows Bg
def EqV (X : Cx) (n : Nat) (H : Hp) (x y : V) (b : Bool) : Prop :=
  ∀ (pins : List (Addr × Obj)) (σ : St) (s : Shared) (v u : Value) (A : Around), Inv X pins σ H s → RelV x v → RelV y u → A.units + 4 * n < cLine → SeqAt.EqAt A s v u b
theorem EqV.int {X : Cx} {n : Nat} {H : Hp} (i j : Int) : EqV X n H (.int i) (.int j) (i == j) := fun _ _ s v u A _ rv ru _ => by
  obtain ⟨t, rfl⟩ := rv
  obtain ⟨t', rfl⟩ := ru
  exact SeqAt.EqAt.int_int i t j t'
inductive EqVs (X : Cx) (n : Nat) (H : Hp) : List V → List V → List Bool → Prop
  | nil : EqVs X n H [] [] []
  | cons {x y : V} {b : Bool} {xs ys : List V} {bs : List Bool} : EqV X n H x y b → EqVs X n H xs ys bs → EqVs X n H (x :: xs) (y :: ys) (b :: bs)
theorem EqVs.at {X : Cx} {n : Nat} {H : Hp} : ∀ {xs ys : List V} {bs : List Bool}, EqVs X n H xs ys bs → ∀ {j : Nat} {x y : V}, xs[j]? = some x → ys[j]? = some y → EqV X n H x y (bs.getD j false)
  | _, _, _, .nil, j, x, y, h, _ => by simp at h
  | _, _, _, .cons e _, 0, x, y, h1, h2 => by
    simp at h1 h2
    subst h1; subst h2
    exact e
  | _, _, _, .cons _ r, j + 1, x, y, h1, h2 => by
    have := EqVs.at r (j := j) (x := x) (y := y) (by simpa using h1) (by simpa using h2)
    simpa using this
theorem EqVs.len {X : Cx} {n : Nat} {H : Hp} : ∀ {xs ys : List V} {bs : List Bool}, EqVs X n H xs ys bs → xs.length = bs.length ∧ ys.length = bs.length
  | _, _, _, .nil => ⟨rfl, rfl⟩
  | _, _, _, .cons _ r => by
    have := r.len
    simp only [List.length_cons]
    omega
theorem all_getD (bs : List Bool) : ((List.range bs.length).all fun j => bs.getD j false) = bs.all id := by
  rw [Bool.eq_iff_iff]
  simp only [List.all_eq_true, List.mem_range, id]
  constructor
  · intro h b hb
    obtain ⟨j, hj, e⟩ := List.mem_iff_getElem.mp hb
    have := h j hj
    rw [List.getD_eq_getElem?_getD, List.getElem?_eq_getElem hj] at this
    rw [← e]
    exact this
  · intro h j hj
    rw [List.getD_eq_getElem?_getD, List.getElem?_eq_getElem hj]
    exact h _ (List.getElem_mem hj)
theorem rc_tup {X : Cx} {n : Nat} {H : Hp} {a b : Addr} {xs ys : List V} {bs : List Bool} {pins : List (Addr × Obj)} {σ : St} {s : Shared} {A : Around} (ha : SqT X.K H a xs) (hb : SqT X.K H b ys) (he : EqVs X n H xs ys bs) (I : Inv X pins σ H s) (hu : A.units + 4 * (n + 1) < cLine) :
    ∃ (is js : Array Value), s.heap.IsTuple a is ∧ s.heap.IsTuple b js ∧ (∀ j (h1 : j < is.size) (h2 : j < js.size), SeqAt.EqAt A.in1 s is[j] js[j] (bs.getD j false)) ∧ ((List.range (min is.size js.size)).all (fun j => bs.getD j false) && is.size == js.size) = bs.all id := by
  obtain ⟨is, r1, p1, _⟩ := I.tuple ha
  obtain ⟨js, r2, p2, _⟩ := I.tuple hb
  obtain ⟨l1, l2⟩ := he.len
  have q1 := r1.length
  have q2 := r2.length
  refine ⟨is.toArray, js.toArray, (show s.heap.IsTuple a is.toArray from p1), (show s.heap.IsTuple b js.toArray from p2), fun j h1 h2 => ?_, ?_⟩
  · have hj1 : j < xs.length := by rw [q1]; simpa using h1
    have hj2 : j < ys.length := by rw [q2]; simpa using h2
    obtain ⟨v, ev, rv⟩ := r1.get (List.getElem?_eq_getElem hj1)
    obtain ⟨u, eu, ru⟩ := r2.get (List.getElem?_eq_getElem hj2)
    have e1 : is.toArray[j] = v := by
      have : is[j]? = some v := ev
      rw [List.getElem?_eq_getElem (by simpa using h1)] at this
      simpa using Option.some.inj this
    have e2 : js.toArray[j] = u := by
      have : js[j]? = some u := eu
      rw [List.getElem?_eq_getElem (by simpa using h2)] at this
      simpa using Option.some.inj this
    rw [e1, e2]
    exact he.at (List.getElem?_eq_getElem hj1) (List.getElem?_eq_getElem hj2) pins σ s v u A.in1 I rv ru (by show A.units + 1 + 4 * n < cLine; omega)
  · have e1 : is.toArray.size = bs.length := by rw [List.size_toArray]; omega
    have e2 : js.toArray.size = bs.length := by rw [List.size_toArray]; omega
    rw [e1, e2, Nat.min_self, all_getD]
    simp
theorem EqV.tup {X : Cx} {n : Nat} {H : Hp} {a b : Addr} {xs ys : List V} {bs : List Bool} (ha : SqT X.K H a xs) (hb : SqT X.K H b ys) (he : EqVs X n H xs ys bs) (hs : a = b → bs.all id = true) : EqV X (n + 1) H (.ref a) (.ref b) (bs.all id) := fun pins σ s v u A I rv ru hu => by
  cases rv
  cases ru
  by_cases hab : a = b
  · subst hab
    rw [hs rfl]
    exact SeqAt.EqAt.same _
  · obtain ⟨is, js, p1, p2, hj, e⟩ := rc_tup ha hb he I hu
    have := SeqAt.RcAt.tuples (A := A) (e := fun j => bs.getD j false) p1 p2 (by omega) hj
    rw [e] at this
    exact SeqAt.EqAt.of_refs hab this
def rEqT (X : Cx) : R2 := fun x y H Q => ∃ a b xs ys bs n, x = .ref a ∧ y = .ref b ∧ n ≤ 9 ∧ SqT X.K H a xs ∧ SqT X.K H b ys ∧ EqVs X n H xs ys bs ∧ Q (.bl (bs.all id)) H
def rNeT (X : Cx) : R2 := fun x y H Q => ∃ a b xs ys bs n, x = .ref a ∧ y = .ref b ∧ n ≤ 9 ∧ SqT X.K H a xs ∧ SqT X.K H b ys ∧ EqVs X n H xs ys bs ∧ Q (.bl (!(bs.all id))) H
theorem op_eqT {X : Cx} (hu : X.A.units + 64 < cLine) : OpR X (compareOp .Eq) (rEqT X) := by
  intro pins s σ H x y v u Q I rx ry h
  obtain ⟨a, b, xs, ys, bs, n, rfl, rfl, hn, ha, hb, he, q⟩ := h
  cases rx
  cases ry
  obtain ⟨is, js, p1, p2, hj, e⟩ := rc_tup (A := X.A) ha hb he I (by omega)
  refine SeqAt.eq_tupleAt p1 p2 (by omega) hj ?_
  rw [e]
  exact ⟨.bl _, H, I, rfl, q⟩
theorem op_neT {X : Cx} (hu : X.A.units + 64 < cLine) : OpR X (compareOp .NotEq) (rNeT X) := by
  intro pins s σ H x y v u Q I rx ry h
  obtain ⟨a, b, xs, ys, bs, n, rfl, rfl, hn, ha, hb, he, q⟩ := h
  cases rx
  cases ry
  obtain ⟨is, js, p1, p2, hj, e⟩ := rc_tup (A := X.A) ha hb he I (by omega)
  refine SeqAt.RcNeAt.tuples p1 p2 (by omega) hj X.prog X.w X.xe _ ?_
  rw [e]
  exact ⟨.bl _, H, I, rfl, q⟩
theorem i_eq3 {X : Cx} {H : Hp} {Q : VK} {a b : Addr} {x y z x' y' z' : Int} (ha : H a = some (.tup [.int x, .int y, .int z])) (hb : H b = some (.tup [.int x', .int y', .int z'])) (q : Q (.bl (decide (x = x' ∧ y = y' ∧ z = z'))) H) : rEqT X (.ref a) (.ref b) H Q := by
  refine ⟨a, b, _, _, _, 0, rfl, rfl, Nat.zero_le _, SqT.of ha, SqT.of hb, .cons (.int x x') (.cons (.int y y') (.cons (.int z z') .nil)), ?_⟩
  have e : ([x == x', y == y', z == z'] : List Bool).all id = decide (x = x' ∧ y = y' ∧ z = z') := by
    rw [Bool.eq_iff_iff]
    simp
  rw [e]
  exact q
theorem i_ne3 {X : Cx} {H : Hp} {Q : VK} {a b : Addr} {x y z x' y' z' : Int} (ha : H a = some (.tup [.int x, .int y, .int z])) (hb : H b = some (.tup [.int x', .int y', .int z'])) (q : Q (.bl (!decide (x = x' ∧ y = y' ∧ z = z'))) H) : rNeT X (.ref a) (.ref b) H Q := by
  refine ⟨a, b, _, _, _, 0, rfl, rfl, Nat.zero_le _, SqT.of ha, SqT.of hb, .cons (.int x x') (.cons (.int y y') (.cons (.int z z') .nil)), ?_⟩
  have e : ([x == x', y == y', z == z'] : List Bool).all id = decide (x = x' ∧ y = y' ∧ z = z') := by
    rw [Bool.eq_iff_iff]
    simp
  rw [e]
  exact q
end L2
namespace L2
open PySem PySem.Spec PyProof.Rows Bg
theorem i_ne2 {X : Cx} {H : Hp} {Q : VK} {a b : Addr} {x z x' z' : Int} (ha : H a = some (.tup [.int x, .int z])) (hb : H b = some (.tup [.int x', .int z'])) (q : Q (.bl (!decide (x = x' ∧ z = z'))) H) : rNeT X (.ref a) (.ref b) H Q := by
  refine ⟨a, b, _, _, _, 0, rfl, rfl, Nat.zero_le _, SqT.of ha, SqT.of hb, .cons (.int x x') (.cons (.int z z') .nil), ?_⟩
  have e : ([x == x', z == z'] : List Bool).all id = decide (x = x' ∧ z = z') := by
    rw [Bool.eq_iff_iff]
    simp
  rw [e]
  exact q
theorem eqv3 {X : Cx} {H : Hp} {a b : Addr} {x y z : Int} (ha : H a = some (.tup [.int x, .int y, .int z])) (hb : H b = some (.tup [.int x, .int y, .int z])) : EqV X 1 H (.ref a) (.ref b) true := by
  have e : ([x == x, y == y, z == z] : List Bool).all id = true := by simp
  have := EqV.tup (X := X) (n := 0) (SqT.of ha) (SqT.of hb) (.cons (.int x x) (.cons (.int y y) (.cons (.int z z) .nil))) (fun _ => e)
  rw [e] at this
  exact this
def SameX (l : Addr) (H H' : Hp) : Prop := ∀ b o, H b = some o → b ≠ l → H' b = some o
theorem Same.sameX {H H' : Hp} (s : Same H H') (l : Addr) : SameX l H H' := fun b o e _ => s b o e
theorem SameX.trans {l : Addr} {H H1 H2 : Hp} (a : SameX l H H1) (b : SameX l H1 H2) : SameX l H H2 := fun c o e n => b c o (a c o e n) n
theorem SameX.tup {l p : Addr} {H H' : Hp} {xs ys : List V} (s : SameX l H H') (h : H p = some (.tup xs)) (hl : H l = some (.lst ys)) : H' p = some (.tup xs) := s _ _ h (ne_of h hl (fun z => nomatch z))
section
variable {σ : St} {H : Hp} {Q : VK} {D : Ends} {K : PySem.W.Frag}
theorem i_append {l : Addr} {xs : List V} {y : V} (h : H l = some (.lst xs)) (hz : xs.length < 1000) (q : ∀ H2, SameX l H H2 → H2 l = some (.lst (xs ++ [y])) → Q .non H2) : rAppend (.ref l) [y] H Q :=
  ⟨l, xs, y, rfl, rfl, h, Nat.lt_of_lt_of_le hz (small_le (Nat.le_refl _)), q _ (fun b o e n => by rw [upd_ne n]; exact e) upd_same⟩
theorem i_bm {T : String} {r : V → List V → Hp → VK → Prop} {to : TE} {t : TA} (h : to σ H fun x H1 => tyV K T x H1 ∧ t σ H1 fun xs H2 => r x xs H2 Q) : tBM K T r to t σ H Q := h
theorem i_tyL {l : Addr} {xs : List V} {R : Prop} (h : H l = some (.lst xs)) (q : R) : tyV K "list" (.ref l) H ∧ R := ⟨.inl ⟨rfl, _, SqL.of h⟩, q⟩
theorem i_forR1 {ta : TA} {g : TG} {tb : TS} (h : ta σ H fun vs H1 => ∃ j : Int, vs = [.int j] ∧ -(2 ^ 62) ≤ j ∧ j < 2 ^ 62 ∧ ∃ W : Nat → Nat → St → Hp → Prop, (∃ m, W 0 m σ H1) ∧ ∀ i m σ H, W i m σ H →
  ((Itr 0 j.toNat).stop i H ∧ D.nx σ H) ∨ ((Itr 0 j.toNat).go i H ∧ ∃ N : St → Hp → Prop, (∀ σ' H', N σ' H' → ∃ m', m' < m ∧ W (i + 1) m' σ' H') ∧ ∀ x H', (Itr 0 j.toNat).yld i H x H' → g x σ H' fun σ2 H2 => tb { D with nx := N, ct := N, bk := D.nx } σ2 H2)) :
  tFor (iRng1 ta) g tb D σ H := h
end
end L2
namespace Bg
structure Rt (d : Int) : Prop where
  lo : 2 ≤ d
  hi : d ≤ 99
  ns : ∀ k : Nat, ((k * k : Nat) : Int) ≠ d
theorem rt_of {d : Int} (h : 2 ≤ d ∧ d ≤ 99) (n : d ≠ 4 ∧ d ≠ 9 ∧ d ≠ 16 ∧ d ≠ 25 ∧ d ≠ 36 ∧ d ≠ 49 ∧ d ≠ 64 ∧ d ≠ 81) : Rt d := by
  refine ⟨h.1, h.2, fun k e => ?_⟩
  have hk : k < 10 := by
    refine Nat.lt_of_not_le fun z => ?_
    have : 10 * 10 ≤ k * k := Nat.mul_le_mul z z
    omega
  have : k = 0 ∨ k = 1 ∨ k = 2 ∨ k = 3 ∨ k = 4 ∨ k = 5 ∨ k = 6 ∨ k = 7 ∨ k = 8 ∨ k = 9 := by omega
  rcases this with q | q | q | q | q | q | q | q | q | q <;> subst q <;> omega
theorem irrN {D A B : Nat} (ns : ∀ k : Nat, k * k ≠ D) (e : A * A = D * B * B) : B = 0 := by
  rcases Nat.eq_zero_or_pos B with z | hB
  · exact z
  exfalso
  have hg : 0 < Nat.gcd A B := Nat.gcd_pos_of_pos_right A hB
  have hc := Nat.coprime_div_gcd_div_gcd hg
  obtain ⟨a, ha⟩ := Nat.gcd_dvd_left A B
  obtain ⟨b, hb⟩ := Nat.gcd_dvd_right A B
  have ea : A / Nat.gcd A B = a := by rw [Nat.div_eq_iff_eq_mul_right hg (Nat.gcd_dvd_left A B)]; exact ha
  have eb : B / Nat.gcd A B = b := by rw [Nat.div_eq_iff_eq_mul_right hg (Nat.gcd_dvd_right A B)]; exact hb
  rw [ea, eb] at hc
  generalize Nat.gcd A B = g at *
  have e2 : a * a = D * b * b := by
    have h1 : g * g * (a * a) = g * g * (D * b * b) := by
      rw [ha, hb] at e
      calc g * g * (a * a) = g * a * (g * a) := by simp only [Nat.mul_assoc, Nat.mul_left_comm]
        _ = D * (g * b) * (g * b) := e
        _ = g * g * (D * b * b) := by simp only [Nat.mul_assoc, Nat.mul_left_comm]
    exact Nat.eq_of_mul_eq_mul_left (Nat.mul_pos hg hg) h1
  have d1 : b ∣ a * a := ⟨D * b, by rw [e2, Nat.mul_comm b]⟩
  have d2 : b ∣ a := hc.symm.dvd_of_dvd_mul_left d1
  have d3 : b = 1 := by
    have : b ∣ Nat.gcd a b := Nat.dvd_gcd d2 (Nat.dvd_refl b)
    rw [show Nat.gcd a b = 1 from hc] at this
    exact Nat.dvd_one.mp this
  rw [d3, Nat.mul_one, Nat.mul_one] at e2
  exact ns a e2
theorem irr {d a b : Int} (h : Rt d) (e : a * a = d * b * b) : b = 0 := by
  have hd : (d.toNat : Int) = d := Int.toNat_of_nonneg (by have := h.lo; omega)
  have := irrN (D := d.toNat) (A := a.natAbs) (B := b.natAbs) (fun k q => h.ns k (by rw [q]; exact hd)) (by
    have h1 : ((a.natAbs * a.natAbs : Nat) : Int) = ((d.toNat * b.natAbs * b.natAbs : Nat) : Int) := by
      have ea : ((a.natAbs * a.natAbs : Nat) : Int) = a * a := Int.natAbs_mul_self
      have eb : ((b.natAbs * b.natAbs : Nat) : Int) = b * b := Int.natAbs_mul_self
      rw [ea, Nat.mul_assoc, Int.natCast_mul, eb, hd, ← Int.mul_assoc]
      exact e
    exact Int.ofNat.inj h1)
  omega
def sgn (d a b : Int) : Int := if 0 ≤ a ∧ 0 ≤ b then (if 0 < a + b then 1 else 0) else if a ≤ 0 ∧ b ≤ 0 then -1 else if 0 < a then (if d * b * b < a * a then 1 else -1) else (if a * a < d * b * b then 1 else -1)
theorem sq_pos {b : Int} (h : b ≠ 0) : 0 < b * b := by
  rcases Int.lt_or_gt_of_ne h with q | q
  · exact Int.mul_pos_of_neg_of_neg q q
  · exact Int.mul_pos q q
theorem dsq_pos {d b : Int} (h : 2 ≤ d) (hb : b ≠ 0) : 0 < d * b * b := by rw [Int.mul_assoc]; exact Int.mul_pos (by omega) (sq_pos hb)
def nrm (d a b : Int) : Int := a * a - d * b * b
theorem nrm_zero {d a b : Int} (h : Rt d) (e : nrm d a b = 0) : a = 0 ∧ b = 0 := by
  unfold nrm at e
  have hb := irr (a := a) (b := b) h (by omega)
  subst hb
  rw [Int.mul_zero] at e
  refine ⟨?_, rfl⟩
  rcases Int.lt_trichotomy a 0 with q | q | q
  · have := Int.mul_pos_of_neg_of_neg q q; omega
  · exact q
  · have := Int.mul_pos q q; omega
def sg (x : Int) : Int := if 0 < x then 1 else if x < 0 then -1 else 0
theorem sgn_pos {d a b : Int} (h : Rt d) (n : 0 < nrm d a b) : sgn d a b = sg a := by
  unfold nrm at n
  have ha : a ≠ 0 := fun z => by
    subst z
    by_cases hb : b = 0
    · subst hb; simp at n
    · have := dsq_pos h.lo hb
      omega
  unfold sgn sg
  repeat' split
  all_goals omega
theorem sgn_neg' {d a b : Int} (h : Rt d) (n : nrm d a b < 0) : sgn d a b = sg b := by
  unfold nrm at n
  have hb : b ≠ 0 := fun z => by
    subst z
    rw [Int.mul_zero] at n
    by_cases ha : a = 0
    · subst ha; simp at n
    · have := sq_pos ha
      omega
  unfold sgn sg
  repeat' split
  all_goals omega
theorem sgn_zero (d : Int) : sgn d 0 0 = 0 := by simp [sgn]
theorem nrm_tri {d a b : Int} (h : Rt d) : (0 < nrm d a b) ∨ (nrm d a b < 0) ∨ (a = 0 ∧ b = 0) := by
  rcases Int.lt_trichotomy (nrm d a b) 0 with q | q | q
  · exact .inr (.inl q)
  · exact .inr (.inr (nrm_zero h q))
  · exact .inl q
theorem sg_neg (x : Int) : sg (-x) = - sg x := by unfold sg; repeat' split <;> omega
theorem nrm_neg (d a b : Int) : nrm d (-a) (-b) = nrm d a b := by unfold nrm; rw [Int.neg_mul_neg, Int.mul_assoc, Int.neg_mul_neg, ← Int.mul_assoc]
theorem sgn_neg {d : Int} (h : Rt d) (a b : Int) : sgn d (-a) (-b) = - sgn d a b := by
  rcases nrm_tri (a := a) (b := b) h with q | q | ⟨rfl, rfl⟩
  · rw [sgn_pos h q, sgn_pos h (by rw [nrm_neg]; exact q), sg_neg]
  · rw [sgn_neg' h q, sgn_neg' h (by rw [nrm_neg]; exact q), sg_neg]
  · rfl
theorem sg_cases (x : Int) : (0 < x ∧ sg x = 1) ∨ (x < 0 ∧ sg x = -1) ∨ (x = 0 ∧ sg x = 0) := by unfold sg; repeat' split <;> omega
theorem sg_mul_pos {k : Int} (hk : 0 < k) (x : Int) : sg (k * x) = sg x := by
  rcases sg_cases x with ⟨q, e⟩ | ⟨q, e⟩ | ⟨q, e⟩
  · have := Int.mul_pos hk q
    rw [e]; unfold sg; rw [if_pos this]
  · have := Int.mul_neg_of_pos_of_neg hk q
    rw [e]; unfold sg; rw [if_neg (by omega), if_pos this]
  · subst q; simp
theorem nrm_mul (d k a b : Int) : nrm d (k * a) (k * b) = k * k * nrm d a b := by
  unfold nrm
  rw [Int.mul_sub]
  congr 1
  · simp only [Int.mul_assoc, Int.mul_left_comm]
  · simp only [Int.mul_assoc, Int.mul_left_comm, Int.mul_comm d]
theorem sgn_scale {d k : Int} (h : Rt d) (hk : 0 < k) (a b : Int) : sgn d (k * a) (k * b) = sgn d a b := by
  have kk : 0 < k * k := Int.mul_pos hk hk
  rcases nrm_tri (a := a) (b := b) h with q | q | ⟨rfl, rfl⟩
  · rw [sgn_pos h q, sgn_pos h (by rw [nrm_mul]; exact Int.mul_pos kk q), sg_mul_pos hk]
  · rw [sgn_neg' h q, sgn_neg' h (by rw [nrm_mul]; exact Int.mul_neg_of_pos_of_neg kk q), sg_mul_pos hk]
  · simp
theorem sgn_same {d k m a b a' b' : Int} (h : Rt d) (hk : 0 < k) (hm : 0 < m) (ea : k * a = m * a') (eb : k * b = m * b') : sgn d a b = sgn d a' b' := by
  rw [← sgn_scale h hk a b, ← sgn_scale h hm a' b', ea, eb]
theorem nrm_prod (d a b a' b' : Int) : nrm d (a * a' + d * b * b') (a * b' + b * a') = nrm d a b * nrm d a' b' := by
  unfold nrm
  simp only [Int.mul_add, Int.add_mul, Int.mul_sub, Int.sub_mul]
  have e1 : a * a' * (a * a') = a * a * (a' * a') := by simp only [Int.mul_assoc, Int.mul_left_comm]
  have e2 : d * b * b' * (d * b * b') = d * b * b * (d * b' * b') := by simp only [Int.mul_assoc, Int.mul_left_comm]
  have e3 : d * (a * b') * (a * b') = a * a * (d * b' * b') := by simp only [Int.mul_assoc, Int.mul_left_comm]
  have e4 : d * (b * a') * (b * a') = d * b * b * (a' * a') := by simp only [Int.mul_assoc, Int.mul_left_comm, Int.mul_comm]
  have e5 : d * b * b' * (a * a') = d * (b * a') * (a * b') := by simp only [Int.mul_assoc, Int.mul_left_comm, Int.mul_comm]
  have e6 : a * a' * (d * b * b') = d * (a * b') * (b * a') := by simp only [Int.mul_assoc, Int.mul_left_comm, Int.mul_comm]
  omega
theorem abs_lt_sq {x y : Int} (hx : 0 < x) (h : y * y < x * x) : -x < y ∧ y < x := by
  constructor
  · refine Int.lt_of_not_ge fun z => ?_
    have : x * x ≤ (-y) * (-y) := Int.mul_le_mul (by omega) (by omega) (by omega) (by omega)
    rw [Int.neg_mul_neg] at this
    omega
  · refine Int.lt_of_not_ge fun z => ?_
    have : x * x ≤ y * y := Int.mul_le_mul z z (by omega) (by omega)
    omega
theorem mul_lt_mul4 {p q r s : Int} (h1 : p < q) (h2 : r < s) (hp : 0 ≤ p) (hr : 0 ≤ r) : p * r < q * s := by
  have a1 : p * r ≤ p * s := Int.mul_le_mul_of_nonneg_left (by omega) hp
  have a2 : p * s < q * s := Int.mul_lt_mul_of_pos_right h1 (by omega)
  omega
theorem sq_nn (x : Int) : 0 ≤ x * x := by
  by_cases h : x = 0
  · subst h; simp
  · exact Int.le_of_lt (sq_pos h)
theorem dsq_nn {d : Int} (h : 2 ≤ d) (x : Int) : 0 ≤ d * x * x := by rw [Int.mul_assoc]; exact Int.mul_nonneg (by omega) (sq_nn x)
theorem sgn_pp {d a b a' b' : Int} (h : Rt d) (h1 : sgn d a b = 1) (h2 : sgn d a' b' = 1) : sgn d (a * a' + d * b * b') (a * b' + b * a') = 1 := by
  have hd := h.lo
  have np := nrm_prod d a b a' b'
  rcases nrm_tri (a := a) (b := b) h with q | q | ⟨rfl, rfl⟩
  · have sa : 0 < a := by rw [sgn_pos h q] at h1; unfold sg at h1; split at h1 <;> omega
    rcases nrm_tri (a := a') (b := b') h with q' | q' | ⟨rfl, rfl⟩
    · have sa' : 0 < a' := by rw [sgn_pos h q'] at h2; unfold sg at h2; split at h2 <;> omega
      have n : 0 < nrm d (a * a' + d * b * b') (a * b' + b * a') := by rw [np]; exact Int.mul_pos q q'
      rw [sgn_pos h n]
      unfold nrm at q q'
      have k := mul_lt_mul4 (p := d * b * b) (q := a * a) (r := d * b' * b') (s := a' * a') (by omega) (by omega) (dsq_nn hd b) (dsq_nn hd b')
      have e1 : d * b * b * (d * b' * b') = (d * b * b') * (d * b * b') := by simp only [Int.mul_assoc, Int.mul_left_comm]
      have e2 : a * a * (a' * a') = a * a' * (a * a') := by simp only [Int.mul_assoc, Int.mul_left_comm]
      rw [e1, e2] at k
      have := (abs_lt_sq (Int.mul_pos sa sa') k).1
      unfold sg
      rw [if_pos (by omega)]
    · have sb' : 0 < b' := by rw [sgn_neg' h q'] at h2; unfold sg at h2; split at h2 <;> omega
      have n : nrm d (a * a' + d * b * b') (a * b' + b * a') < 0 := by rw [np]; exact Int.mul_neg_of_pos_of_neg q q'
      rw [sgn_neg' h n]
      unfold nrm at q q'
      have k := mul_lt_mul4 (p := d * b * b) (q := a * a) (r := a' * a') (s := d * b' * b') (by omega) (by omega) (dsq_nn hd b) (sq_nn a')
      have e1 : d * b * b * (a' * a') = d * (b * a' * (b * a')) := by simp only [Int.mul_assoc, Int.mul_left_comm]
      have e2 : a * a * (d * b' * b') = d * (a * b' * (a * b')) := by simp only [Int.mul_assoc, Int.mul_left_comm]
      rw [e1, e2] at k
      have k' := Int.lt_of_mul_lt_mul_left k (by omega)
      have := (abs_lt_sq (Int.mul_pos sa sb') k').1
      unfold sg
      rw [if_pos (by omega)]
    · rw [sgn_zero] at h2; omega
  · have sb : 0 < b := by rw [sgn_neg' h q] at h1; unfold sg at h1; split at h1 <;> omega
    rcases nrm_tri (a := a') (b := b') h with q' | q' | ⟨rfl, rfl⟩
    · have sa' : 0 < a' := by rw [sgn_pos h q'] at h2; unfold sg at h2; split at h2 <;> omega
      have n : nrm d (a * a' + d * b * b') (a * b' + b * a') < 0 := by rw [np]; exact Int.mul_neg_of_neg_of_pos q q'
      rw [sgn_neg' h n]
      unfold nrm at q q'
      have k := mul_lt_mul4 (p := a * a) (q := d * b * b) (r := d * b' * b') (s := a' * a') (by omega) (by omega) (sq_nn a) (dsq_nn hd b')
      have e1 : a * a * (d * b' * b') = d * (a * b' * (a * b')) := by simp only [Int.mul_assoc, Int.mul_left_comm]
      have e2 : d * b * b * (a' * a') = d * (b * a' * (b * a')) := by simp only [Int.mul_assoc, Int.mul_left_comm]
      rw [e1, e2] at k
      have k' := Int.lt_of_mul_lt_mul_left k (by omega)
      have := (abs_lt_sq (Int.mul_pos sb sa') k').1
      unfold sg
      rw [if_pos (by omega)]
    · have sb' : 0 < b' := by rw [sgn_neg' h q'] at h2; unfold sg at h2; split at h2 <;> omega
      have n : 0 < nrm d (a * a' + d * b * b') (a * b' + b * a') := by rw [np]; exact Int.mul_pos_of_neg_of_neg q q'
      rw [sgn_pos h n]
      unfold nrm at q q'
      have k := mul_lt_mul4 (p := a * a) (q := d * b * b) (r := a' * a') (s := d * b' * b') (by omega) (by omega) (sq_nn a) (sq_nn a')
      have e1 : a * a * (a' * a') = a * a' * (a * a') := by simp only [Int.mul_assoc, Int.mul_left_comm]
      have e2 : d * b * b * (d * b' * b') = (d * b * b') * (d * b * b') := by simp only [Int.mul_assoc, Int.mul_left_comm]
      rw [e1, e2] at k
      have := (abs_lt_sq (Int.mul_pos (Int.mul_pos (by omega) sb) sb') k).1
      unfold sg
      rw [if_pos (by omega)]
    · rw [sgn_zero] at h2; omega
  · rw [sgn_zero] at h1; omega
theorem sgn_tri {d : Int} (h : Rt d) (a b : Int) : sgn d a b = 1 ∨ sgn d a b = -1 ∨ (a = 0 ∧ b = 0) := by
  rcases nrm_tri (a := a) (b := b) h with q | q | q
  · have ha : a ≠ 0 := fun z => by
      subst z
      unfold nrm at q
      have := dsq_nn h.lo b
      omega
    rw [sgn_pos h q]
    rcases sg_cases a with ⟨_, e⟩ | ⟨_, e⟩ | ⟨e, _⟩
    · exact .inl e
    · exact .inr (.inl e)
    · exact absurd e ha
  · have hb : b ≠ 0 := fun z => by
      subst z
      unfold nrm at q
      rw [Int.mul_zero] at q
      have := sq_nn a
      omega
    rw [sgn_neg' h q]
    rcases sg_cases b with ⟨_, e⟩ | ⟨_, e⟩ | ⟨e, _⟩
    · exact .inl e
    · exact .inr (.inl e)
    · exact absurd e hb
  · exact .inr (.inr q)
theorem sgn_prod {d a b a' b' : Int} (h : Rt d) : sgn d (a * a' + d * b * b') (a * b' + b * a') = sgn d a b * sgn d a' b' := by
  have neg1 : ∀ a b, sgn d a b = -1 → sgn d (-a) (-b) = 1 := fun a b e => by rw [sgn_neg h, e]; rfl
  rcases sgn_tri h a b with p | p | ⟨rfl, rfl⟩
  · rcases sgn_tri h a' b' with q | q | ⟨rfl, rfl⟩
    · rw [sgn_pp h p q, p, q]; rfl
    · have := sgn_pp h p (neg1 _ _ q)
      have e1 : a * -a' + d * b * -b' = -(a * a' + d * b * b') := by rw [Int.mul_neg, Int.mul_neg, Int.neg_add]
      have e2 : a * -b' + b * -a' = -(a * b' + b * a') := by rw [Int.mul_neg, Int.mul_neg, Int.neg_add]
      rw [e1, e2, sgn_neg h] at this
      rw [p, q]; omega
    · simp [sgn_zero]
  · rcases sgn_tri h a' b' with q | q | ⟨rfl, rfl⟩
    · have := sgn_pp h (neg1 _ _ p) q
      have e1 : -a * a' + d * -b * b' = -(a * a' + d * b * b') := by rw [Int.neg_mul, Int.mul_neg, Int.neg_mul, Int.neg_add]
      have e2 : -a * b' + -b * a' = -(a * b' + b * a') := by rw [Int.neg_mul, Int.neg_mul, Int.neg_add]
      rw [e1, e2, sgn_neg h] at this
      rw [p, q]; omega
    · have := sgn_pp h (neg1 _ _ p) (neg1 _ _ q)
      have e1 : -a * -a' + d * -b * -b' = a * a' + d * b * b' := by rw [Int.neg_mul_neg, Int.mul_assoc d, Int.neg_mul_neg, ← Int.mul_assoc]
      have e2 : -a * -b' + -b * -a' = a * b' + b * a' := by rw [Int.neg_mul_neg, Int.neg_mul_neg]
      rw [e1, e2] at this
      rw [this, p, q]; rfl
    · simp [sgn_zero]
  · simp [sgn_zero]
end Bg
namespace Bg
theorem sgn_nn {d a b : Int} (h : 0 ≤ a) (k : 0 ≤ b) : sgn d a b = if 0 < a + b then 1 else 0 := by unfold sgn; rw [if_pos ⟨h, k⟩]
theorem sgn_np {d a b : Int} (n : ¬ (0 ≤ a ∧ 0 ≤ b)) (h : a ≤ 0) (k : b ≤ 0) : sgn d a b = -1 := by unfold sgn; rw [if_neg n, if_pos ⟨h, k⟩]
theorem sgn_pa {d a b : Int} (h : 0 < a) (k : b < 0) : sgn d a b = if d * b * b < a * a then 1 else -1 := by unfold sgn; rw [if_neg (by omega), if_neg (by omega), if_pos h]
theorem sgn_pb {d a b : Int} (h : a < 0) (k : 0 < b) : sgn d a b = if a * a < d * b * b then 1 else -1 := by unfold sgn; rw [if_neg (by omega), if_neg (by omega), if_neg (by omega)]
end Bg
namespace L2
open PySem PySem.Spec PyProof.Rows Bg
theorem closure_aux (env : Env) : ∀ (names : List (Str × NameKind)) (acc : List (Str × Addr)), (∀ y ∈ names, y.2 = .free → ∃ c, env.cells.lookup y.1 = some c) → (∀ x c, acc.lookup x = some c → env.cells.lookup x = some c) →
    ∃ cl, (forIn names acc (fun (x : Str × NameKind) (r : List (Str × Addr)) => if (x.snd == NameKind.free) = true then do
                  let a ← cellOf env x.fst
                  pure (ForInStep.yield ((x.fst, a) :: r))
                else pure (ForInStep.yield r)) : Sem (List (Str × Addr))) = pure cl ∧ (∀ x c, cl.lookup x = some c → env.cells.lookup x = some c) ∧
      ∀ x, ((∃ c, acc.lookup x = some c) ∨ ∃ y ∈ names, y.1 = x ∧ y.2 = .free) → ∃ c, cl.lookup x = some c
  | [], acc, _, ha => ⟨acc, rfl, ha, fun x h => by
      rcases h with h | ⟨y, hy, _⟩
      · exact h
      · simp at hy⟩
  | y :: r, acc, hn, ha => by
    by_cases hf : y.2 = .free
    · obtain ⟨c, hc⟩ := hn y List.mem_cons_self hf
      obtain ⟨cl, e, h1, h2⟩ := closure_aux env r ((y.1, c) :: acc) (fun z hz => hn z (List.mem_cons_of_mem _ hz)) (fun x d hx => by
        rw [List.lookup_cons] at hx
        split at hx
        · rename_i q
          have q' : x = y.1 := by simpa using q
          rw [q', hc]; exact hx
        · exact ha x d hx)
      refine ⟨cl, ?_, h1, fun x h => h2 x ?_⟩
      · rw [List.forIn_cons, if_pos (by rw [hf]; rfl)]
        unfold cellOf
        rw [hc]
        exact e
      · by_cases q : x = y.1
        · exact .inl ⟨c, by rw [List.lookup_cons, q]; simp⟩
        · rcases h with ⟨d, hd⟩ | ⟨z, hz, e1, e2⟩
          · exact .inl ⟨d, by
              rw [List.lookup_cons]
              have : (x == y.1) = false := by simpa using q
              rw [this]; exact hd⟩
          · rcases List.mem_cons.mp hz with e3 | e3
            · subst e3; exact absurd e1.symm q
            · exact .inr ⟨z, e3, e1, e2⟩
    · obtain ⟨cl, e, h1, h2⟩ := closure_aux env r acc (fun z hz => hn z (List.mem_cons_of_mem _ hz)) ha
      refine ⟨cl, ?_, h1, fun x h => h2 x ?_⟩
      · rw [List.forIn_cons, if_neg (by simpa using hf)]
        exact e
      · rcases h with h | ⟨z, hz, e1, e2⟩
        · exact .inl h
        · rcases List.mem_cons.mp hz with e3 | e3
          · subst e3; exact absurd e2 hf
          · exact .inr ⟨z, e3, e1, e2⟩
theorem closure_of {scope : Scope} {env : Env} (h : ∀ y ∈ scope.names, y.2 = .free → ∃ c, env.cells.lookup y.1 = some c) :
    ∃ cl, closureFor scope env = pure cl ∧ (∀ x c, cl.lookup x = some c → env.cells.lookup x = some c) ∧ ∀ y ∈ scope.names, y.2 = .free → ∃ c, cl.lookup y.1 = some c := by
  obtain ⟨cl, e, h1, h2⟩ := closure_aux env scope.names [] h (fun x c q => by simp at q)
  refine ⟨cl, ?_, h1, fun y hy hf => h2 y.1 (.inr ⟨y, hy, rfl, hf⟩)⟩
  exact congrArg (fun z : Sem (List (Str × Addr)) => z >>= fun cs => pure cs) e
section
variable {prog : Program} {w : World} {A : Around} {R : Result → Shared → Prop} {s : Shared}
abbrev NoX : Value → Shared → Prop := fun _ _ => False
theorem codeAny_compLoop_go {elt target iter : Expr} {ifs : List Expr} {scope : Scope} {pos : Pos} {it acc : Value} {env : Env} (I : Nat → Shared → Prop)
    (turn : ∀ n s, I n s → wpAny (model prog w) A (pyNext it) (fun r s₁ => match r with
      | none => R (.ok .next) s₁
      | some v => wpAny (model prog w) A (letOwnedTupleGo target it v) (fun _ s₁' => wpAny (model prog w) A (assign target env v) (fun _ s₂ =>
          wpAny (model prog w) A (forIn ifs true fun c r => if r = true then do let ok ← isTrue c env (eval c env); pure (ForInStep.yield ok) else pure (ForInStep.yield r)) (fun ok s₃ =>
            if ok = true then wpAny (model prog w) A (eval elt env) (fun x s₄ =>
              wpAny (model prog w) A (call (.builtin "list.append") [acc, x]) (fun _ s₅ => ∃ m, m < n ∧ I m s₅) NoX s₄) NoX s₃
            else ∃ m, m < n ∧ I m s₃) NoX s₂) NoX s₁') NoX s₁) NoX s)
    (n : Nat) (h : I n s) :
    codeAny (model prog w) A (.compLoop (.ListComp elt [⟨target, iter, ifs, 0⟩] scope pos) 0 it acc env) R s := by
  refine codeAny_loop rfl I (fun n s hI => ?_) n h
  show wpAny _ A ((compTurn (.ListComp elt [⟨target, iter, ifs, 0⟩] scope pos) 0 it acc env).onRaise (fun x => do noteFrame x env; theTreesLotGoes x)) _ _ s
  refine wpAny_noted ?_
  rw [compTurn_list]
  refine wpAny_bind (wpAny_standAt (wpAny_bind (wpAny_mono (turn n s hI) (fun r s₁ h₁ => ?_) fun _ _ h' => h'.elim)))
  cases r with
  | none => exact wpAny_pure h₁
  | some v =>
    refine wpAny_bind (wpAny_mono h₁ (fun _ s₁' h₁' => ?_) fun _ _ h' => h'.elim)
    refine wpAny_bind (wpAny_mono h₁' (fun _ s₂ h₂ => wpAny_bind (wpAny_mono h₂ (fun ok s₃ h₃ => ?_) fun _ _ h' => h'.elim)) fun _ _ h' => h'.elim)
    cases ok with
    | false => exact wpAny_pure ⟨rfl, h₃⟩
    | true =>
      exact wpAny_bind (wpAny_bind (wpAny_mono h₃ (fun x s₄ h₄ => wpAny_bind (wpAny_mono h₄ (fun _ s₅ h₅ => wpAny_pure (wpAny_pure ⟨rfl, h₅⟩)) fun _ _ h' => h'.elim)) fun _ _ h' => h'.elim))
end
end L2
namespace L2
open PySem PySem.Spec PyProof.Rows Bg
theorem lookup_relabel_free {env : Env} (hk : env.scope.kind = .function) : ∀ {names : List (Str × NameKind)} {x : Str}, names.lookup x = some .free → env.kindOf x = some .cell →
    (names.map fun (n, k) => if (k == NameKind.free && env.scope.kind == .function && env.kindOf n == some .cell) then (n, NameKind.cell) else (n, k)).lookup x = some .cell
  | [], _, h, _ => by simp at h
  | (n, k) :: r, x, h, he => by
    have ih := @lookup_relabel_free env hk r x
    show List.lookup x ((if (k == NameKind.free && env.scope.kind == .function && env.kindOf n == some .cell) = true then (n, NameKind.cell) else (n, k)) :: _) = _
    cases hx : x == n with
    | true =>
      simp only [List.lookup_cons, hx] at h
      cases h
      have hxn : x = n := by simpa using hx
      subst hxn
      have hc : (NameKind.free == NameKind.free && env.scope.kind == .function && env.kindOf x == some .cell) = true := by rw [hk, he]; rfl
      rw [if_pos hc]
      simp [List.lookup_cons]
    | false =>
      simp only [List.lookup_cons, hx] at h
      by_cases hc : (k == NameKind.free && env.scope.kind == .function && env.kindOf n == some .cell) = true
      · rw [if_pos hc]; simp only [List.lookup_cons, hx]; exact ih h he
      · rw [if_neg hc]; simp only [List.lookup_cons, hx]; exact ih h he
theorem of_relabel {env : Env} : ∀ {names : List (Str × NameKind)} {x : Str} {k : NameKind}, (∀ y ∈ names, y.2 ≠ .cell) → (k = .cell ∨ k = .free) →
    (names.map fun (n, k) => if (k == NameKind.free && env.scope.kind == .function && env.kindOf n == some .cell) then (n, NameKind.cell) else (n, k)).lookup x = some k → ∃ y ∈ names, y.1 = x ∧ y.2 = .free
  | [], _, _, _, _, h => by simp at h
  | (n, k) :: r, x, k', hn, hk, h => by
    have h' : List.lookup x ((if (k == NameKind.free && env.scope.kind == .function && env.kindOf n == some .cell) = true then (n, NameKind.cell) else (n, k)) :: _) = some k' := h
    have ih := @of_relabel env r x k' (fun y hy => hn y (List.mem_cons_of_mem _ hy)) hk
    have kn : k ≠ .cell := hn (n, k) List.mem_cons_self
    by_cases hc : (k == NameKind.free && env.scope.kind == .function && env.kindOf n == some .cell) = true
    · rw [if_pos hc, List.lookup_cons] at h'
      have kf : k = .free := by
        rw [Bool.and_eq_true, Bool.and_eq_true] at hc
        simpa using hc.1.1
      cases hx : x == n with
      | true =>
        have hxn : x = n := by simpa using hx
        exact ⟨(n, k), List.mem_cons_self, hxn.symm, kf⟩
      | false =>
        rw [hx] at h'
        obtain ⟨y, hy, q⟩ := ih h'
        exact ⟨y, List.mem_cons_of_mem _ hy, q⟩
    · rw [if_neg hc, List.lookup_cons] at h'
      cases hx : x == n with
      | true =>
        have hxn : x = n := by simpa using hx
        rw [hx] at h'
        have e : k = k' := Option.some.inj h'
        refine ⟨(n, k), List.mem_cons_self, hxn.symm, ?_⟩
        rcases hk with q | q
        · exact absurd (e.trans q) kn
        · exact e.trans q
      | false =>
        rw [hx] at h'
        obtain ⟨y, hy, q⟩ := ih h'
        exact ⟨y, List.mem_cons_of_mem _ hy, q⟩
theorem sc_free {scope : Scope} {ns : List (Str × NameKind)} (h : (scope.names.all fun y => y.2 != .free || ns.lookup y.1 == some .cell) = true) : ∀ y ∈ scope.names, y.2 = .free → ns.lookup y.1 = some .cell := fun y hy hf => by
  have := List.all_eq_true.mp h y hy
  rw [hf] at this
  simpa using this
theorem sc_js {scope : Scope} {ns : List (Str × NameKind)} {N : List Str} {js : List Nat} (h : (js.all fun j => scope.names.lookup (N.getD j Str.empty) == some .free && ns.lookup (N.getD j Str.empty) == some .cell) = true) : ∀ j ∈ js, scope.names.lookup (N.getD j Str.empty) = some .free ∧ ns.lookup (N.getD j Str.empty) = some .cell := fun j hj => by
  have := List.all_eq_true.mp h j hj
  rw [Bool.and_eq_true] at this
  exact ⟨eq_of_beq this.1, eq_of_beq this.2⟩
theorem sc_cell {scope : Scope} (h : (scope.names.all fun y => y.2 != .cell) = true) : ∀ y ∈ scope.names, y.2 ≠ .cell := fun y hy => by
  have := List.all_eq_true.mp h y hy
  simpa using this
theorem sc_names {scope : Scope} (h : (scope.names.all fun y => y.2 != .local || scope.names.lookup y.1 == some .local) = true) : ∀ y ∈ scope.names, y.2 = .local → scope.names.lookup y.1 = some .local := fun y hy hf => by
  have := List.all_eq_true.mp h y hy
  rw [hf] at this
  simpa using this
def inner (n : Nat) (js : List Nat) (σ : St) : St := List.replicate n none ++ js.map fun j => (σ[j]?).join
def cxComp (X : Cx) (scope : Scope) (cl : List (Str × Addr)) (own : List Str) (js : List Nat) (fp : List Addr) (C : Addr) (s3 : Shared) (H3 : Hp) : Cx :=
  { X with N := own ++ js.map (fun j => X.N.getD j Str.empty), s₀ := s3, H₀ := H3, env := compEnvC scope cl C X.env, outer := X.stack, ex := fp, fn := fun _ => false, pn := [], xe := fun _ _ => False }
def PIfs (X : Cx) (ifs : List Expr) (t : TT) : Prop := ∀ (pins : List (Addr × Obj)) (s : Shared) (σ : St) (H : Hp) (Q : Bool → Hp → Prop), Inv X pins σ H s → t σ H Q →
  wpAny (model X.prog X.w) X.A (forIn ifs true fun c r => if r = true then do let ok ← isTrue c X.env (eval c X.env); pure (ForInStep.yield ok) else pure (ForInStep.yield r)) (TP X pins σ Q) X.xe s
def tAll : TT := fun _ H B => B true H
theorem pifs_nil {X : Cx} : PIfs X [] tAll := fun _ _ _ H _ I h => wpAny_tests_nil ⟨H, I, h⟩
theorem pifs_one {X : Cx} {c : Expr} {t : TT} (h : PT X c t) : PIfs X [c] t := fun pins s σ H Q I q => wpAny_tests_one (h pins s σ H Q I q)
def tComp (wi : TI) (g : TG) (tc : TT) (te : TE) (n : Nat) (js : List Nat) : TE := fun σ H Q => wi σ H fun J H1 => ∀ D, H1 D = none → ∃ W : Nat → Nat → St → Hp → Prop, (∃ m, W 0 m (inner n js σ) (upd H1 D (.lst []))) ∧
  ∀ i m σ' H', W i m σ' H' → (J.stop i H' ∧ Q (.ref D) H') ∨ (J.go i H' ∧ ∀ x H2, J.yld i H' x H2 → g x σ' H2 fun σ3 H3 => tc σ3 H3 fun b H4 =>
    if b = true then te σ3 H4 fun v H5 => rAppend (.ref D) [v] H5 fun _ H6 => ∃ m', m' < m ∧ W (i + 1) m' σ3 H6 else ∃ m', m' < m ∧ W (i + 1) m' σ3 H4)
section
variable {X : Cx} {pins : List (Addr × Obj)} {σ : St} {H : Hp} {s : Shared} {scope : Scope} {cl : List (Str × Addr)} {own : List Str} {js : List Nat} {fp : List Addr}
theorem cxComp_ok (I : Inv X pins σ H s) (hkind : scope.kind = .function) (hcell : ∀ y ∈ scope.names, y.2 ≠ .cell) (cl1 : ∀ x c, cl.lookup x = some c → X.env.cells.lookup x = some c) (cl2 : ∀ y ∈ scope.names, y.2 = .free → ∃ c, cl.lookup y.1 = some c)
    (hf : ∀ b ∈ fp, FpOk X pins H b) (hl : ∀ b ∈ fp, b < s.heap.objs.size) : (cxComp X scope cl own js fp s.heap.objs.size s H).Ok := by
  have hno : ∀ b o, X.base.get? b = some o → b ∉ fp := fun b o e hb => by
    rcases (hf b hb).2.2.2.1 with z | z
    · exact I.ok.noex b o e z
    · exact absurd (Nat.lt_of_lt_of_le (Heap.lt_size e) (Nat.le_trans I.ok.bsz z)) (Nat.lt_irrefl _)
  have hex : ∀ b ∈ fp, b ∉ frs X.stack := fun b hb z => by
    rcases List.mem_cons.mp (I.stkSub b z) with e | e
    · exact (hf b hb).2.1 e
    · exact (hf b hb).2.2.1 e
  exact ⟨I.ok.mod, hkind, I.ok.glob, I.ok.blt, Nat.le_refl _, fun x y c h1 h2 => I.ok.inj x y c (cl1 x c h1) (cl1 y c h2),
    fun x hx => by
      have hx' : (∃ k, (k = NameKind.cell ∨ k = .free) ∧ (relabel scope X.env).names.lookup x = some k) := by
        rcases hx with z | z
        · exact ⟨_, .inl rfl, z⟩
        · exact ⟨_, .inr rfl, z⟩
      obtain ⟨k, hk, z⟩ := hx'
      obtain ⟨y, hy, e1, e2⟩ := of_relabel hcell hk z
      obtain ⟨c, hc⟩ := cl2 y hy e2
      exact ⟨c, by rw [← e1]; exact hc⟩,
    fun x c h _ => absurd h (by show ¬ (false = true); decide), I.ok.hd, I.ok.frames, .inl rfl,
    fun b hb => ⟨Nat.ne_of_lt (hl b hb), fun x c e => (hf b hb).2.2.2.2.1 x c (cl1 x c e)⟩,
    I.bs, Nat.le_trans I.ok.bsz I.sz, hno, hex, I.stack, I.stkFree⟩
theorem inv_comp {h₁ : Heap} {m : Str → Option Value} {t' : Nat} (I : Inv X pins σ H s) (hkind : scope.kind = .function) (hcell : ∀ y ∈ scope.names, y.2 ≠ .cell) (cl1 : ∀ x c, cl.lookup x = some c → X.env.cells.lookup x = some c) (cl2 : ∀ y ∈ scope.names, y.2 = .free → ∃ c, cl.lookup y.1 = some c)
    (hjs : ∀ j ∈ js, scope.names.lookup (X.N.getD j Str.empty) = some .free ∧ X.env.scope.names.lookup (X.N.getD j Str.empty) = some .cell)
    (hf : ∀ b ∈ fp, FpOk X pins H b) (hl : ∀ b ∈ fp, b < s.heap.objs.size) (hn : h₁.Ns s.heap.objs.size m) (k : ∀ b o, s.heap.get? b = some o → h₁.get? b = some o) :
    Inv (cxComp X scope cl own js fp s.heap.objs.size s H) [] (inner own.length js σ) H { s with heap := h₁, toks := t' } := by
  refine ⟨cxComp_ok I hkind hcell cl1 cl2 hf hl, rfl, I.bare, Un.kept k, ⟨m, hn, fun i x v h1 h2 h3 => ?_⟩, fun x c e => ?_, I.hok.fresh (Nat.le_refl _), fun x c e => I.freeC x c (cl1 x c e), fun p hp => absurd (show p ∈ ([] : List (Addr × Obj)) from hp) (by simp), I.hok.kept k, ?_⟩
  · have hi : own.length ≤ i := by
      unfold inner at h2
      by_cases z : i < own.length
      · rw [List.getElem?_append_left (by simpa using z), List.getElem?_replicate, if_pos z] at h2
        cases h2
      · omega
    unfold inner at h2
    rw [List.getElem?_append_right (by simpa using hi), List.length_replicate, List.getElem?_map] at h2
    have h1' : (own ++ js.map (fun j => X.N.getD j Str.empty))[i]? = some x := h1
    rw [List.getElem?_append_right hi, List.getElem?_map] at h1'
    cases ej : js[i - own.length]? with
    | none => rw [ej] at h2; cases h2
    | some j =>
      rw [ej] at h2 h1'
      have ex : X.N.getD j Str.empty = x := Option.some.inj h1'
      have ev : (σ[j]?).join = some v := Option.some.inj h2
      have ev' : σ[j]? = some (some v) := by
        cases q : σ[j]? with
        | none => rw [q] at ev; cases ev
        | some z => rw [q] at ev; rw [show z = some v from ev]
      have hjl : j < X.N.length := by
        rw [← I.len]
        exact (List.getElem?_eq_some_iff.mp ev').1
      have eN : X.N[j]? = some x := by
        rw [← ex, List.getD_eq_getElem?_getD, List.getElem?_eq_getElem hjl]
        rfl
      obtain ⟨f1, f2⟩ := hjs j (List.mem_of_getElem? ej)
      rw [ex] at f1 f2
      obtain ⟨mm, hnn, hll⟩ := I.loc
      obtain ⟨u, r, lk⟩ := hll j x v eN ev' (.inr (.inl f2))
      refine ⟨u, r, ?_⟩
      rcases lk with ⟨q, _⟩ | ⟨_, c, e, ic⟩
      · rw [show X.env.kindOf x = some .cell from f2] at q; cases q
      · obtain ⟨y, hy, e1, e2⟩ : ∃ y ∈ scope.names, y.1 = x ∧ y.2 = .free := ⟨_, PySem.mem_of_lookup f1, rfl, rfl⟩
        obtain ⟨c', hc'⟩ := cl2 y hy e2
        rw [e1] at hc'
        have : c' = c := by
          have := cl1 x c' hc'
          rw [e] at this
          exact (Option.some.inj this).symm
        subst this
        obtain ⟨o, ho, hd⟩ := ic
        exact .inr ⟨.inl (lookup_relabel_free I.ok.kind f1 f2), c', hc', ⟨o, k _ _ ho, hd⟩⟩
  · obtain ⟨v, o, ho, hd⟩ := I.cell x c (cl1 x c e)
    exact ⟨v, o, k _ _ ho, hd⟩
  · show _ = (own ++ js.map _).length
    unfold inner
    simp
theorem comp_left {H' : Hp} {σ' : St} {s' : Shared} {h' : Heap} (I : Inv X pins σ H s) (hf : ∀ b ∈ fp, FpOk X pins H b) (I' : Inv (cxComp X scope cl own js fp s.heap.objs.size s H) [] σ' H' s') (sb : Heap.SameBut s.heap.objs.size s'.heap h') : Inv X pins σ H' { s' with heap := h' } := by
  have u := I'.base
  have ne : ∀ b o, s.heap.get? b = some o → b ≠ s.heap.objs.size := fun b o e => Nat.ne_of_lt (Heap.lt_size e)
  refine I.call' (ch := fp) I'.os ⟨fun b o e n hb hx => ?_, fun b o e n hb hx => ?_, u.free, fun b o e hx => ?_, u.tups, u.frzs, u.tbls⟩ (fun b o e => ?_) I'.bare fun b hb => ⟨(hf b hb).2.2.2.1, (hf b hb).2.1, (hf b hb).2.2.2.2.1, (hf b hb).2.2.2.2.2⟩
  · exact (sb.2 b (ne b o e)).trans (u.keep b o e n hb hx)
  · obtain ⟨sl, z⟩ := u.slot b o e n hb hx
    exact ⟨sl, (sb.2 b (ne b o e)).trans z⟩
  · obtain ⟨o', z⟩ := u.there b o e hx
    exact ⟨o', (sb.2 b (ne b o e)).trans z⟩
  · have hfr : H' s.heap.objs.size = none := I'.free
    refine (I'.hok b o e).stay (fun c v hc q => (sb.2 c ?_).trans q) (fun _ q => q) fun _ _ q => q
    rintro rfl
    rcases hc with rfl | hc
    · rw [hfr] at e; cases e
    · rw [hfr] at hc; cases hc
end
theorem comp_any {X : Cx} {use : Option (Value → Sem Unit)} {R : Value → Shared → Prop} {pins : List (Addr × Obj)} {σ : St} {H : Hp} {s : Shared} {Q : VK} {elt iter tgt : Expr} {ifs : List Expr} {scope : Scope} {pos : Pos} {wi : TI} {g : TG} {tc : TT} {te : TE} (own : List Str) (js : List Nat)
    (hc : X.calm = true) (hi : PI X tgt iter wi)
    (hg : ∀ cl fp C s3 H3, PG (cxComp X scope cl own js fp C s3 H3) tgt g) (ht : ∀ cl fp C s3 H3, PIfs (cxComp X scope cl own js fp C s3 H3) ifs tc) (he : ∀ cl fp C s3 H3, PE (cxComp X scope cl own js fp C s3 H3) elt te)
    (hfree : ∀ y ∈ scope.names, y.2 = .free → X.env.scope.names.lookup y.1 = some .cell)
    (hjs : ∀ j ∈ js, scope.names.lookup (X.N.getD j Str.empty) = some .free ∧ X.env.scope.names.lookup (X.N.getD j Str.empty) = some .cell)
    (hcell : ∀ y ∈ scope.names, y.2 ≠ .cell) (hnames : ∀ y ∈ scope.names, y.2 = .local → scope.names.lookup y.1 = some .local)
    (hkind : scope.kind = .function) (hs : ∀ x, foldedSetIterable iter X.env x = pure x)
    (I : Inv X pins σ H s) (h : tComp wi g tc te own.length js σ H Q)
    (hend : ∀ (D : Addr) (H3 H5 : Hp) (σ5 : St) (s3 s6 : Shared) (fp : List Addr) (cl : List (Str × Addr)), Inv X pins σ H3 s3 → (∀ b ∈ fp, FpOk X pins H3 b) → Inv (cxComp X scope cl own js fp s3.heap.objs.size s3 H3) [] σ5 H5 s6 → Q (.ref D) H5 →
      compPost (model X.prog X.w) X.A X.xe use R (.ref D) s3.heap.objs.size (.ok .next) s6) :
    wpAny (model X.prog X.w) X.A (comprehension (.ListComp elt [⟨tgt, iter, ifs, 0⟩] scope pos) scope X.env (firstIterPos [⟨tgt, iter, ifs, 0⟩] pos) (newList []) false (eval iter X.env) use) R X.xe s := by
  have hk := I.ok.kind
  obtain ⟨cl, hcl, cl1, cl2⟩ := closure_of (scope := scope) (env := X.env) fun y hy hf => I.ok.has y.1 (.inl (hfree y hy hf))
  refine wpAny_comprehension_free rfl hs hcl hkind hnames (thn (hi pins s σ H _ I h) fun v s1 h1 => thn h1 fun itv s2 h2 => ?_)
  obtain ⟨it, fp, tn, J, H2, e, I2, T, st2, f2, q2⟩ := h2
  subst e
  obtain ⟨W, ⟨m0, w0⟩, turn⟩ := q2 s2.heap.objs.size I2.fresh
  have I3 := I2.lnew (ys := []) (its := []) (t' := s2.toks) .nil (Nat.zero_le _)
  refine wpAny_newObj_type (wpAny_newFunctionEnv hcell (by intro y hy; simp at hy) (fun h₁ hns₁ hsb₁ => ?_) hkind)
  have hl3 : ∀ b ∈ fp, b < (s2.heap.push ({ cls := .type "list", data := .seq ([] : List Value).toArray } : Obj)).objs.size := fun b hb => by
    obtain ⟨o, e, _⟩ := T.obj _ _ st2 b hb
    rw [Heap.size_push]
    exact Nat.lt_succ_of_lt (Heap.lt_size e)
  have f3 : ∀ b ∈ fp, FpOk X pins (upd H2 s2.heap.objs.size (.lst [])) b := fun b hb => by
    obtain ⟨o, e, _⟩ := T.obj _ _ st2 b hb
    refine ⟨?_, (f2 b hb).2⟩
    rw [upd_ne (Nat.ne_of_lt (Heap.lt_size e))]
    exact (f2 b hb).1
  have I4 := inv_comp (own := own) (js := js) (h₁ := h₁) (t' := s2.toks + ([] : List (Str × Value)).length) I3 hkind hcell cl1 cl2 hjs f3 hl3 hns₁ (fun b o e => (hsb₁.2 b (Nat.ne_of_lt (Heap.lt_size e))).trans (Heap.get?_push_of_some _ e))
  have st4 : tn 0 h₁ := T.keep _ _ _ st2 fun b hb o e => (hsb₁.2 b (Nat.ne_of_lt (hl3 b hb))).trans (Heap.get?_push_of_some _ (Heap.get?_push_of_some _ e))
  have loop : codeAny (model X.prog X.w) X.A (.compLoop (.ListComp elt [⟨tgt, iter, ifs, 0⟩] scope pos) 0 (.ref it) (.ref s2.heap.objs.size) (compEnvC scope cl (s2.heap.push ({ cls := .type "list", data := .seq ([] : List Value).toArray } : Obj)).objs.size X.env))
      (compPost (model X.prog X.w) X.A X.xe use R (.ref s2.heap.objs.size) (s2.heap.push ({ cls := .type "list", data := .seq ([] : List Value).toArray } : Obj)).objs.size) { s2 with heap := h₁, toks := s2.toks + ([] : List (Str × Value)).length } := by
    refine codeAny_compLoop_go (fun n s' => ∃ i σ' H', Inv (cxComp X scope cl own js fp _ _ _) [] σ' H' s' ∧ tn i s'.heap ∧ (∀ b ∈ fp, H' b = none) ∧ W i n σ' H') ?_ m0 ⟨0, _, _, I4, st4, fun b hb => (f3 b hb).1, w0⟩
    rintro n s5 ⟨i, σ5, H5, I5, st5, fr5, w5⟩
    have stat : ∀ {H' : Hp}, (∀ b ∈ fp, H' b = none) → ∀ b ∈ fp, FpOk (cxComp X scope cl own js fp _ _ _) [] H' b := fun hn b hb =>
      ⟨hn b hb, (I4.ok.exf b hb).1, I4.ok.exfs b hb, .inl hb, (I4.ok.exf b hb).2, fun p hp => absurd (show p ∈ ([] : List (Addr × Obj)) from hp) (by simp)⟩
    rcases turn i n σ5 H5 w5 with ⟨stop, qn⟩ | ⟨go, step⟩
    · refine thn (T.done (cxComp X scope cl own js fp _ _ _) rfl rfl rfl hc i [] s5 σ5 H5 NoX I5 (stat fr5) st5 stop) fun r s6 ⟨hr, I6⟩ => ?_
      subst hr
      exact hend _ _ _ _ _ _ _ _ I3 f3 I6 qn
    · refine thn (T.item (cxComp X scope cl own js fp _ _ _) rfl rfl rfl hc i [] s5 σ5 H5 NoX I5 (stat fr5) st5 go) fun r s6 ⟨u, hr, h6⟩ => ?_
      subst hr
      refine thn h6 fun _ s7 ⟨x, H7, I7, r7, y7, st7, fr7⟩ => ?_
      have I7' := I7.pinned (stat fr7) (T.obj _ _ st7)
      refine thn (hg cl fp _ _ _ _ s7 σ5 H7 x u _ I7' r7 (step x H7 y7)) fun _ s8 ⟨σ8, H8, I8, q8⟩ => ?_
      have again : ∀ {C3 : Addr} {s3 : Shared} {H3 : Hp} {σ9 : St} {H9 : Hp} {s9 : Shared} {m' : Nat}, Inv (cxComp X scope cl own js fp C3 s3 H3) ([] ++ pinsAt fp s7.heap) σ9 H9 s9 → m' < n → W (i + 1) m' σ9 H9 → ∃ m, m < n ∧ ∃ i σ' H', Inv (cxComp X scope cl own js fp C3 s3 H3) [] σ' H' s9 ∧ tn i s9.heap ∧ (∀ b ∈ fp, H' b = none) ∧ W i m σ' H' := fun {C3 s3 H3 σ9 H9 s9 m'} I9 hm w9 => by
        refine ⟨m', hm, i + 1, σ9, H9, I9.unpinned, T.keep _ _ _ st7 fun b hb o e => (I9.pin (b, o) (List.mem_append_right _ (List.mem_append_right _ (mem_pinsAt hb e)))).1, fun b hb => ?_, w9⟩
        obtain ⟨o, e, d⟩ := T.obj _ _ st7 b hb
        exact (I9.pin (b, o) (List.mem_append_right _ (List.mem_append_right _ (mem_pinsAt hb e)))).2.1
      refine thn (ht cl fp _ _ _ _ s8 σ8 H8 _ I8 q8) fun b s9 ⟨H9, I9, q9⟩ => ?_
      cases b with
      | false =>
        rw [if_neg Bool.false_ne_true] at q9 ⊢
        obtain ⟨m', hm, w9⟩ := q9
        exact again I9 hm w9
      | true =>
        rw [if_pos rfl] at q9 ⊢
        refine thn (he cl fp _ _ _ _ s9 σ8 H9 _ I9 q9) fun y s10 ⟨v, H10, I10, r10, q10⟩ => ?_
        exact thn (mt_append (X := cxComp X scope cl own js fp _ _ _) _ s10 σ8 H10 (.ref s2.heap.objs.size) [v] (.ref s2.heap.objs.size) [y] _ I10 rfl (.cons r10 .nil) q10) fun _ s11 ⟨_, H11, I11, _, m', hm, w11⟩ => again I11 hm w11
  exact codeAny_compStart_list loop (T.self _ 0 _ _ _ st4 loop)
theorem pe_comp {X : Cx} {elt iter tgt : Expr} {ifs : List Expr} {scope : Scope} {pos : Pos} {wi : TI} {g : TG} {tc : TT} {te : TE} (own : List Str) (js : List Nat)
    (hc : X.calm = true) (hi : PI X tgt iter wi)
    (hg : ∀ cl fp C s3 H3, PG (cxComp X scope cl own js fp C s3 H3) tgt g) (ht : ∀ cl fp C s3 H3, PIfs (cxComp X scope cl own js fp C s3 H3) ifs tc) (he : ∀ cl fp C s3 H3, PE (cxComp X scope cl own js fp C s3 H3) elt te)
    (hfree' : (scope.names.all fun y => y.2 != .free || X.env.scope.names.lookup y.1 == some .cell) = true := by rfl)
    (hjs' : (js.all fun j => scope.names.lookup (X.N.getD j Str.empty) == some .free && X.env.scope.names.lookup (X.N.getD j Str.empty) == some .cell) = true := by rfl)
    (hcell' : (scope.names.all fun y => y.2 != .cell) = true := by rfl) (hnames' : (scope.names.all fun y => y.2 != .local || scope.names.lookup y.1 == some .local) = true := by rfl)
    (hkind : scope.kind = .function := by rfl) (hs : ∀ x, foldedSetIterable iter X.env x = pure x := by intro _; rfl) :
    PE X (.ListComp elt [⟨tgt, iter, ifs, 0⟩] scope pos) (tComp wi g tc te own.length js) := by
  have hfree : ∀ y ∈ scope.names, y.2 = .free → X.env.scope.names.lookup y.1 = some .cell := sc_free hfree'
  have hjs : ∀ j ∈ js, scope.names.lookup (X.N.getD j Str.empty) = some .free ∧ X.env.scope.names.lookup (X.N.getD j Str.empty) = some .cell := sc_js hjs'
  have hcell : ∀ y ∈ scope.names, y.2 ≠ .cell := sc_cell hcell'
  have hnames : ∀ y ∈ scope.names, y.2 = .local → scope.names.lookup y.1 = some .local := sc_names hnames'
  intro pins s σ H Q I h
  rw [eval_ListComp]
  refine comp_any own js hc hi hg ht he hfree hjs hcell hnames hkind hs I h fun D H3 H5 σ5 s3 s6 fp cl I3 f3 I6 qn => ?_
  obtain ⟨m, hm, _⟩ := id I6.loc
  exact ⟨m, hm, fun h' sb => ⟨.ref D, H5, comp_left I3 f3 I6 sb, rfl, qn⟩⟩
theorem ps_setC {X : Cx} {i : Nat} {x : Str} {spos px : Pos} {elt iter tgt : Expr} {ifs : List Expr} {scope : Scope} {pos : Pos} {wi : TI} {g : TG} {tc : TT} {te : TE} (hN : X.N.Nodup) (hiN : X.N[i]? = some x) (hx : X.env.scope.names.lookup x = some .local) (own : List Str) (js : List Nat)
    (hc : X.calm = true) (hi : PI X tgt iter wi)
    (hg : ∀ cl fp C s3 H3, PG (cxComp X scope cl own js fp C s3 H3) tgt g) (ht : ∀ cl fp C s3 H3, PIfs (cxComp X scope cl own js fp C s3 H3) ifs tc) (he : ∀ cl fp C s3 H3, PE (cxComp X scope cl own js fp C s3 H3) elt te)
    (hfree' : (scope.names.all fun y => y.2 != .free || X.env.scope.names.lookup y.1 == some .cell) = true := by rfl)
    (hjs' : (js.all fun j => scope.names.lookup (X.N.getD j Str.empty) == some .free && X.env.scope.names.lookup (X.N.getD j Str.empty) == some .cell) = true := by rfl)
    (hcell' : (scope.names.all fun y => y.2 != .cell) = true := by rfl) (hnames' : (scope.names.all fun y => y.2 != .local || scope.names.lookup y.1 == some .local) = true := by rfl)
    (hkind : scope.kind = .function := by rfl) (hs : ∀ x, foldedSetIterable iter X.env x = pure x := by intro _; rfl)
    (hsw : swapsWith (.ListComp elt [⟨tgt, iter, ifs, 0⟩] scope pos) (some (.Name x px)) spos.line X.env = pure true := by rfl) :
    PS X (.Assign [.Name x px] (.ListComp elt [⟨tgt, iter, ifs, 0⟩] scope pos) spos) (tAsg (tComp wi g tc te own.length js) (gName i)) := by
  have hfree : ∀ y ∈ scope.names, y.2 = .free → X.env.scope.names.lookup y.1 = some .cell := sc_free hfree'
  have hjs : ∀ j ∈ js, scope.names.lookup (X.N.getD j Str.empty) = some .free ∧ X.env.scope.names.lookup (X.N.getD j Str.empty) = some .cell := sc_js hjs'
  have hcell : ∀ y ∈ scope.names, y.2 ≠ .cell := sc_cell hcell'
  have hnames : ∀ y ∈ scope.names, y.2 = .local → scope.names.lookup y.1 = some .local := sc_names hnames'
  intro pins s σ H D I h
  rw [exec_Assign_Name_used _ _ _ _ hsw]
  refine wpAny_bind (wpAny_standAt (wpAny_bind ?_))
  show wpAny _ X.A (do let _ ← comprehension (.ListComp elt [⟨tgt, iter, ifs, 0⟩] scope pos) scope X.env _ (newList []) false (eval iter X.env) (some (assign (.Name x px) X.env))) _ _ s
  refine wpAny_bind (thn (comp_any (use := some (assign (.Name x px) X.env)) (R := fun _ s' => SP X pins D .next s') own js hc hi hg ht he hfree hjs hcell hnames hkind hs I h fun D' H3 H5 σ5 s3 s6 fp cl I3 f3 I6 qn => ?_) fun _ s' hq => wpAny_pure (wpAny_pure hq))
  have I7 : Inv X pins σ H5 s6 := comp_left I3 f3 I6 (Heap.SameBut.refl ..)
  have hlt : X.env.locals < s3.heap.objs.size := I3.lt
  have hcl : ∀ y c, X.env.cells.lookup y = some c → c ≠ s3.heap.objs.size := fun y c e z => by
    obtain ⟨v, q⟩ := I3.cell y c e
    exact absurd q.lt (by rw [z]; exact Nat.lt_irrefl _)
  refine wpAny_assign_Name (store_ok2 I7 hN hiN (.inl hx) (v := .ref D') (u := .ref D') rfl (fun s7 I8 hch => ?_) (.inr hx))
  obtain ⟨m, hm, _⟩ := id I6.loc
  have hne : s3.heap.objs.size ≠ X.env.locals := Nat.ne_of_gt hlt
  have hm7 : s7.heap.Ns s3.heap.objs.size m := by
    obtain ⟨a, sb, ha⟩ := hch
    refine Heap.Ns.sameBut hm sb ?_
    rcases ha with ha | ha
    · rw [ha]; exact hne
    · exact fun z => hcl x a ha z.symm
  refine ⟨m, hm7, fun h' sb => ?_⟩
  refine ⟨_, H5, I8.turned (t' := s7.toks) (it := s3.heap.objs.size) (fun b o hb e => (sb.2 b hb).trans e) I6.free hne (.inr I3.sz) hcl (fun p hp z => ?_), qn⟩
  exact absurd (Heap.lt_size (I3.pin p hp).1) (by rw [z]; exact Nat.lt_irrefl _)
end L2
namespace L2
open PySem PySem.Spec PyProof.Rows Bg
def CNext (n : Nat) (Pv : Nat → List V → St → Hp → Prop) (i : Nat) (σ : St) (H : Hp) : Prop := ∃ m', m' < n - i ∧ m' = n - (i + 1) ∧ i + 1 ≤ n ∧ ∃ xs, Pv (i + 1) xs σ H
theorem cnext {n : Nat} {Pv : Nat → List V → St → Hp → Prop} {i : Nat} {xs : List V} {σ : St} {H : Hp} (h : i < n) (p : Pv (i + 1) xs σ H) : CNext n Pv i σ H := ⟨n - (i + 1), by omega, rfl, h, xs, p⟩
section
variable {g : TG} {tc : TT} {te : TE} {D : Addr} {H1 : Hp} {σ0 : St} {Q : VK}
theorem comp_range {R : Hp → Prop} {lo : Int} {n : Nat} (Pv : Nat → List V → St → Hp → Prop) (h0 : Pv 0 [] σ0 (upd H1 D (.lst [])))
    (hs : ∀ i xs σ H, i < n → Pv i xs σ H → g (.int (lo + i)) σ H fun σ3 H3 => tc σ3 H3 fun b H4 => if b = true then te σ3 H4 fun v H5 => rAppend (.ref D) [v] H5 fun _ H6 => CNext n Pv i σ3 H6 else CNext n Pv i σ3 H4)
    (hd : ∀ xs σ H, Pv n xs σ H → R H) :
    ∃ W : Nat → Nat → St → Hp → Prop, (∃ m, W 0 m σ0 (upd H1 D (.lst []))) ∧ ∀ i m σ' H', W i m σ' H' → ((Itr lo n).stop i H' ∧ R H') ∨ ((Itr lo n).go i H' ∧ ∀ x H2, (Itr lo n).yld i H' x H2 → g x σ' H2 fun σ3 H3 => tc σ3 H3 fun b H4 =>
      if b = true then te σ3 H4 fun v H5 => rAppend (.ref D) [v] H5 fun _ H6 => ∃ m', m' < m ∧ W (i + 1) m' σ3 H6 else ∃ m', m' < m ∧ W (i + 1) m' σ3 H4) := by
  refine ⟨fun i m σ H => m = n - i ∧ i ≤ n ∧ ∃ xs, Pv i xs σ H, ⟨n, by simp, Nat.zero_le _, [], h0⟩, ?_⟩
  rintro i m σ H ⟨rfl, hi, xs, p⟩
  by_cases hlt : i < n
  · refine .inr ⟨hlt, fun x H' y => ?_⟩
    obtain ⟨e, y⟩ := y
    subst e y
    exact hs i xs σ _ hlt p
  · have e : i = n := by omega
    subst e
    exact .inl ⟨Nat.le_refl _, hd xs σ H p⟩
theorem comp_list {R : Hp → Prop} {K : PySem.W.Frag} {a : Addr} {ys : List V} (Pv : Nat → List V → St → Hp → Prop) (h0 : Pv 0 [] σ0 (upd H1 D (.lst [])))
    (hl : ∀ i xs σ H, i ≤ ys.length → Pv i xs σ H → SqL K H a ys)
    (hs : ∀ i x xs σ H, ys[i]? = some x → Pv i xs σ H → g x σ H fun σ3 H3 => tc σ3 H3 fun b H4 => if b = true then te σ3 H4 fun v H5 => rAppend (.ref D) [v] H5 fun _ H6 => CNext ys.length Pv i σ3 H6 else CNext ys.length Pv i σ3 H4)
    (hd : ∀ xs σ H, Pv ys.length xs σ H → R H) :
    ∃ W : Nat → Nat → St → Hp → Prop, (∃ m, W 0 m σ0 (upd H1 D (.lst []))) ∧ ∀ i m σ' H', W i m σ' H' → ((Itl K a).stop i H' ∧ R H') ∨ ((Itl K a).go i H' ∧ ∀ x H2, (Itl K a).yld i H' x H2 → g x σ' H2 fun σ3 H3 => tc σ3 H3 fun b H4 =>
      if b = true then te σ3 H4 fun v H5 => rAppend (.ref D) [v] H5 fun _ H6 => ∃ m', m' < m ∧ W (i + 1) m' σ3 H6 else ∃ m', m' < m ∧ W (i + 1) m' σ3 H4) := by
  refine ⟨fun i m σ H => m = ys.length - i ∧ i ≤ ys.length ∧ ∃ xs, Pv i xs σ H, ⟨ys.length, by simp, Nat.zero_le _, [], h0⟩, ?_⟩
  rintro i m σ H ⟨rfl, hi, xs, p⟩
  have q := hl i xs σ H hi p
  by_cases hlt : i < ys.length
  · refine .inr ⟨⟨ys, ys[i], q, by simp [hlt]⟩, fun x H' y => ?_⟩
    obtain ⟨e, y⟩ := y
    subst e
    exact hs i x xs σ _ (y ys q) p
  · have e : i = ys.length := by omega
    subst e
    exact .inl ⟨⟨ys, q, Nat.le_refl _⟩, hd xs σ H p⟩
theorem comp_tup {R : Hp → Prop} {K : PySem.W.Frag} {a : Addr} {ys : List V} (Pv : Nat → List V → St → Hp → Prop) (h0 : Pv 0 [] σ0 (upd H1 D (.lst [])))
    (hl : ∀ i xs σ H, i ≤ ys.length → Pv i xs σ H → SqT K H a ys)
    (hs : ∀ i x xs σ H, ys[i]? = some x → Pv i xs σ H → g x σ H fun σ3 H3 => tc σ3 H3 fun b H4 => if b = true then te σ3 H4 fun v H5 => rAppend (.ref D) [v] H5 fun _ H6 => CNext ys.length Pv i σ3 H6 else CNext ys.length Pv i σ3 H4)
    (hd : ∀ xs σ H, Pv ys.length xs σ H → R H) :
    ∃ W : Nat → Nat → St → Hp → Prop, (∃ m, W 0 m σ0 (upd H1 D (.lst []))) ∧ ∀ i m σ' H', W i m σ' H' → ((Itt K a).stop i H' ∧ R H') ∨ ((Itt K a).go i H' ∧ ∀ x H2, (Itt K a).yld i H' x H2 → g x σ' H2 fun σ3 H3 => tc σ3 H3 fun b H4 =>
      if b = true then te σ3 H4 fun v H5 => rAppend (.ref D) [v] H5 fun _ H6 => ∃ m', m' < m ∧ W (i + 1) m' σ3 H6 else ∃ m', m' < m ∧ W (i + 1) m' σ3 H4) := by
  refine ⟨fun i m σ H => m = ys.length - i ∧ i ≤ ys.length ∧ ∃ xs, Pv i xs σ H, ⟨ys.length, by simp, Nat.zero_le _, [], h0⟩, ?_⟩
  rintro i m σ H ⟨rfl, hi, xs, p⟩
  have q := hl i xs σ H hi p
  by_cases hlt : i < ys.length
  · refine .inr ⟨⟨ys, ys[i], q, by simp [hlt]⟩, fun x H' y => ?_⟩
    obtain ⟨e, y⟩ := y
    subst e
    exact hs i x xs σ _ (y ys q) p
  · have e : i = ys.length := by omega
    subst e
    exact .inl ⟨⟨ys, q, Nat.le_refl _⟩, hd xs σ H p⟩
theorem i_compR2 {ta : TA} {σ : St} {H : Hp} {n : Nat} {js : List Nat} (h : ta σ H fun vs H1 => ∃ i j : Int, vs = [.int i, .int j] ∧ (-(2 ^ 62) ≤ i ∧ i < 2 ^ 62 ∧ -(2 ^ 62) ≤ j ∧ j < 2 ^ 62) ∧ ∀ D, H1 D = none → ∃ W : Nat → Nat → St → Hp → Prop, (∃ m, W 0 m (inner n js σ) (upd H1 D (.lst []))) ∧
  ∀ i_1 m σ' H', W i_1 m σ' H' → ((Itr i (j - i).toNat).stop i_1 H' ∧ Q (.ref D) H') ∨ ((Itr i (j - i).toNat).go i_1 H' ∧ ∀ x H2, (Itr i (j - i).toNat).yld i_1 H' x H2 → g x σ' H2 fun σ3 H3 => tc σ3 H3 fun b H4 =>
    if b = true then te σ3 H4 fun v H5 => rAppend (.ref D) [v] H5 fun _ H6 => ∃ m', m' < m ∧ W (i_1 + 1) m' σ3 H6 else ∃ m', m' < m ∧ W (i_1 + 1) m' σ3 H4)) : tComp (iRng2 ta) g tc te n js σ H Q := h
theorem i_compR1 {ta : TA} {σ : St} {H : Hp} {n : Nat} {js : List Nat} (h : ta σ H fun vs H1 => ∃ j : Int, vs = [.int j] ∧ -(2 ^ 62) ≤ j ∧ j < 2 ^ 62 ∧ ∀ D, H1 D = none → ∃ W : Nat → Nat → St → Hp → Prop, (∃ m, W 0 m (inner n js σ) (upd H1 D (.lst []))) ∧
  ∀ i m σ' H', W i m σ' H' → ((Itr 0 j.toNat).stop i H' ∧ Q (.ref D) H') ∨ ((Itr 0 j.toNat).go i H' ∧ ∀ x H2, (Itr 0 j.toNat).yld i H' x H2 → g x σ' H2 fun σ3 H3 => tc σ3 H3 fun b H4 =>
    if b = true then te σ3 H4 fun v H5 => rAppend (.ref D) [v] H5 fun _ H6 => ∃ m', m' < m ∧ W (i + 1) m' σ3 H6 else ∃ m', m' < m ∧ W (i + 1) m' σ3 H4)) : tComp (iRng1 ta) g tc te n js σ H Q := h
theorem i_compL {K : PySem.W.Frag} {tl : TE} {σ : St} {H : Hp} {n : Nat} {js : List Nat} (h : tl σ H fun x H1 => ∃ a, x = .ref a ∧ (∃ xs, SqL K H1 a xs) ∧ ∀ D, H1 D = none → ∃ W : Nat → Nat → St → Hp → Prop, (∃ m, W 0 m (inner n js σ) (upd H1 D (.lst []))) ∧
  ∀ i m σ' H', W i m σ' H' → ((Itl K a).stop i H' ∧ Q (.ref D) H') ∨ ((Itl K a).go i H' ∧ ∀ x H2, (Itl K a).yld i H' x H2 → g x σ' H2 fun σ3 H3 => tc σ3 H3 fun b H4 =>
    if b = true then te σ3 H4 fun v H5 => rAppend (.ref D) [v] H5 fun _ H6 => ∃ m', m' < m ∧ W (i + 1) m' σ3 H6 else ∃ m', m' < m ∧ W (i + 1) m' σ3 H4)) : tComp (iList K tl) g tc te n js σ H Q := h
theorem i_compT {K : PySem.W.Frag} {tl : TE} {σ : St} {H : Hp} {n : Nat} {js : List Nat} (h : tl σ H fun x H1 => ∃ a, x = .ref a ∧ (∃ xs, SqT K H1 a xs) ∧ ∀ D, H1 D = none → ∃ W : Nat → Nat → St → Hp → Prop, (∃ m, W 0 m (inner n js σ) (upd H1 D (.lst []))) ∧
  ∀ i m σ' H', W i m σ' H' → ((Itt K a).stop i H' ∧ Q (.ref D) H') ∨ ((Itt K a).go i H' ∧ ∀ x H2, (Itt K a).yld i H' x H2 → g x σ' H2 fun σ3 H3 => tc σ3 H3 fun b H4 =>
    if b = true then te σ3 H4 fun v H5 => rAppend (.ref D) [v] H5 fun _ H6 => ∃ m', m' < m ∧ W (i + 1) m' σ3 H6 else ∃ m', m' < m ∧ W (i + 1) m' σ3 H4)) : tComp (iTup K tl) g tc te n js σ H Q := h
theorem i_all {B : Bool → Hp → Prop} {σ : St} {H : Hp} (h : B true H) : tAll σ H B := h
theorem i_notinT {K : PySem.W.Frag} {H : Hp} {p : Addr} {ys : List V} {x : V} (h : H p = some (.tup ys)) (fx : flatV x = true) (fs : ys.all flatV = true) (q : Q (.bl (!inV x ys)) H) : rIn K true x (.ref p) H Q := ⟨p, ys, rfl, .inr (SqT.of h), fx, fs, q⟩
theorem i_inT {K : PySem.W.Frag} {H : Hp} {p : Addr} {ys : List V} {x : V} (h : H p = some (.tup ys)) (fx : flatV x = true) (fs : ys.all flatV = true) (q : Q (.bl (inV x ys)) H) : rIn K false x (.ref p) H Q := ⟨p, ys, rfl, .inr (SqT.of h), fx, fs, q⟩
theorem i_ixS {K : PySem.W.Frag} {H : Hp} {p : Addr} {xs : List V} {i : Int} {v : V} (h : SqT K H p xs) (e : atI xs i = some v) (q : Q v H) : rIxT K (.ref p) (.int i) H Q := ⟨p, xs, i, v, rfl, rfl, h, e, q⟩
theorem i_eq3S {X : Cx} {H : Hp} {a b : Addr} {x y z x' y' z' : Int} (ha : SqT X.K H a [.int x, .int y, .int z]) (hb : SqT X.K H b [.int x', .int y', .int z']) (q : Q (.bl (decide (x = x' ∧ y = y' ∧ z = z'))) H) : rEqT X (.ref a) (.ref b) H Q := by
  refine ⟨a, b, _, _, _, 0, rfl, rfl, Nat.zero_le _, ha, hb, .cons (.int x x') (.cons (.int y y') (.cons (.int z z') .nil)), ?_⟩
  have e : ([x == x', y == y', z == z'] : List Bool).all id = decide (x = x' ∧ y = y' ∧ z = z') := by
    rw [Bool.eq_iff_iff]
    simp
  rw [e]
  exact q
end
section
variable {σ : St} {H : Hp} {K : PySem.W.Frag} {R : St → Hp → Prop}
theorem i_gtup {n : Nat} {t : TGs} {a : Addr} {xs : List V} (h : H a = some (.tup xs)) (hn : xs.length = n) (q : t xs σ H R) : gTup K n t (.ref a) σ H R := ⟨a, xs, rfl, SqT.of h, hn, q⟩
theorem i_gcons {t : TG} {u : TGs} {v : V} {r : List V} (q : t v σ H fun σ' H' => u r σ' H' R) : gCons t u (v :: r) σ H R := ⟨v, r, rfl, q⟩
theorem i_gnil (q : R σ H) : gNil [] σ H R := ⟨rfl, q⟩
end
def TopI (mg : Str → Option Value) (x : Str) (i : Int) : Prop := ∃ u, mg x = some u ∧ RelV (.int i) u
def TopT (K : PySem.W.Frag) (mg : Str → Option Value) (x : Str) (xs : List V) : Prop := ∃ a, mg x = some (.ref a) ∧ ∀ H : Hp, SqT K H a xs
theorem topT_mk {K : PySem.W.Frag} {h : Heap} {mg : Str → Option Value} {x : Str} {a : Addr} {o : Obj} {its : Array Value} {n : Nat} {xs : List V} (X : K.In h) (G : h.Ns mainGlobals mg) (e : PySem.W.nsIn K mainGlobals x = some (some (.ref a)))
    (l : K.lookup a = some o) (c : o.cls = .type "tuple") (d : o.data = .seq its n) (z : its.size ≤ sizeLine) (v : Vals xs its.toList) : TopT K mg x xs := ⟨a, PySem.W.mg_of X G e, fun _ => .inr ⟨o, its, n, l, c, d, z, v⟩⟩
theorem topI_mk {K : PySem.W.Frag} {h : Heap} {mg : Str → Option Value} {x : Str} {i : Int} {t : Tok} (X : K.In h) (G : h.Ns mainGlobals mg) (e : PySem.W.nsIn K mainGlobals x = some (some (.int i t))) : TopI mg x i := ⟨_, PySem.W.mg_of X G e, ⟨t, rfl⟩⟩
end L2
namespace L2
open PySem PySem.Spec PyProof.Rows Bg
theorem bl_q {Q : VK} {H : Hp} {x y : Bool} (e : x = y) (q : Q (.bl y) H) : Q (.bl x) H := by rw [e]; exact q
theorem int_q {Q : VK} {H : Hp} {x y : Int} (e : x = y) (q : Q (.int y) H) : Q (.int x) H := by rw [e]; exact q
def rNotN : R2 := fun x y H Q => y = .non ∧ Q (.bl (!decide (x = .non))) H
theorem op_notNR {X : Cx} : OpR X (compareOp .IsNot) rNotN := op_notN
theorem i_notN {H : Hp} {Q : VK} {x : V} (q : Q (.bl (!decide (x = .non))) H) : rNotN x .non H Q := ⟨rfl, q⟩
def sqs : List Int := [4, 9, 16, 25, 36, 49, 64, 81]
def rootsTo (n : Nat) : List Int := ((List.range n).map fun (i : Nat) => (2 : Int) + i).filter fun d => !sqs.contains d
theorem rootsTo_succ (n : Nat) : rootsTo (n + 1) = rootsTo n ++ (if sqs.contains ((2 : Int) + n) then [] else [(2 : Int) + n]) := by
  unfold rootsTo
  rw [List.range_succ, List.map_append, List.filter_append]
  congr 1
  simp only [List.map_cons, List.map_nil, List.filter_cons, List.filter_nil]
  cases sqs.contains ((2 : Int) + n) <;> rfl
theorem rootsTo_rt {n : Nat} (hn : n ≤ 98) {d : Int} (h : d ∈ rootsTo n) : Rt d := by
  unfold rootsTo at h
  rw [List.mem_filter, List.mem_map] at h
  obtain ⟨⟨i, hi, rfl⟩, hc⟩ := h
  rw [List.mem_range] at hi
  refine rt_of ⟨by omega, by omega⟩ ?_
  simp only [sqs, List.contains_cons, List.contains_nil, Bool.or_false, Bool.not_eq_true', Bool.or_eq_false_iff, beq_eq_false_iff_ne, ne_eq] at hc
  exact hc
theorem roots_len : (rootsTo 98).length = 90 := by decide +kernel
theorem inV_sqs (d : Int) : inV (.int d) [.int 4, .int 9, .int 16, .int 25, .int 36, .int 49, .int 64, .int 81] = sqs.contains d := by
  simp only [inV, List.any_cons, List.any_nil, eqV, sqs, List.contains_cons, List.contains_nil, Bool.or_false]
  simp only [BEq.comm (b := d)]
theorem atI_in {xs : List Int} {i : Int} (h0 : 0 ≤ i) (h1 : i < xs.length) : ∃ d ∈ xs, atI (xs.map V.int) i = some (.int d) := by
  have hi : i.toNat < xs.length := by omega
  refine ⟨xs[i.toNat], List.getElem_mem hi, ?_⟩
  have e := atI_nat (xs := xs.map V.int) (j := i.toNat) (v := .int xs[i.toNat]) (by rw [List.getElem?_map, List.getElem?_eq_getElem hi]; rfl)
  rw [show ((i.toNat : Nat) : Int) = i by omega] at e
  exact e
end L2
namespace Bg
theorem inv_ne {d a b : Int} (h : Rt d) (z : ¬ (a = 0 ∧ b = 0)) : a * a - d * b * b ≠ 0 := fun e => z (nrm_zero h e)
theorem eq_of_mul {a b k : Int} (hk : k ≠ 0) (h : a * k = b * k) : a = b := Int.eq_of_mul_eq_mul_right hk h
theorem low_self {x y z : Int} (h1 : 1 ≤ z) (g : g3 x y z = 1) : lA x y z = x ∧ lB x y z = y ∧ lN x y z = z := by
  have := low_unique (x := x) (y := y) (z := z) (a := x) (b := y) (n := z) h1 g (by omega) rfl rfl
  exact ⟨this.1.symm, this.2.1.symm, this.2.2.symm⟩
end Bg
namespace Bg
end Bg
namespace Bg
end Bg
namespace Bg
def Br (j k : Nat) (q : Rat) : Prop := Bd j q.num ∧ Bd k (q.den : Int)
structure Tb where
  a : Rat
  b : Rat
  c : Rat
  e : Rat
def Tb.zero : Tb := ⟨0, 0, 0, 0⟩
def Tb.add (s t : Tb) : Tb := ⟨s.a + t.a, s.b + t.b, s.c + t.c, s.e + t.e⟩
def Tb.sub (s t : Tb) : Tb := ⟨s.a - t.a, s.b - t.b, s.c - t.c, s.e - t.e⟩
def Tb.tr (s : Tb) : Tb := ⟨s.a, s.c, s.b, s.e⟩
structure Sd where
  x : Int
  y : Int
  z : Int
structure Sd.Ok (d : Int) (s : Sd) : Prop where
  z1 : 1 ≤ s.z
  g : g3 s.x s.y s.z = 1
  bx : Bd 120 s.x
  bY : Bd 120 s.y
  bz : Bd 30 s.z
  up : sgn d s.x s.y = 1
def Sd.p (s : Sd) : Rat := Rat.divInt s.x s.z
def Sd.q (s : Sd) : Rat := Rat.divInt s.y s.z
structure Bo where
  w : Sd
  h : Sd
def Bo.Ok (d : Int) (b : Bo) : Prop := b.w.Ok d ∧ b.h.Ok d
def Bo.tb (b : Bo) : Tb := ⟨b.w.p * b.h.p, b.w.p * b.h.q, b.w.q * b.h.p, b.w.q * b.h.q⟩
end Bg
namespace Bg
structure Ms where
  f : Rat
  g : Rat
def Ms.Ok (m : Ms) : Prop := Br 90 10 m.f ∧ Br 90 10 m.g
def Sd.ms (s : Sd) : Ms := ⟨s.p, s.q⟩
end Bg
namespace Bg
theorem sgn_addn {d n p q : Int} (hR : Rt d) (hn : 0 < n) (h : sgn d p q = 1) : sgn d (n + p) q = 1 := by
  have d2 := hR.lo
  by_cases hp : 0 ≤ p
  · by_cases hq : 0 ≤ q
    · rw [sgn_nn (by omega) hq, if_pos (by omega)]
    · have p0 : 0 < p := by
        rcases Int.lt_or_eq_of_le hp with z | z
        · exact z
        · subst z
          rw [sgn_np (by omega) (by omega) (by omega)] at h
          exact absurd h (by decide)
      rw [sgn_pa p0 (by omega)] at h
      rw [sgn_pa (by omega) (by omega)]
      have h1 : d * q * q < p * p := by
        by_cases z : d * q * q < p * p
        · exact z
        · rw [if_neg z] at h
          exact absurd h (by decide)
      have h2 : p * p ≤ (n + p) * (n + p) := Int.mul_le_mul (by omega) (by omega) (by omega) (by omega)
      rw [if_pos (by omega)]
  · by_cases hq : 0 < q
    · rw [sgn_pb (by omega) hq] at h
      have h1 : p * p < d * q * q := by
        by_cases z : p * p < d * q * q
        · exact z
        · rw [if_neg z] at h
          exact absurd h (by decide)
      by_cases hs : 0 ≤ n + p
      · rw [sgn_nn hs (by omega), if_pos (by omega)]
      · rw [sgn_pb (by omega) hq]
        have h2 : (-(n + p)) * (-(n + p)) ≤ (-p) * (-p) := Int.mul_le_mul (by omega) (by omega) (by omega) (by omega)
        rw [Int.neg_mul_neg, Int.neg_mul_neg] at h2
        rw [if_pos (by omega)]
    · rw [sgn_np (by omega) (by omega) (by omega)] at h
      exact absurd h (by decide)
theorem sgn_add {d a b a' b' : Int} (hR : Rt d) (h : sgn d a b = 1) (h' : sgn d a' b' = 1) : sgn d (a + a') (b + b') = 1 := by
  have hN : a * a - d * b * b ≠ 0 := by
    refine inv_ne hR fun z => ?_
    rw [z.1, z.2, sgn_zero] at h
    exact absurd h (by decide)
  obtain ⟨k, w, v, hk, e1, e2, e3, e4⟩ : ∃ k w v : Int, 0 < k ∧ k * a' = w * a + d * v * b ∧ k * b' = w * b + v * a ∧ k * (a + a') = (k + w) * a + d * v * b ∧ k * (b + b') = (k + w) * b + v * a := by
    rcases Int.lt_or_gt_of_ne hN with z | z
    · refine ⟨-(a * a - d * b * b), -(a' * a - d * b' * b), -(b' * a - a' * b), by omega, ?_, ?_, ?_, ?_⟩ <;> grind
    · refine ⟨a * a - d * b * b, a' * a - d * b' * b, b' * a - a' * b, z, ?_, ?_, ?_, ?_⟩ <;> grind
  have s1 := sgn_scale hR hk a' b'
  rw [e1, e2, sgn_prod hR, h, Int.mul_one, h'] at s1
  have s2 := sgn_addn hR hk s1
  have s3 := sgn_scale hR hk (a + a') (b + b')
  rw [e3, e4, sgn_prod hR, h, s2] at s3
  rw [← s3]
  rfl
def Tb.A (d : Int) (t : Tb) : Rat := t.a + (d : Rat) * t.e
def Tb.B (t : Tb) : Rat := t.b + t.c
end Bg
namespace Bg
end Bg
namespace Bg
end Bg
namespace Bg
theorem dvd_of_mul_gcd {e x v : Int} (h : e ∣ x * v) (g : Int.gcd e v = 1) : e ∣ x := by
  have h1 : e ∣ x * v := h
  have h2 : e ∣ x * e := ⟨x, Int.mul_comm ..⟩
  have h3 : e ∣ (Int.gcd (x * e) (x * v) : Nat) := Int.dvd_coe_gcd h2 h1
  rw [Int.gcd_mul_left, g, Nat.mul_one] at h3
  exact Int.dvd_natAbs.mp h3
theorem gcd_one_of {a b : Int} (h : ∀ e : Int, e ∣ a → e ∣ b → e ∣ 1) : Int.gcd a b = 1 := by
  have := h (Int.gcd a b : Nat) (Int.gcd_dvd_left ..) (Int.gcd_dvd_right ..)
  have h2 := Int.natAbs_dvd_natAbs.mpr this
  simpa using h2
theorem dvd_one_of {a b e : Int} (h : Int.gcd a b = 1) (ha : e ∣ a) (hb : e ∣ b) : e ∣ 1 := by
  have := Int.dvd_coe_gcd ha hb
  rw [h] at this
  exact this
theorem gcd_one_mono {a b e : Int} (h : Int.gcd a b = 1) (ha : e ∣ a) : Int.gcd e b = 1 :=
  gcd_one_of fun _ h1 h2 => dvd_one_of h (Int.dvd_trans h1 ha) h2
theorem gcd_one_mul {a b c : Int} (h1 : Int.gcd a b = 1) (h2 : Int.gcd a c = 1) : Int.gcd a (b * c) = 1 :=
  gcd_one_of fun e ha hb => by
    have e1 : Int.gcd e c = 1 := gcd_one_mono h2 ha
    exact dvd_one_of h1 ha (dvd_of_mul_gcd hb e1)
theorem shares {z z' : Int} (h1 : 1 ≤ z) (h2 : 1 ≤ z') : ∃ s u v : Int, s = (Int.gcd z z' : Nat) ∧ 1 ≤ s ∧ 1 ≤ u ∧ 1 ≤ v ∧ z = s * u ∧ z' = s * v ∧ z.fdiv s = u ∧ z'.fdiv s = v ∧ Int.gcd u v = 1 := by
  have d1 : ((Int.gcd z z' : Nat) : Int) ∣ z := Int.gcd_dvd_left ..
  have d2 : ((Int.gcd z z' : Nat) : Int) ∣ z' := Int.gcd_dvd_right ..
  have hp : 0 < Int.gcd z z' := Int.gcd_pos_of_ne_zero_left _ (by omega)
  obtain ⟨u, hu⟩ := d1
  obtain ⟨v, hv⟩ := d2
  have hs : (1 : Int) ≤ (Int.gcd z z' : Nat) := by omega
  have hg : Int.gcd u v = 1 := by
    have e : Int.gcd z z' = Int.gcd ((Int.gcd z z' : Nat) * u) ((Int.gcd z z' : Nat) * v) := by rw [← hu, ← hv]
    rw [Int.gcd_mul_left, Int.natAbs_natCast] at e
    exact (Nat.eq_of_mul_eq_mul_left hp (by rw [Nat.mul_one]; exact e)).symm
  generalize ((Int.gcd z z' : Nat) : Int) = s at *
  subst hu; subst hv
  refine ⟨s, u, v, rfl, hs, ?_, ?_, rfl, rfl, Int.mul_fdiv_cancel_left _ (by omega), Int.mul_fdiv_cancel_left _ (by omega), hg⟩
  · refine Int.not_lt.mp fun q => ?_
    have := Int.mul_nonpos_of_nonneg_of_nonpos (show (0:Int) ≤ s by omega) (show u ≤ 0 by omega)
    omega
  · refine Int.not_lt.mp fun q => ?_
    have := Int.mul_nonpos_of_nonneg_of_nonpos (show (0:Int) ≤ s by omega) (show v ≤ 0 by omega)
    omega
def aS (z z' : Int) : Int := (Int.gcd z z' : Nat)
def aA (x z x' z' : Int) : Int := x * z'.fdiv (aS z z') + x' * z.fdiv (aS z z')
def aL (x y z x' y' z' : Int) : Int := (Int.gcd (Int.gcd (aS z z') (aA x z x' z') : Nat) (aA y z y' z') : Nat)
theorem add_low {x y z x' y' z' : Int} (h1 : 1 ≤ z) (h2 : 1 ≤ z') (g1 : g3 x y z = 1) (g2 : g3 x' y' z' = 1) :
    1 ≤ aS z z' ∧ 1 ≤ aL x y z x' y' z' ∧ (aA x z x' z').fdiv (aL x y z x' y' z') = lA (x * z' + x' * z) (y * z' + y' * z) (z * z') ∧ (aA y z y' z').fdiv (aL x y z x' y' z') = lB (x * z' + x' * z) (y * z' + y' * z) (z * z') ∧
    z.fdiv (aS z z') * z'.fdiv (aL x y z x' y' z') = lN (x * z' + x' * z) (y * z' + y' * z) (z * z') := by
  obtain ⟨s, u, v, hs, s1, u1, v1, ez, ez', fu, fv, guv⟩ := shares h1 h2
  have eS : aS z z' = s := hs.symm
  have eA : ∀ p q, aA p z q z' = p * v + q * u := fun p q => by unfold aA; rw [eS, fu, fv]
  have eL : aL x y z x' y' z' = (Int.gcd (Int.gcd s (x * v + x' * u) : Nat) (y * v + y' * u) : Nat) := by unfold aL; rw [eS, eA, eA]
  rw [eS, eA, eA, fu]
  generalize hl : aL x y z x' y' z' = l at *
  generalize ha : x * v + x' * u = a at *
  generalize hb : y * v + y' * u = b at *
  have l1 : 1 ≤ l := by
    have : 0 < Int.gcd (Int.gcd s a : Nat) b := Int.gcd_pos_of_ne_zero_left _ (by
      have := Int.gcd_pos_of_ne_zero_left a (show s ≠ 0 by omega)
      omega)
    omega
  have dls : l ∣ s := by rw [eL]; exact Int.dvd_trans (Int.gcd_dvd_left ..) (Int.gcd_dvd_left ..)
  have dla : l ∣ a := by rw [eL]; exact Int.dvd_trans (Int.gcd_dvd_left ..) (Int.gcd_dvd_right ..)
  have dlb : l ∣ b := by rw [eL]; exact Int.gcd_dvd_right ..
  obtain ⟨m, hm⟩ := dls
  obtain ⟨X, hX⟩ := dla
  obtain ⟨Y, hY⟩ := dlb
  have l0 : l ≠ 0 := by omega
  have fX : a.fdiv l = X := by rw [hX]; exact Int.mul_fdiv_cancel_left _ l0
  have fY : b.fdiv l = Y := by rw [hY]; exact Int.mul_fdiv_cancel_left _ l0
  have fZ : z'.fdiv l = m * v := by rw [ez', hm, Int.mul_assoc]; exact Int.mul_fdiv_cancel_left _ l0
  rw [fX, fY, fZ]
  have m1 : 1 ≤ m := by
    refine Int.not_lt.mp fun q => ?_
    have := Int.mul_nonpos_of_nonneg_of_nonpos (show (0:Int) ≤ l by omega) (show m ≤ 0 by omega)
    omega
  refine ⟨s1, l1, ?_⟩
  have gm : g3 X Y m = 1 := by
    have e : (g3 (l * X) (l * Y) (l * m) : Int) = l := by
      unfold g3
      rw [← hX, ← hY, ← hm, ← eL]
    rw [g3_mul] at e
    have e2 : l.natAbs * g3 X Y m = l.natAbs * 1 := by omega
    exact Nat.eq_of_mul_eq_mul_left (by omega) e2
  have cop : ∀ e : Int, e ∣ X → e ∣ Y → Int.gcd e u = 1 ∧ Int.gcd e v = 1 ∧ Int.gcd e m = 1 := fun e eX eY => by
    have ea : e ∣ a := by rw [hX]; exact Int.dvd_trans eX (Int.dvd_mul_left ..)
    have eb : e ∣ b := by rw [hY]; exact Int.dvd_trans eY (Int.dvd_mul_left ..)
    refine ⟨gcd_one_of fun f f1 f2 => ?_, gcd_one_of fun f f1 f2 => ?_, gcd_one_of fun f f1 f2 => ?_⟩
    · have fv1 : Int.gcd f v = 1 := gcd_one_mono guv f2
      have k1 : f ∣ x * v := by
        have := Int.dvd_sub (Int.dvd_trans f1 ea) (Int.dvd_trans f2 (Int.dvd_mul_left x' u))
        rw [← ha, Int.add_sub_cancel] at this
        exact this
      have k2 : f ∣ y * v := by
        have := Int.dvd_sub (Int.dvd_trans f1 eb) (Int.dvd_trans f2 (Int.dvd_mul_left y' u))
        rw [← hb, Int.add_sub_cancel] at this
        exact this
      have := dvd_g3 (dvd_of_mul_gcd k1 fv1) (dvd_of_mul_gcd k2 fv1) (Int.dvd_trans f2 (show u ∣ z by rw [ez]; exact Int.dvd_mul_left ..))
      rw [g1] at this
      exact this
    · have fu1 : Int.gcd f u = 1 := gcd_one_mono (Int.gcd_comm u v ▸ guv) f2
      have k1 : f ∣ x' * u := by
        have := Int.dvd_sub (Int.dvd_trans f1 ea) (Int.dvd_trans f2 (Int.dvd_mul_left x v))
        rw [← ha, Int.add_comm, Int.add_sub_cancel] at this
        exact this
      have k2 : f ∣ y' * u := by
        have := Int.dvd_sub (Int.dvd_trans f1 eb) (Int.dvd_trans f2 (Int.dvd_mul_left y v))
        rw [← hb, Int.add_comm, Int.add_sub_cancel] at this
        exact this
      have := dvd_g3 (dvd_of_mul_gcd k1 fu1) (dvd_of_mul_gcd k2 fu1) (Int.dvd_trans f2 (show v ∣ z' by rw [ez']; exact Int.dvd_mul_left ..))
      rw [g2] at this
      exact this
    · have := dvd_g3 (Int.dvd_trans f1 eX) (Int.dvd_trans f1 eY) f2
      rw [gm] at this
      exact this
  have gX : g3 X Y (u * (m * v)) = 1 := by
    have dX := g3_a X Y (u * (m * v))
    have dY := g3_b X Y (u * (m * v))
    have dZ := g3_n X Y (u * (m * v))
    obtain ⟨c1, c2, c3⟩ := cop _ dX dY
    have c4 := gcd_one_mul c1 (gcd_one_mul c3 c2)
    have := dvd_one_of c4 (Int.dvd_refl _) dZ
    have := Int.natAbs_dvd_natAbs.mpr this
    simpa using this
  refine low_unique ?_ gX (Int.mul_ne_zero (by omega) (by omega)) ?_ ?_
  · exact Int.mul_pos (by omega) (Int.mul_pos (by omega) (by omega))
  · subst ez ez'
    refine Int.eq_of_mul_eq_mul_left l0 ?_
    clear cop gX gm eL hl eA hs fu fv fX fY fZ guv g1 g2
    have e1 : l * (X * (s * u * (s * v))) = a * (s * u * (s * v)) := by rw [hX, Int.mul_assoc l X]
    have e2 : l * ((x * (s * v) + x' * (s * u)) * (u * (m * v))) = (x * v + x' * u) * s * (u * (l * m * v)) := by grind
    rw [e1, e2, ← hm, ha]
    grind
  · subst ez ez'
    refine Int.eq_of_mul_eq_mul_left l0 ?_
    clear cop gX gm eL hl eA hs fu fv fX fY fZ guv g1 g2
    have e1 : l * (Y * (s * u * (s * v))) = b * (s * u * (s * v)) := by rw [hY, Int.mul_assoc l Y]
    have e2 : l * ((y * (s * v) + y' * (s * u)) * (u * (m * v))) = (y * v + y' * u) * s * (u * (l * m * v)) := by grind
    rw [e1, e2, ← hm, hb]
    grind
theorem gcd_bdl {k : Nat} {z a : Int} (h : z ≠ 0) (hb : Bd k z) : Bd k ((Int.gcd z a : Nat) : Int) := hb.of_le (by
  rw [Int.natAbs_natCast]
  exact Nat.le_of_dvd (by omega) (by simpa using Int.natAbs_dvd_natAbs.mpr (Int.gcd_dvd_left z a)))
theorem g3_neg (x y z : Int) : g3 (-x) (-y) z = g3 x y z := by
  unfold g3
  rw [Int.gcd_neg, Int.gcd_neg]
end Bg
namespace Bg
structure B4 where
  a : Int
  b : Int
  c : Int
  e : Int
def B4.nx (d : Int) (s : B4) : B4 := if 0 < sgn d (s.a - s.c) (s.b - s.e) then ⟨s.a - s.c, s.b - s.e, s.c, s.e⟩ else ⟨s.a, s.b, s.c - s.a, s.e - s.b⟩
def b4 : B4 := ⟨0, 1, 1, 0⟩
theorem sgn_lowest {d a b N : Int} (hR : Rt d) (hN : 1 ≤ N) : sgn d (lA a b N) (lB a b N) = sgn d a b := by
  have n0 : N ≠ 0 := by omega
  have h1 := l_n (a := a) (b := b) n0
  refine sgn_same hR (k := N) (m := lN a b N) (by omega) (by omega) ?_ ?_
  · rw [Int.mul_comm, l_a, Int.mul_comm]
  · rw [Int.mul_comm, l_b, Int.mul_comm]
def B4.det (s : B4) : Int := s.a * s.e - s.b * s.c
def B4.i (s : B4) (x y : Int) : Int := s.det * (x * s.e - y * s.c)
def B4.j (s : B4) (x y : Int) : Int := s.det * (s.a * y - s.b * x)
end Bg
namespace Bg
def B4.srv (s : B4) (x y : Int) : Prop := 0 ≤ s.i x y ∧ 0 ≤ s.j x y
instance {s : B4} {x y : Int} : Decidable (s.srv x y) := inferInstanceAs (Decidable (0 ≤ s.i x y ∧ 0 ≤ s.j x y))
def st (d : Int) : Nat → B4
  | 0 => b4
  | k + 1 => (st d k).nx d
end Bg
namespace Bg
def BsE (s s' : B4) (N : Int) : Prop := (lA s.a s.b N = lA s'.a s'.b N ∧ lB s.a s.b N = lB s'.a s'.b N ∧ lN s.a s.b N = lN s'.a s'.b N) ∧ (lA s.c s.e N = lA s'.c s'.e N ∧ lB s.c s.e N = lB s'.c s'.e N ∧ lN s.c s.e N = lN s'.c s'.e N)
instance {s s' : B4} {N : Int} : Decidable (BsE s s' N) := inferInstanceAs (Decidable (_ ∧ _))
end Bg
namespace Bg
end Bg
namespace Bg
end Bg
namespace Bg
def tmS (m : Int) (s : Sd) : Sd := ⟨lA (m * s.x) (m * s.y) s.z, lB (m * s.x) (m * s.y) s.z, lN (m * s.x) (m * s.y) s.z⟩
def adS (s t : Sd) : Sd := ⟨lA (s.x * t.z + t.x * s.z) (s.y * t.z + t.y * s.z) (s.z * t.z), lB (s.x * t.z + t.x * s.z) (s.y * t.z + t.y * s.z) (s.z * t.z), lN (s.x * t.z + t.x * s.z) (s.y * t.z + t.y * s.z) (s.z * t.z)⟩
structure SK (k j : Nat) (s : Sd) : Prop where
  z1 : 1 ≤ s.z
  g : g3 s.x s.y s.z = 1
  bx : Bd k s.x
  by' : Bd k s.y
  bz : Bd j s.z
theorem SK.mono {k j k' j' : Nat} {s : Sd} (h : SK k j s) (l : k ≤ k') (l' : j ≤ j') : SK k' j' s := ⟨h.z1, h.g, h.bx.mono l, h.by'.mono l, h.bz.mono l'⟩
theorem SK.ne {k j : Nat} {s : Sd} (h : SK k j s) : s.z ≠ 0 := by have := h.z1; omega
def nul : Sd := ⟨0, 0, 1⟩
def mny (s : B4) (N : Int) (pl : Nat) (w : Sd) : Int := if pl = 0 then s.i (N / w.z * w.x) (N / w.z * w.y) else s.j (N / w.z * w.x) (N / w.z * w.y)
def hg (s : B4) (N : Int) (pl : Nat) : List Bo → Sd := fun L => L.foldl (fun a b => adS a (tmS (mny s N pl b.w) b.h)) nul
structure B5 (d N : Int) (b : Bo) : Prop where
  w : SK 20 12 b.w
  h : SK 20 12 b.h
  wu : sgn d b.w.x b.w.y = 1
  hu : sgn d b.h.x b.h.y = 1
  dv : b.w.z ∣ N
end Bg
namespace L2
open PySem PySem.Spec PyProof.Rows Bg
def rAllB (K : PySem.W.Frag) : List V → Hp → VK → Prop := fun xs H Q => ∃ (a : Addr) (bs : List Bool), xs = [.ref a] ∧ SqL K H a (bs.map V.bl) ∧ Q (.bl (bs.all id)) H
section
variable {X : Cx}
theorem call_allL (hc : X.calm = true) : CallR X (.builtin "all") (rAllB X.K) := by
  intro pins s σ H xs us Q I r h
  obtain ⟨a, bs, rfl, hq, q⟩ := h
  obtain ⟨u, rfl, ru⟩ := Vals.one r
  cases ru
  obtain ⟨its, rv, p, hz⟩ := I.list hq
  have hlt : a < s.heap.objs.size := by
    obtain ⟨o, _, e, _⟩ := p
    exact Heap.lt_size e
  refine call_all_walk (wpAny_pyIter_list p.isList ?_)
  refine ⟨_, _, _, _, _, _, (fun i => bs.getD i false), rfl, Walks.list (A := X.A.in1) (show X.A.in1.handled = none from I.ok.hd hc) _ a (Nat.ne_of_lt hlt) its.toArray, ⟨⟨_, Heap.get?_push_size _ rfl, rfl, rfl⟩, p.isList.push _⟩, ?_, fun h' tk hk => ?_⟩
  · intro i v s' Q' E' hP hQ
    have hP' : its[i]? = some v := by simpa using hP
    have hi : i < bs.length := by
      have := rv.length
      rw [List.length_map] at this
      have := (List.getElem?_eq_some_iff.mp hP').1
      omega
    obtain ⟨u, hu, ru⟩ := rv.get (i := i) (x := .bl bs[i]) (by rw [List.getElem?_map, List.getElem?_eq_getElem hi]; rfl)
    rw [hP'] at hu
    cases hu
    cases ru
    have e : bs.getD i false = bs[i] := by rw [List.getD_eq_getElem?_getD, List.getElem?_eq_getElem hi]; rfl
    have hQ' : Q' (bs.getD i false) s' := hQ
    rw [e] at hQ'
    exact wpAny_truthy_bool hQ'
  · have e : (List.range its.toArray.size).all (fun i => bs.getD i false) = bs.all id := by
      have := rv.length
      rw [List.length_map] at this
      rw [List.size_toArray, ← this, all_getD]
    rw [e]
    refine ⟨.bl _, H, I.kept (t' := tk) fun b o e' => hk b o ?_ (Heap.get?_push_of_some _ e'), rfl, q⟩
    intro hb
    have e2 : b = s.heap.objs.size := by simpa using hb
    exact absurd (Heap.lt_size e') (by rw [e2]; exact Nat.lt_irrefl _)
end
end L2
namespace L2
open PySem PySem.Spec PyProof.Rows Bg
def kitTy (t c : String) : Option Bool := if (Value.type t == Value.type c) = true then some true else if PySem.W.kitMeta c = true then (fastBuiltinMro t).map (·.contains (Value.type c)) else none
theorem kit_ty {K : PySem.W.Frag} {t c : String} {b : Bool} (h : kitTy t c = some b) : PySem.W.kitOne K (.type t) (.type c) = some b := h
inductive Kd (H : Hp) : V → String → Prop where
  | non : Kd H .non "NoneType"
  | bl (x : Bool) : Kd H (.bl x) "bool"
  | int (i : Int) : Kd H (.int i) "int"
  | str (x : Str) : Kd H (.str x) "str"
  | lst {a : Addr} {xs : List V} (e : H a = some (.lst xs)) : Kd H (.ref a) "list"
  | tup {a : Addr} {xs : List V} (e : H a = some (.tup xs)) : Kd H (.ref a) "tuple"
  | dK {a : Addr} {xs : List (Key × V)} (e : H a = some (.dK xs)) : Kd H (.ref a) "dict"
theorem Kd.ty {K : PySem.W.Frag} {H : Hp} {x : V} {t : String} (k : Kd H x t) : TyOf K H x (.type t) := by
  cases k with
  | non => exact .non
  | bl b => exact .bl b
  | int i => exact .int i
  | str s => exact .str s
  | lst e => exact .lst e
  | tup e => exact .tup e
  | dK e => exact .dK e
theorem i_isK {K : PySem.W.Frag} {H : Hp} {Q : VK} {x : V} {t T : String} {b : Bool} (k : Kd H x t) (e : kitTy t T = some b) (q : Q (.bl b) H) : rIs K [x, .ty T] H Q := ⟨_, _, _, _, rfl, k.ty, kit_ty e, q⟩
theorem i_allB {K : PySem.W.Frag} {H : Hp} {Q : VK} {a : Addr} {bs : List Bool} (h : SqL K H a (bs.map V.bl)) (q : Q (.bl (bs.all id)) H) : rAllB K [.ref a] H Q := ⟨a, bs, rfl, h, q⟩
inductive T0 where
  | flat (x : V)
  | tup (xs : List V)
  | lst (xs : List V)
end L2
namespace L2
open PySem PySem.Spec PyProof.Rows Bg
section
variable {H0 H : Hp} {Q : VK} {ls : List (Addr × HO)}
end
end L2
namespace L2
open PySem PySem.Spec PyProof.Rows
section
variable {X : Cx} {tg : Expr}
end
end L2
namespace L2
open PySem PySem.Spec PyProof.Rows Bg
end L2
namespace L2
open PySem PySem.Spec PyProof.Rows Bg
abbrev SdAt (H : Hp) (p : Addr) (s : Sd) : Prop := H p = some (.tup [.int s.x, .int s.y, .int s.z])
structure Cell where
  p : Addr
  pw : Addr
  ph : Addr
  b : Bo
def Cell.v (c : Cell) : V := .ref c.p
structure Cell.At (H : Hp) (c : Cell) : Prop where
  t : H c.p = some (.tup [.ref c.pw, .ref c.ph])
  w : SdAt H c.pw c.b.w
  h : SdAt H c.ph c.b.h
theorem Cell.At.same {H H' : Hp} {c : Cell} (h : c.At H) (s : Same H H') : c.At H' := ⟨s _ _ h.t, s _ _ h.w, s _ _ h.h⟩
theorem Cell.At.sameX {H H' : Hp} {c : Cell} {D : Addr} {xs : List V} (h : c.At H) (s : SameX D H H') (e : H D = some (.lst xs)) : c.At H' := ⟨s.tup h.t e, s.tup h.w e, s.tup h.h e⟩
theorem at_cells {L : List Cell} {i : Nat} {y : V} (h : (L.map Cell.v)[i]? = some y) : ∃ c, y = .ref c.p ∧ c ∈ L ∧ L[i]? = some c := by
  rw [List.getElem?_map] at h
  cases e : L[i]? with
  | none => rw [e] at h; cases h
  | some c =>
    rw [e] at h
    exact ⟨c, (Option.some.inj h).symm, List.mem_of_getElem? e, rfl⟩
end L2
namespace L2
open PySem PySem.Spec PyProof.Rows Bg
section
variable {K : PySem.W.Frag} {H : Hp} {Q : VK} {σ : St} {D : Ends}
end
end L2
namespace L2
open PySem PySem.Spec PyProof.Rows Bg
def rLst (K : PySem.W.Frag) : List V → Hp → VK → Prop := fun xs H Q => ∃ p ys, xs = [.ref p] ∧ (SqL K H p ys ∨ SqT K H p ys) ∧ ∀ l, H l = none → Q (.ref l) (upd H l (.lst ys))
theorem call_lstR {X : Cx} : CallR X (.type "list") (rLst X.K) := call_list_of
end L2
namespace L2
open PySem PySem.Spec PyProof.Rows Bg
end L2
namespace L2
open PySem PySem.Spec PyProof.Rows Bg
section
variable {prog : Program} {w : World} {A : Around} {E : Value → Shared → Prop}
end
end L2
namespace L2
open PySem PySem.Spec PyProof.Rows Bg
section
variable {X : Cx}
end
end L2
namespace L2
open PySem PySem.Spec PyProof.Rows Bg
end L2
namespace L2
open PySem PySem.Spec PyProof.Rows Bg
section
variable {X : Cx}
end
section
variable {K : PySem.W.Frag} {σ : St} {H : Hp} {Q : VK}
theorem line_le {n : Nat} (h : n ≤ 1000) : n ≤ sizeLine := small_le h
theorem i_bm0 {T : String} {r : V → List V → Hp → VK → Prop} {to : TE} (h : to σ H fun x H1 => tyV K T x H1 ∧ r x [] H1 Q) : tBM0 K T r to σ H Q := h
theorem i_eqS {i j : Str} (h : Q (.bl (decide (i = j))) H) : rEq (.str i) (.str j) H Q := ⟨rfl, by
  have e : decide (V.str i = V.str j) = decide (i = j) := by rw [Bool.eq_iff_iff]; simp
  rw [e]; exact h⟩
theorem i_is_str {z : Str} (h : Q (.bl true) H) : rIs K [.str z, .ty "str"] H Q := ⟨_, _, _, _, rfl, .str z, kit_same K _, h⟩
end
end L2
namespace L2
open PySem PySem.Spec PyProof.Rows Bg
section
variable {prog : Program} {w : World} {A : Around} {E : Value → Shared → Prop} {s : Shared} {R : Result → Shared → Prop}
variable {I : Addr} {fp wr : List Addr} {G : Array GenState → Array GenState → Prop} {n : Nat} {P : Nat → Value → Prop} {St : Nat → Shared → Prop}
end
end L2
namespace L2
open PySem PySem.Spec PyProof.Rows Bg
section
variable {X : Cx} {e : Expr} {te : TE} {p1 p2 pos pos2 : Pos}
end
end L2
namespace L2
open PySem PySem.Spec PyProof.Rows Bg
def rNeS (K : PySem.W.Frag) : R2 := fun x y H Q => ∃ a b xs, x = .ref a ∧ y = .ref b ∧ SqL K H a xs ∧ SqL K H b xs ∧ (∀ v ∈ xs, ∃ p, v = .ref p) ∧ Q (.bl false) H
theorem refs_eq : ∀ {xs : List V} {us ws : List Value}, Vals xs us → Vals xs ws → (∀ v ∈ xs, ∃ p, v = .ref p) → us = ws
  | _, _, _, .nil, .nil, _ => rfl
  | _, _, _, .cons r t, .cons r' t', h => by
    obtain ⟨p, rfl⟩ := h _ List.mem_cons_self
    cases r
    cases r'
    rw [refs_eq t t' fun v hv => h v (List.mem_cons_of_mem _ hv)]
theorem op_neS {X : Cx} (hu : X.A.units + 64 < cLine) : OpR X (compareOp .NotEq) (rNeS X.K) := by
  intro pins s σ H x y v u Q I rx ry h
  obtain ⟨a, b, xs, rfl, rfl, ha, hb, hr, q⟩ := h
  cases rx
  cases ry
  obtain ⟨is, r1, p1, _⟩ := I.list ha
  obtain ⟨js, r2, p2, _⟩ := I.list hb
  have e := refs_eq r1 r2 hr
  subst e
  refine SeqAt.RcNeAt.lists (e := fun _ => true) p1.isList p2.isList rfl (by omega) (fun j h1 h2 => SeqAt.EqAt.same _) X.prog X.w X.xe _ ?_
  have z : (List.range is.toArray.size).all (fun _ => true) = true := by simp
  rw [z]
  exact ⟨.bl false, H, I, rfl, q⟩
theorem eqv_two {X : Cx} {n : Nat} {H : Hp} {a b r1 r2 s1 s2 : Addr} (ha : H a = some (.tup [.ref r1, .ref r2])) (hb : H b = some (.tup [.ref s1, .ref s2])) (e1 : EqV X n H (.ref r1) (.ref s1) true) (e2 : EqV X n H (.ref r2) (.ref s2) true) : EqV X (n + 1) H (.ref a) (.ref b) true :=
  EqV.tup (X := X) (n := n) (bs := [true, true]) (SqT.of ha) (SqT.of hb) (.cons e1 (.cons e2 .nil)) (fun _ => rfl)
end L2
namespace Bg
end Bg
namespace Bg
end Bg
namespace L2
open PySem PySem.Spec PyProof.Rows Bg
end L2
namespace L2
open PySem PySem.Spec PyProof.Rows Bg
end L2
namespace L2
open PySem PySem.Spec PyProof.Rows Bg
section
variable {X : Cx}
end
section
variable {K : PySem.W.Frag} {H : Hp} {Q : VK} {σ : St} {D : Ends}
end
structure Ln where
  p : Addr
  s : Sd
def Ln.v (c : Ln) : V := .ref c.p
def Ln.u (c : Ln) : Int × Int := (c.s.x, c.s.y)
end L2
namespace L2
open PySem PySem.Spec PyProof.Rows Bg
section
variable {X : Cx} {tg : Expr}
end
section
variable {K : PySem.W.Frag} {H : Hp} {Q : VK}
theorem i_slFS {a : Addr} {ns : List Int} {i j : Nat} (hS : SqL K H a (ns.map V.int)) (q : ∀ (p : Addr) (H2 : Hp), Same H H2 → H2 p = some (.lst (((ns.drop i).take (j - i)).map V.int)) → Q (.ref p) H2) : rSlL K (.ref a) (some (i : Int)) (some (j : Int)) H Q := by
  refine ⟨a, _, rfl, hS, fun p hp => ?_⟩
  refine q p _ (same_upd hp _) ?_
  rw [upd_same]
  unfold cutV
  rw [HT.sIx_nat, HT.sIx_nat, List.map_take, List.map_drop]
  congr 2
  generalize ns.map V.int = xs
  rcases Nat.le_total i xs.length with z | z
  · rw [Nat.min_eq_left z]
    rcases Nat.le_total j xs.length with y | y
    · rw [Nat.min_eq_left y]
    · rw [Nat.min_eq_right y, List.take_of_length_le (by rw [List.length_drop]; omega), List.take_of_length_le (by rw [List.length_drop]; omega)]
  · rw [Nat.min_eq_right z, List.drop_of_length_le (Nat.le_refl _), List.drop_of_length_le z, List.take_nil, List.take_nil]
end
end L2
namespace L2
open PySem PySem.Spec PyProof.Rows Bg
theorem Inv.turnedL {X : Cx} {pins : List (Addr × Obj)} {σ : St} {H : Hp} {s : Shared} {h' : Heap} {t' : Nat} {its : List Addr} (I : Inv X pins σ H s) (k : ∀ b o, b ∉ its → s.heap.get? b = some o → h'.get? b = some o) (hf : ∀ b ∈ its, FpOk X pins H b) : Inv X pins σ H { s with heap := h', toks := t' } := by
  have nit : ∀ b u, H b = some u → b ∉ its := fun b u e z => by have := (hf b z).1; rw [this] at e; cases e
  refine I.step (g' := s.gens) (d' := s.drawn) (ch := its) (fun b hb => ?_) (fun b o _ _ hc e _ => k b o hc e) (fun b o _ _ hc e _ => ⟨o.slots, k b o hc e⟩) (fun _ _ _ _ n => n)
    (fun b o hc e => ⟨o, k b o hc e⟩) (fun _ _ e => e) (fun _ _ _ e => e) (fun b ps e => ⟨#[], by rw [e]; simp⟩) (fun m hm => ?_) (fun b u e => ?_) I.bare
  · obtain ⟨f0, f1, f2, f3, f4, f5⟩ := hf b hb
    exact ⟨f3, f1, f4, f5⟩
  · obtain ⟨o, es, ep, ho, r⟩ := hm
    exact ⟨o, es, ep, k _ o (fun z => (hf _ z).2.1 rfl) ho, r⟩
  · refine (I.hok b u e).stay (fun c v hc q => k c v ?_ q) (fun _ q => q) fun _ _ q => q
    rcases hc with z | z
    · rw [z]; exact nit b u e
    · exact nit c _ z
def Itz (K : PySem.W.Frag) (a b : Addr) : It :=
  ⟨fun i H => ∃ xs ys x y, SqL K H a xs ∧ SqL K H b ys ∧ xs[i]? = some x ∧ ys[i]? = some y,
   fun i H v H' => ∃ T, H T = none ∧ v = .ref T ∧ ∀ xs ys, SqL K H a xs → SqL K H b ys → ∃ x y, xs[i]? = some x ∧ ys[i]? = some y ∧ H' = upd H T (.tup [x, y]),
   fun i H => ∃ xs ys, SqL K H a xs ∧ SqL K H b ys ∧ (xs.length ≤ i ∨ ys.length ≤ i)⟩
theorem get_push_ne {h : Heap} {c : Addr} {o o' : Obj} (hc : c ≠ h.objs.size) (e : (h.push o).get? c = some o') : h.get? c = some o' := by
  obtain ⟨e1, e2⟩ := Heap.get?_some_iff.mp e
  refine Heap.get?_some_iff.mpr ⟨?_, e2⟩
  cases h
  simpa [Heap.push, Array.getElem?_push, hc] using e1
theorem turn_zip {P : Program} {w : World} {K : PySem.W.Frag} {es : List Expr} {k : Nat} {pos : Pos} (a b z TI TO i1 i2 : Addr) (D : ZipApart z TI TO i1 i2 a b) : Turn P w K (.Tuple es k pos) (Itz K a b) [z, TI, TO, i1, i2] z
    (fun i h => IsZip h z TI TO .none ∧ IsPair h TI (.ref i1) (.ref i2) ∧ (∃ x y, IsPair h TO x y) ∧ h.IsListIter i1 a i ∧ h.IsListIter i2 b i) where
  mem := by simp
  obj := fun i h st c hc => by
    obtain ⟨hz, hTI, ⟨x, y, hTO⟩, ⟨o1, e1, c1, d1⟩, ⟨o2, e2, c2, d2⟩⟩ := st
    have hc' : c = z ∨ c = TI ∨ c = TO ∨ c = i1 ∨ c = i2 := by simpa using hc
    rcases hc' with rfl | rfl | rfl | rfl | rfl
    · exact ⟨_, hz, fun v q => by cases q⟩
    · exact ⟨_, hTI, fun v q => by cases q⟩
    · exact ⟨_, hTO, fun v q => by cases q⟩
    · exact ⟨o1, e1, fun v q => by rw [d1] at q; cases q⟩
    · exact ⟨o2, e2, fun v q => by rw [d2] at q; cases q⟩
  keep := fun i h h' st kk => by
    obtain ⟨hz, hTI, ⟨x, y, hTO⟩, h1, h2⟩ := st
    exact ⟨kk z (by simp) _ hz, kk TI (by simp) _ hTI, ⟨x, y, kk TO (by simp) _ hTO⟩, h1.at fun o e => kk i1 (by simp) o e, h2.at fun o e => kk i2 (by simp) o e⟩
  item := by
    intro X hP hw hK hc i pins s σ H E I hf st hg
    subst hP hw hK
    obtain ⟨xs, ys, x, y, hq1, hq2, hx, hy⟩ := hg
    obtain ⟨hz, hTI, ⟨a0, b0, hTO⟩, h1, h2⟩ := st
    obtain ⟨its1, rv1, p1, hz1⟩ := I.list hq1
    obtain ⟨its2, rv2, p2, hz2⟩ := I.list hq2
    obtain ⟨u1, hu1, ru1⟩ := rv1.get hx
    obtain ⟨u2, hu2, ru2⟩ := rv2.get hy
    refine wpAny_pyNext_zip_item D hz hTI hTO h1 h2 p1.isList p2.isList (x := u1) (y := u2) (by simpa using hu1) (by simpa using hu2) fun h' a1 a2 a3 a4 a5 a6 hk => ?_
    refine ⟨_, rfl, ?_⟩
    have lt : ∀ {c o}, s.heap.get? c = some o → s.heap.objs.size ≠ c := fun e => Nat.ne_of_gt (Heap.lt_size e)
    refine wpAny_letOwnedTupleGo_zip (s := { s with heap := h' }) a1 fun h2' hz' hs' => ?_
    have hT : H s.heap.objs.size = none := I.hok.fresh (Nat.le_refl _)
    have I0 : Inv X pins σ (upd H s.heap.objs.size (.tup [x, y])) { s with heap := s.heap.push { cls := .type "tuple", data := .seq #[u1, u2] }, toks := s.toks } :=
      I.laid (t' := s.toks) (fun b u e => Heap.get?_push_of_some _ e) (Nat.le_refl _) ⟨show [x, y].length ≤ sizeLine from small_le (by simp), [u1, u2], .cons ru1 (.cons ru2 .nil), ⟨_, Heap.get?_push_size _ rfl, rfl, _, rfl⟩⟩
    have hf' : ∀ c ∈ [z, TO, i1, i2], FpOk X pins (upd H s.heap.objs.size (.tup [x, y])) c := fun c hc => by
      have hc2 : c ∈ [z, TI, TO, i1, i2] := by
        have hc' : c = z ∨ c = TO ∨ c = i1 ∨ c = i2 := by simpa using hc
        rcases hc' with rfl | rfl | rfl | rfl <;> simp
      obtain ⟨f0, f1, f2, f3, f4, f5⟩ := hf c hc2
      have ne : c ≠ s.heap.objs.size := by
        have hc' : c = z ∨ c = TO ∨ c = i1 ∨ c = i2 := by simpa using hc
        rcases hc' with rfl | rfl | rfl | rfl
        · exact (lt hz).symm
        · exact (lt hTO).symm
        · obtain ⟨_, e, _⟩ := h1; exact (lt e).symm
        · obtain ⟨_, e, _⟩ := h2; exact (lt e).symm
      exact ⟨by rw [upd_ne ne]; exact f0, f1, f2, f3, f4, f5⟩
    have I1 := Inv.turnedL (s := { s with heap := s.heap.push { cls := .type "tuple", data := .seq #[u1, u2] }, toks := s.toks }) (h' := h2') (t' := s.toks) (its := [z, TO, i1, i2]) I0 (fun c o hc e => by
      have c1 : c ≠ z := fun q => hc (by simp [q])
      have c2 : c ≠ TO := fun q => hc (by simp [q])
      have c3 : c ≠ i1 := fun q => hc (by simp [q])
      have c4 : c ≠ i2 := fun q => hc (by simp [q])
      refine hs'.extBut _ _ c1 ?_
      by_cases hcs : c = s.heap.objs.size
      · subst hcs
        have e' : some ({ cls := .type "tuple", data := .seq #[u1, u2] } : Obj) = some o := (Heap.get?_push_size s.heap rfl).symm.trans e
        rw [← e']
        exact a5
      · refine hk c o c1 c2 c3 c4 ?_
        exact get_push_ne hcs e) hf'
    refine ⟨.ref s.heap.objs.size, _, I1, rfl, ⟨_, hT, rfl, fun xs' ys' q1 q2 => ⟨x, y, ?_, ?_, rfl⟩⟩, ⟨hz', ?_, ⟨_, _, hs'.extBut _ _ D.TOz a2⟩, a3.extBut hs'.extBut D.i1z, a4.extBut hs'.extBut D.i2z⟩, fun c hc => ?_⟩
    · rw [I.list_inj q1 hq1]; exact hx
    · rw [I.list_inj q2 hq2]; exact hy
    · exact hs'.extBut _ _ D.TIz (hk _ _ D.TIz D.TITO D.TIi1 D.TIi2 hTI)
    · have ne : c ≠ s.heap.objs.size := by
        have hc' : c = z ∨ c = TI ∨ c = TO ∨ c = i1 ∨ c = i2 := by simpa using hc
        rcases hc' with rfl | rfl | rfl | rfl | rfl
        · exact (lt hz).symm
        · exact (lt hTI).symm
        · exact (lt hTO).symm
        · obtain ⟨_, e, _⟩ := h1; exact (lt e).symm
        · obtain ⟨_, e, _⟩ := h2; exact (lt e).symm
      rw [upd_ne ne]
      exact (hf c hc).1
  done := by
    intro X hP hw hK hc i pins s σ H E I hf st hg
    subst hP hw hK
    obtain ⟨xs, ys, hq1, hq2, hlen⟩ := hg
    obtain ⟨hz, hTI, ⟨a0, b0, hTO⟩, h1, h2⟩ := st
    obtain ⟨its1, rv1, p1, hz1⟩ := I.list hq1
    obtain ⟨its2, rv2, p2, hz2⟩ := I.list hq2
    have l1 := rv1.length
    have l2 := rv2.length
    refine wpAny_pyNext_zip_end (I.ok.hd hc) D hz hTI hTO h1 h2 p1.isList p2.isList ?_ fun h' hk => ⟨rfl, I.turnedL (t' := s.toks) (its := [z, TO, i1, i2]) (fun c o hc e => hk c o (fun q => hc (by simp [q])) (fun q => hc (by simp [q])) (fun q => hc (by simp [q])) (fun q => hc (by simp [q])) e) fun c hc => hf c ?_⟩
    · rcases hlen with h | h
      · exact .inl (by simp; omega)
      · exact .inr (by simp; omega)
    · have hc' : c = z ∨ c = TO ∨ c = i1 ∨ c = i2 := by simpa using hc
      rcases hc' with rfl | rfl | rfl | rfl <;> simp
  self := fun _ _ _ _ _ st h => wpAny_pyIter_zip st.1 h
section
variable {X : Cx}
def iZip (K : PySem.W.Frag) (ta : TA) : TI := fun σ H R => ta σ H fun vs H1 => ∃ a b xs ys, vs = [.ref a, .ref b] ∧ SqL K H1 a xs ∧ SqL K H1 b ys ∧ R (Itz K a b) H1
theorem pi_zip {es : List Expr} {k : Nat} {tpos : Pos} {a b : Expr} {ta : TA} {p pos : Pos} (hg : Gl X "zip") (hm : X.mg "zip" = none) (hbz : bootBuiltins "zip" = some (.type "zip")) (ha : PA X [a, b] ta) (hs : starEach [a, b] X.env = [(false, eval a X.env), (false, eval b X.env)] := by rfl) (hs2 : starEach [b] X.env = [(false, eval b X.env)] := by rfl) :
    PI X (.Tuple es k tpos) (.Call (.Name "zip" p) [a, b] [] pos) (iZip X.K ta) := by
  intro pins s σ H R I h
  refine Call_ (ld_blt I hg hm hbz (PyProof.Rows.callWith_type1 (thn (ha pos pins s σ H _ I h) fun us s1 ⟨vs, H1, I1, r1, q1⟩ => ?_) (by rw [hs, hs2]) (by rw [hs2]; rfl)))
  obtain ⟨l1, l2, xs, ys, e, q1, q2, q⟩ := q1
  subst e
  cases r1 with
  | cons r rr =>
    cases rr with
    | cons r' rr =>
      cases rr
      cases r
      cases r'
      obtain ⟨its1, rv1, p1, hz1⟩ := I1.list q1
      obtain ⟨its2, rv2, p2, hz2⟩ := I1.list q2
      have lt1 : l1 < s1.heap.objs.size := by obtain ⟨o, _, e, _⟩ := p1; exact Heap.lt_size e
      have lt2 : l2 < s1.heap.objs.size := by obtain ⟨o, _, e, _⟩ := p2; exact Heap.lt_size e
      refine call_zip_2 p1.isList p2.isList fun h' hz hTI hTO hi1 hi2 hsz hk => ?_
      refine wpAny_pyIter_zip (s := { s1 with heap := h' }) hz ?_
      have D : ZipApart (s1.heap.objs.size + 4) (s1.heap.objs.size + 2) (s1.heap.objs.size + 3) s1.heap.objs.size (s1.heap.objs.size + 1) l1 l2 :=
        PySem.W.ktu_apart _ _ _ lt1 lt2
      refine ⟨_, [_, _, _, _, _], _, _, H1, rfl, I1.kept (t' := s1.toks) hk, turn_zip l1 l2 _ _ _ _ _ D, ⟨hz, hTI, ⟨_, _, hTO⟩, hi1, hi2⟩, fun c hc => ?_, q⟩
      have hc' : c = s1.heap.objs.size + 4 ∨ c = s1.heap.objs.size + 2 ∨ c = s1.heap.objs.size + 3 ∨ c = s1.heap.objs.size ∨ c = s1.heap.objs.size + 1 := by simpa using hc
      have hge : s1.heap.objs.size ≤ c := by
        rcases hc' with rfl | rfl | rfl | rfl | rfl
        · exact Nat.le_add_right ..
        · exact Nat.le_add_right ..
        · exact Nat.le_add_right ..
        · exact Nat.le_refl _
        · exact Nat.le_add_right ..
      exact I1.fpOk hge (I1.hok.fresh hge)
theorem i_forZ {K : PySem.W.Frag} {σ : St} {H : Hp} {E : Ends} {g : TG} {ta : TA} {tb : TS} (h : ta σ H fun vs H1 => ∃ a b xs ys, vs = [.ref a, .ref b] ∧ SqL K H1 a xs ∧ SqL K H1 b ys ∧ ∃ W : Nat → Nat → St → Hp → Prop, (∃ m, W 0 m σ H1) ∧ ∀ i m σ H, W i m σ H →
  ((Itz K a b).stop i H ∧ E.nx σ H) ∨ ((Itz K a b).go i H ∧ ∃ N : St → Hp → Prop, (∀ σ' H', N σ' H' → ∃ m', m' < m ∧ W (i + 1) m' σ' H') ∧ ∀ x H', (Itz K a b).yld i H x H' → g x σ H' fun σ2 H2 => tb { E with nx := N, ct := N, bk := E.nx } σ2 H2)) :
  tFor (iZip K ta) g tb E σ H := h
theorem for_zip {K : PySem.W.Frag} {a b : Addr} {xs ys : List V} {g : TG} {tb : TS} {D : Ends} {σ : St} {H : Hp} (hlen : xs.length = ys.length) (Pv : Nat → St → Hp → Prop) (h0 : Pv 0 σ H) (hl : ∀ i σ H, i ≤ xs.length → Pv i σ H → SqL K H a xs ∧ SqL K H b ys)
    (hs : ∀ i x y T σ H, xs[i]? = some x → ys[i]? = some y → H T = none → Pv i σ H → g (.ref T) σ (upd H T (.tup [x, y])) fun σ2 H2 => tb { D with nx := Pv (i + 1), ct := Pv (i + 1), bk := D.nx } σ2 H2) (hd : ∀ σ H, Pv xs.length σ H → D.nx σ H) :
    ∃ W : Nat → Nat → St → Hp → Prop, (∃ m, W 0 m σ H) ∧ ∀ i m σ H, W i m σ H →
      ((Itz K a b).stop i H ∧ D.nx σ H) ∨ ((Itz K a b).go i H ∧ ∃ N : St → Hp → Prop, (∀ σ' H', N σ' H' → ∃ m', m' < m ∧ W (i + 1) m' σ' H') ∧ ∀ x H', (Itz K a b).yld i H x H' → g x σ H' fun σ2 H2 => tb { D with nx := N, ct := N, bk := D.nx } σ2 H2) := by
  refine ⟨fun i m σ H => m = xs.length - i ∧ i ≤ xs.length ∧ Pv i σ H, ⟨xs.length, by simp, Nat.zero_le _, h0⟩, ?_⟩
  rintro i m σ H ⟨rfl, hi, p⟩
  obtain ⟨q1, q2⟩ := hl i σ H hi p
  by_cases hlt : i < xs.length
  · have hlt2 : i < ys.length := by omega
    refine .inr ⟨⟨xs, ys, xs[i], ys[i], q1, q2, by simp [hlt], by simp [hlt2]⟩, Pv (i + 1), fun σ' H' p' => ⟨xs.length - (i + 1), by omega, rfl, hlt, p'⟩, fun v H' yy => ?_⟩
    obtain ⟨T, hT, rfl, yy⟩ := yy
    obtain ⟨x, y, hx, hy, rfl⟩ := yy xs ys q1 q2
    exact hs i x y T σ H hx hy hT p
  · have e : i = xs.length := by omega
    subst e
    exact .inl ⟨⟨xs, ys, q1, q2, .inl (Nat.le_refl _)⟩, hd σ H p⟩
end
end L2
namespace L2
open PySem PySem.Spec PyProof.Rows Bg
section
variable {X : Cx}
end
end L2
namespace L2
open PySem PySem.Spec PyProof.Rows Bg
section
variable {X : Cx}
def rBits : V → List V → Hp → VK → Prop := fun x vs H Q => ∃ i : Int, x = .int i ∧ vs = [] ∧ Q (.int ((Builtin.Int.intBits i : Nat) : Int)) H
theorem mt_bits : MtR X "int.bit_length" rBits := by
  intro pins s σ H x xs v us Q I rx rv h
  obtain ⟨i, rfl, rfl, q⟩ := h
  obtain ⟨t, rfl⟩ := rx
  have hus := rv.zero
  subst hus
  exact call_int_bit_length ⟨.int _, H, I.tok _, ⟨_, rfl⟩, q⟩
theorem i_bits {i : Int} {H : Hp} {Q : VK} (q : Q (.int ((Builtin.Int.intBits i : Nat) : Int)) H) : rBits (.int i) [] H Q := ⟨i, rfl, rfl, q⟩
theorem i_tyI {K : PySem.W.Frag} {H : Hp} {z : Int} {R : Prop} (q : R) : tyV K "int" (.int z) H ∧ R := ⟨rfl, q⟩
end
theorem bits_le {k : Nat} {i : Int} (h : Bd k i) : ¬ ((k : Int) < ((Builtin.Int.intBits i : Nat) : Int)) := by
  unfold Builtin.Int.intBits
  by_cases c : i = 0
  · subst c
    rw [if_pos (by decide)]
    omega
  · rw [if_neg (by simpa using c)]
    have h1 : i.natAbs.log2 < k := (Nat.log2_lt (by omega)).mpr h
    omega
end L2
namespace L2
open PySem PySem.Spec PyProof.Rows Bg
section
variable {X : Cx}
end
end L2
namespace L2
open PySem PySem.Spec PyProof.Rows Bg
section
variable {X : Cx} {tg : Expr}
end
section
variable {g : TG} {tc : TT} {te : TE} {σ0 : St} {H1 : Hp} {D : Addr}
end
end L2
namespace L2
open PySem PySem.Spec PyProof.Rows Bg
section
variable {X : Cx}
end
end L2
namespace L2
open PySem PySem.Spec PyProof.Rows Bg
section
variable {X : Cx} {tg : Expr}
end
end L2
namespace L2
open PySem PySem.Spec PyProof.Rows Bg
end L2
namespace L2
open PySem PySem.Spec PyProof.Rows Bg
section
variable {X : Cx}
end
end L2
namespace L2
open PySem PySem.Spec PyProof.Rows Bg
section
variable {X : Cx}
end
def TopS (mg : Str → Option Value) (x : Str) (z : Str) : Prop := ∃ u, mg x = some u ∧ RelV (.str z) u
theorem topS_mk {K : PySem.W.Frag} {h : Heap} {mg : Str → Option Value} {x z : Str} {t : Tok} (X : K.In h) (G : h.Ns mainGlobals mg) (e : PySem.W.nsIn K mainGlobals x = some (some (.str z t))) : TopS mg x z := ⟨_, PySem.W.mg_of X G e, ⟨t, rfl⟩⟩
section
variable {K : PySem.W.Frag} {σ : St} {H : Hp} {Q : VK}
end
end L2
namespace L2
open PySem PySem.Spec PyProof.Rows Bg Builtin Builtin.Str
section
variable {X : Cx}
end
section
variable {H : Hp} {Q : VK}
end
end L2
namespace L2
open PySem PySem.Spec PySem.W PySem.Calls PyProof.Rows Bg PySem.Builtin PySem.Builtin.ObjectAttr PySem.Builtin.Getset_descriptor
section
variable {prog : Program} {w : World} {A : Around} {E : Value → Shared → Prop} {K : Frag} {x C : Addr} {h : Heap} {g : Array GenState} {d : Drawn} {t : Nat} {os : OsState}
end
end L2
namespace L2
open PySem PySem.Spec PyProof.Rows Bg
section
variable {X : Cx} {pins : List (Addr × Obj)} {σ : St} {H : Hp} {s : Shared}
end
section
variable {P : Program} {w : World} {K : PySem.W.Frag} {mg : Str → Option Value} {base : Heap} {N : List Str} {qual : Str} {scope : Scope} {f : Addr} {cd : Value} {A : Around} {outer : List Env} {s0 : Shared} {H0 : Hp} {E : XK}
end
end L2
namespace L2
open PySem PySem.Spec PyProof.Rows Bg
section
variable {X : Cx} {pl pins : List (Addr × Obj)} {σ : St} {H : Hp} {s : Shared} {EE : St → XK} {a : Addr}
end
end L2
namespace L2
open PySem PySem.Spec PyProof.Rows Bg
section
variable {X : Cx} {k j : Nat} {x : Str} {ps : List Str} {dvs : List V} {sp : Sp} {p pos : Pos} {e : Expr} {es : List Expr} {t : TA} {E : XK}
end
section
variable {P : Program} {w : World} {K : PySem.W.Frag} {mg : Str → Option Value} {base : Heap}
end
end L2
namespace L2
open PySem PySem.Spec PyProof.Rows Bg
section
variable {X : Cx} {pins : List (Addr × Obj)} {σ : St} {H : Hp} {s : Shared} {pos : Pos}
theorem big_of (I : Inv X pins σ H s) : sysModules < s.heap.objs.size := Nat.lt_trans (by decide) (show mainGlobals < s.heap.objs.size from (I.mod.glob.keeps I.bk).lt)
theorem dnew {P : Program} {w : World} {H : Hp} (h : Heap) (hb : sysModules < h.objs.size) : ObjOk P w H (h.push { cls := .type "dict", data := .dict #[] }) h.objs.size (.dK []) :=
  ⟨Nat.zero_le _, beq_eq_false_iff_ne.mpr (Ne.symm (Nat.ne_of_lt hb)), [], .nil, Heap.DictOf.new h⟩
def tDict0 : TE := fun _ H Q => ∀ p H', H p = none → Same H H' → H' p = some (.dK []) → Q (.ref p) H'
theorem pe_dict0 : PE X (.Dict [] [] pos) tDict0 := fun pins s σ H Q I h =>
  wpAny_Dict_empty ⟨.ref s.heap.objs.size, _, I.laid (a := s.heap.objs.size) (o := .dK []) (t' := s.toks) (fun _ _ q => Heap.get?_push_of_some _ q) (Nat.le_refl _) (dnew s.heap (big_of I)), rfl,
    h _ _ (I.hok.fresh (Nat.le_refl _)) (same_upd (I.hok.fresh (Nat.le_refl _)) _) upd_same⟩
theorem i_dict0 {σ : St} {H : Hp} {Q : VK} (q : ∀ p H', H p = none → Same H H' → H' p = some (.dK []) → Q (.ref p) H') : tDict0 σ H Q := q
end
end L2
namespace L2
open PySem PySem.Spec PyProof.Rows Bg
section
variable {X : Cx}
structure WE (X : Cx) (e : Expr) (t : TE) : Prop where
  w : PE X e t
structure WA (X : Cx) (es : List Expr) (t : TA) : Prop where
  w : PA X es t
def isStar : Expr → Bool
  | .Starred _ _ => true
  | _ => false
theorem star_no {e : Expr} {es : List Expr} {env : Env} (h : isStar e = false) : starEach (e :: es) env = (false, eval e env) :: starEach es env := by
  cases e <;> first | rfl | exact absurd (show true = false from h) (by decide)
theorem we_of {e : Expr} {t : TE} (h : PE X e t) : WE X e t := ⟨h⟩
theorem wa_nil : WA X [] tNil := ⟨pa_nil⟩
theorem wa_cons {e : Expr} {es : List Expr} {te : TE} {t : TA} (ha : WE X e te) (hr : WA X es t) (h : isStar e = false := by rfl) : WA X (e :: es) (tCons te t) := ⟨pa_cons ha.w hr.w (star_no h)⟩
theorem we_tup {es : List Expr} {t : TA} {x1 : Nat} {pos : Pos} (h : WA X es t) : WE X (.Tuple es x1 pos) (tTup t) := ⟨pe_tup h.w⟩
theorem we_lst {es : List Expr} {t : TA} {pos : Pos} (h : WA X es t) : WE X (.List es pos) (tLst t) := ⟨pe_lst h.w⟩
end
end L2
namespace L2
open PySem PySem.Spec PyProof.Rows Bg
end L2
namespace L2
open PySem PySem.Spec PyProof.Rows Bg
end L2
namespace L2
open PySem PySem.Spec PyProof.Rows Bg
end L2
namespace L2
open PySem PySem.Spec PyProof.Rows Bg
end L2
namespace L2
open PySem PySem.Spec PyProof.Rows Bg
section
variable {X : Cx}
end
end L2
namespace L2
open PySem PySem.Spec PyProof.Rows Bg
theorem rc_lst {X : Cx} {n : Nat} {H : Hp} {a b : Addr} {xs ys : List V} {bs : List Bool} {pins : List (Addr × Obj)} {σ : St} {s : Shared} {A : Around} (ha : SqL X.K H a xs) (hb : SqL X.K H b ys) (he : EqVs X n H xs ys bs) (I : Inv X pins σ H s) (hu : A.units + 4 * (n + 1) < cLine) :
    ∃ (is js : Array Value), s.heap.IsList a is ∧ s.heap.IsList b js ∧ is.size = js.size ∧ (∀ j (h1 : j < is.size) (h2 : j < js.size), SeqAt.EqAt A.in1 s is[j] js[j] (bs.getD j false)) ∧ ((List.range is.size).all (fun j => bs.getD j false)) = bs.all id := by
  obtain ⟨is, r1, p1, _⟩ := I.list ha
  obtain ⟨js, r2, p2, _⟩ := I.list hb
  obtain ⟨l1, l2⟩ := he.len
  have q1 := r1.length
  have q2 := r2.length
  refine ⟨is.toArray, js.toArray, p1.isList, p2.isList, by rw [List.size_toArray, List.size_toArray]; omega, fun j h1 h2 => ?_, ?_⟩
  · have hj1 : j < xs.length := by rw [q1]; simpa using h1
    have hj2 : j < ys.length := by rw [q2]; simpa using h2
    obtain ⟨v, ev, rv⟩ := r1.get (List.getElem?_eq_getElem hj1)
    obtain ⟨u, eu, ru⟩ := r2.get (List.getElem?_eq_getElem hj2)
    have e1 : is.toArray[j] = v := by
      have : is[j]? = some v := ev
      rw [List.getElem?_eq_getElem (by simpa using h1)] at this
      simpa using Option.some.inj this
    have e2 : js.toArray[j] = u := by
      have : js[j]? = some u := eu
      rw [List.getElem?_eq_getElem (by simpa using h2)] at this
      simpa using Option.some.inj this
    rw [e1, e2]
    exact he.at (List.getElem?_eq_getElem hj1) (List.getElem?_eq_getElem hj2) pins σ s v u A.in1 I rv ru (by show A.units + 1 + 4 * n < cLine; omega)
  · have e1 : is.toArray.size = bs.length := by rw [List.size_toArray]; omega
    rw [e1, all_getD]
def rEqL (X : Cx) : R2 := fun x y H Q => ∃ a b xs ys bs n, x = .ref a ∧ y = .ref b ∧ n ≤ 9 ∧ SqL X.K H a xs ∧ SqL X.K H b ys ∧ EqVs X n H xs ys bs ∧ Q (.bl (bs.all id)) H
theorem op_eqL {X : Cx} (hu : X.A.units + 64 < cLine) : OpR X (compareOp .Eq) (rEqL X) := by
  intro pins s σ H x y v u Q I rx ry h
  obtain ⟨a, b, xs, ys, bs, n, rfl, rfl, hn, ha, hb, he, q⟩ := h
  cases rx
  cases ry
  obtain ⟨is, js, p1, p2, hz, hj, e⟩ := rc_lst (A := X.A) ha hb he I (by omega)
  refine SeqAt.eq_listAt p1 p2 hz (by omega) hj ?_
  rw [e]
  exact ⟨.bl _, H, I, rfl, q⟩
theorem i_eqLI {X : Cx} {H : Hp} {Q : VK} {a b : Addr} {ns : List Int} (ha : H a = some (.lst (ns.map V.int))) (hb : H b = some (.lst (ns.map V.int))) (q : Q (.bl true) H) : rEqL X (.ref a) (.ref b) H Q := by
  have key : ∀ ms : List Int, EqVs X 0 H (ms.map V.int) (ms.map V.int) (ms.map fun _ => true) := by
    intro ms
    induction ms with
    | nil => exact .nil
    | cons m ms ih =>
      have e : EqV X 0 H (.int m) (.int m) true := by
        have := EqV.int (X := X) (n := 0) (H := H) m m
        simpa using this
      exact .cons e ih
  refine ⟨a, b, _, _, _, 0, rfl, rfl, Nat.zero_le _, SqL.of ha, SqL.of hb, key ns, ?_⟩
  have e : (ns.map fun _ => true).all id = true := by simp
  rw [e]
  exact q
theorem i_eqLB {X : Cx} {H : Hp} {Q : VK} {a b : Addr} {C D : List Cell} (ha : H a = some (.lst (C.map Cell.v))) (hb : H b = some (.lst (D.map Cell.v))) (hC : ∀ c ∈ C, c.At H) (hD : ∀ c ∈ D, c.At H) (e : C.map Cell.b = D.map Cell.b) (q : Q (.bl true) H) : rEqL X (.ref a) (.ref b) H Q := by
  have key : ∀ (C D : List Cell), (∀ c ∈ C, c.At H) → (∀ c ∈ D, c.At H) → C.map Cell.b = D.map Cell.b → EqVs X 2 H (C.map Cell.v) (D.map Cell.v) (C.map fun _ => true) := by
    intro C
    induction C with
    | nil =>
      intro D _ _ e
      have : D = [] := by
        cases D with
        | nil => rfl
        | cons d D => simp at e
      subst this
      exact .nil
    | cons c C ih =>
      intro D hC hD e
      cases D with
      | nil => simp at e
      | cons d D =>
        simp only [List.map_cons, List.cons.injEq] at e
        have ac := hC c List.mem_cons_self
        have ad := hD d List.mem_cons_self
        have w1 := ac.w
        have w2 := ad.w
        have h1 := ac.h
        have h2 := ad.h
        rw [← e.1] at w2 h2
        have e2 : EqV X 2 H (.ref c.p) (.ref d.p) true := eqv_two ac.t ad.t (eqv3 w1 w2) (eqv3 h1 h2)
        exact .cons e2 (ih D (fun x hx => hC x (List.mem_cons_of_mem _ hx)) (fun x hx => hD x (List.mem_cons_of_mem _ hx)) e.2)
  refine ⟨a, b, _, _, _, 2, rfl, rfl, by decide, SqL.of ha, SqL.of hb, key C D hC hD e, ?_⟩
  have e' : (C.map fun _ => true).all id = true := by simp
  rw [e']
  exact q
theorem i_clear {H : Hp} {Q : VK} {l : Addr} {xs : List V} (h : H l = some (.lst xs)) (q : ∀ H2, SameX l H H2 → Q .non H2) : rClear (.ref l) [] H Q := ⟨l, xs, rfl, rfl, h, q _ fun b o e n => by rw [upd_ne n]; exact e⟩
structure H5 (d N : Int) (H : Hp) (p : Addr) (C : List Cell) : Prop where
  l : H p = some (.lst (C.map Cell.v))
  at' : ∀ c ∈ C, c.At H
  ok : ∀ c ∈ C, B5 d N c.b
end L2
namespace L2
open PySem PySem.Spec PyProof.Rows Bg
section
variable {M : Model} {A : Around} {E : Value → Shared → Prop} {s : Shared}
end
section
variable {X : Cx} {pins : List (Addr × Obj)} {σ : St} {H : Hp} {s : Shared}
end
section
variable {X : Cx} {pins : List (Addr × Obj)} {σ : St} {H : Hp} {s : Shared} {scope : Scope} {cl : List (Str × Addr)} {own : List Str} {js : List Nat} {fp : List Addr} {C : Addr} {s3 : Shared} {H3 : Hp} {E : XK}
end
end L2
namespace L2
open PySem PySem.Spec PyProof.Rows Bg
section
variable {X : Cx} {pins : List (Addr × Obj)} {σ : St} {H : Hp} {s : Shared} {scope : Scope} {cl : List (Str × Addr)} {own : List Str} {js : List Nat} {fp : List Addr} {E : XK}
end
end L2
namespace L2
open PySem PySem.Spec PyProof.Rows Bg
end L2
namespace L2
open PySem PySem.Spec PyProof.Rows Bg
theorem Inv.retrack {X : Cx} {pins : List (Addr × Obj)} {σ : St} {H : Hp} {s : Shared} {d : Addr} {u u' : HO} (I : Inv X pins σ H s) (e : H d = some u) (nf : ∀ o v, X.H₀ d ≠ some (.frz o v)) (nt : ∀ xs, u ≠ .tup xs) (nb : ∀ ps, u ≠ .tbl ps) (no : ∀ y, u ≠ .own y)
    (new : ObjOk X.prog X.w H s.heap d u') (no' : ∀ y, u' ≠ .own y) : Inv X pins σ (upd H d u') s := by
  have ne : ∀ {b}, H b = none → b ≠ d := fun {b} q z => by rw [z, e] at q; cases q
  have st : ∀ b v, ObjOk X.prog X.w H s.heap b v → ObjOk X.prog X.w (upd H d u') s.heap b v := fun b v x => x.stay (fun c w' _ q => q)
    (fun c q => by rw [upd_ne (fun z => no _ (by rw [z, e] at q; exact Option.some.inj q))]; exact q)
    (fun c xs q => by rw [upd_ne (fun z => nt _ (by rw [z, e] at q; exact Option.some.inj q))]; exact q)
  refine ⟨I.ok, I.os, I.bare, ⟨I.base.keep, I.base.slot, fun b o q n hx => ?_, I.base.there, fun b xs q => ?_, fun b o v q => ?_, fun b ps q => ?_⟩, I.loc, I.cell, ?_, fun x c q => ?_, fun p hp => ?_, fun b v q => ?_, I.len⟩
  · have k := I.base.free b o q n hx
    rw [upd_ne (ne k)]
    exact k
  · have k := I.base.tups b xs q
    rw [upd_ne (fun z => nt xs (by rw [z, e] at k; exact Option.some.inj k))]
    exact k
  · have k := I.base.frzs b o v q
    rw [upd_ne (fun z => nf o v (by rw [← z]; exact q))]
    exact k
  · obtain ⟨more, k⟩ := I.base.tbls b ps q
    exact ⟨more, by rw [upd_ne (fun z => nb _ (by rw [z, e] at k; exact Option.some.inj k))]; exact k⟩
  · rw [upd_ne (ne I.free)]; exact I.free
  · rw [upd_ne (ne (I.freeC x c q))]; exact I.freeC x c q
  · obtain ⟨k1, k2, k3⟩ := I.pin p hp
    exact ⟨k1, by rw [upd_ne (ne k2)]; exact k2, k3⟩
  · by_cases z : b = d
    · subst z
      rw [upd_same] at q
      cases q
      exact st _ _ new
    · rw [upd_ne z] at q
      exact st _ _ (I.hok b v q)
def Itd (d : Addr) (ob : Obj) (kvs : List (Key × V)) : It :=
  ⟨fun i H => H d = some (.frz ob (.dK kvs)) ∧ i < kvs.length, fun i H x H' => H' = H ∧ ∃ kv, kvs[i]? = some kv ∧ x = kV kv.1, fun i H => H d = some (.frz ob (.dK kvs)) ∧ kvs.length ≤ i⟩
theorem rel_key {P : Program} {w : World} {k : Key} {u : Value} (h : (mixKind P w).is k u = true) : RelV (kV k) u := by
  cases k with
  | inl i =>
    have h : Value.isInt i u = true := h
    unfold Value.isInt at h
    split at h
    · exact ⟨_, by rw [show i = _ from (beq_iff_eq.mp h).symm]⟩
    · cases h
  | inr x =>
    have h : Value.isStrOf x u = true := h
    unfold Value.isStrOf at h
    split at h
    · exact ⟨_, by rw [show x = _ from (beq_iff_eq.mp h).symm]⟩
    · cases h
theorem frz_dict {P : Program} {w : World} {H : Hp} {h : Heap} {d : Addr} {ob : Obj} {es : Array DictEntry} {ep : Nat} {kvs : List (Key × V)} (hdat : ob.data = .dict es ep) (ok : HOk P w H h) (e : H d = some (.frz ob (.dK kvs))) : ∃ vs, KV kvs vs ∧ h.DictAt (mixKind P w) d vs ep := by
  obtain ⟨g, _, _, vs, r, o, es', ep', g', c, dd, r2⟩ := ok d _ e
  have : o = ob := by rw [g] at g'; exact (Option.some.inj g').symm
  subst this
  rw [hdat] at dd
  cases dd
  exact ⟨vs, r, o, es, g, c, hdat, r2⟩
theorem turn_dict {P : Program} {w : World} {K : PySem.W.Frag} {tg : Expr} (d it : Addr) {ob : Obj} {es : Array DictEntry} {ep : Nat} {kvs : List (Key × V)} (hdat : ob.data = .dict es ep) : Turn P w K tg (Itd d ob kvs) [it] it (fun i h => h.IsKeyIter it d i kvs.length ep) where
  mem := by simp
  obj := fun i h st b hb => by
    have e : b = it := by simpa using hb
    subst e
    obtain ⟨o, e, c, dd⟩ := st
    exact ⟨o, e, fun v z => by rw [dd] at z; cases z⟩
  keep := fun i h h' st k => st.at fun o e => k it (by simp) o e
  item := by
    intro X hP hw hK hc i pins s σ H E I hf st hg
    subst hP hw hK
    obtain ⟨hfz, hi⟩ := hg
    obtain ⟨vs, r, da⟩ := frz_dict hdat I.hok hfz
    have hl := r.length
    obtain ⟨f0, f1, f2, f3, f4, f5⟩ := hf it (by simp)
    obtain ⟨⟨k, v⟩, hk⟩ : ∃ p, vs[i]? = some p := ⟨vs[i]'(by omega), by simp⟩
    have hkk : kvs[i]?.map (·.1) = some k := by
      have := congrArg (·[i]?) r.keys
      simp only [List.getElem?_map, hk] at this
      exact this
    obtain ⟨kv, hkv, ekv⟩ : ∃ kv, kvs[i]? = some kv ∧ kv.1 = k := by
      cases q : kvs[i]? with
      | none => rw [q] at hkk; cases hkk
      | some kv => rw [q] at hkk; exact ⟨kv, rfl, Option.some.inj hkk⟩
    rw [hl] at st ⊢
    refine wpAny_pyNext_dict_item st da hk fun key h' hkey st' sb => ?_
    have I1 : Inv X pins σ H { s with heap := h' } := I.turned (t' := s.toks) (fun b o hb e => (sb.2 b hb).trans e) f0 f1 f3 f4 f5
    obtain ⟨o, e, c, dd⟩ := id st'
    exact ⟨key, rfl, go_of (s := { s with heap := h' }) e c dd (by decide) ⟨kV k, H, I1, rel_key hkey, ⟨rfl, kv, hkv, by rw [ekv]⟩, st', fun b hb => (hf b hb).1⟩⟩
  done := by
    intro X hP hw hK hc i pins s σ H E I hf st hg
    subst hP hw hK
    obtain ⟨hfz, hi⟩ := hg
    obtain ⟨vs, r, da⟩ := frz_dict hdat I.hok hfz
    have hl := r.length
    obtain ⟨f0, f1, f2, f3, f4, f5⟩ := hf it (by simp)
    rw [hl] at st
    exact wpAny_pyNext_dict_end (I.ok.hd hc) st da (List.getElem?_eq_none (by omega)) fun h' eb => ⟨rfl, I.turned (t' := s.toks) (fun b o hb e => eb b o hb e) f0 f1 f3 f4 f5⟩
  self := fun _ _ _ _ _ st h => wpAny_pyIter_keyiter st h
def NoFz (H₀ : Hp) (d : Addr) : Prop := ∀ o v, H₀ d ≠ some (.frz o v)
def iDict (H₀ : Hp) (td : TE) : TI := fun σ H R => td σ H fun x H1 => ∃ d kvs, x = .ref d ∧ H1 d = some (.dK kvs) ∧ ∀ ob, NoFz H₀ d → R (Itd d ob kvs) (upd H1 d (.frz ob (.dK kvs)))
theorem Inv.nofrz {X : Cx} {pins : List (Addr × Obj)} {σ : St} {H : Hp} {s : Shared} {d : Addr} {kvs : List (Key × V)} (I : Inv X pins σ H s) (e : H d = some (.dK kvs)) : ∀ o v, X.H₀ d ≠ some (.frz o v) := fun o v q => by
  have k := I.base.frzs d o v q
  rw [e] at k
  cases k
theorem Inv.freeze {X : Cx} {pins : List (Addr × Obj)} {σ : St} {H : Hp} {s : Shared} {d : Addr} {kvs : List (Key × V)} {ob : Obj} (I : Inv X pins σ H s) (e : H d = some (.dK kvs)) (g : s.heap.get? d = some ob) : Inv X pins σ (upd H d (.frz ob (.dK kvs))) s :=
  I.retrack e (I.nofrz e) (fun _ z => by cases z) (fun _ z => by cases z) (fun _ z => by cases z) ⟨g, I.hok d _ e⟩ (fun _ z => by cases z)
theorem Inv.thaw {X : Cx} {pins : List (Addr × Obj)} {σ : St} {H : Hp} {s : Shared} {d : Addr} {kvs : List (Key × V)} {ob : Obj} (I : Inv X pins σ H s) (nf : ∀ o v, X.H₀ d ≠ some (.frz o v)) (e : H d = some (.frz ob (.dK kvs))) : Inv X pins σ (upd H d (.dK kvs)) s :=
  I.retrack e nf (fun _ z => by cases z) (fun _ z => by cases z) (fun _ z => by cases z) (I.hok d _ e).2 (fun _ z => by cases z)
theorem pi_dict {X : Cx} {tg e : Expr} {td : TE} (hd : PE X e td) : PI X tg e (iDict X.H₀ td) := by
  intro pins s σ H R I h
  refine thn (hd pins s σ H _ I h) fun v s1 ⟨x, H1, I1, r1, q1⟩ => ?_
  obtain ⟨d, kvs, ex, hq, q⟩ := q1
  subst ex
  cases r1
  obtain ⟨z, y, vs, r, dof⟩ := id (I1.hok d _ hq)
  obtain ⟨ep, o, es, ho, r2⟩ := dof.dictAt
  obtain ⟨c, hdat, r3⟩ := id r2
  refine wpAny_pyIter_dict y ⟨o, es, ho, r2⟩ ?_
  have I2 := (I1.kept (h' := s1.heap.push { cls := .type "dict_keyiterator", data := .fields #[.ref d, .int 0 0, .int vs.length 0, .int ep 0] }) (t' := s1.toks) fun b o e => Heap.get?_push_of_some _ e).freeze hq (Heap.get?_push_of_some _ ho)
  refine ⟨s1.heap.objs.size, [s1.heap.objs.size], _, _, _, rfl, I2, turn_dict d _ hdat, ?_, fun b hb => ?_, q o (I1.nofrz hq)⟩
  · rw [r.length]
    exact ⟨_, Heap.get?_push_size _ rfl, rfl, rfl⟩
  · have e : b = s1.heap.objs.size := by simpa using hb
    subst e
    have hn := I1.hok.fresh (Nat.le_refl s1.heap.objs.size)
    exact I1.fpOk (Nat.le_refl _) (by rw [upd_ne (fun z => by rw [z, hq] at hn; cases hn)]; exact hn)
def tCompD (H₀ : Hp) (td : TE) (g : TG) (tc : TT) (te : TE) (n : Nat) (js : List Nat) : TE := fun σ H Q => tComp (iDict H₀ td) g tc te n js σ H fun v H2 => ∃ d ob kvs, NoFz H₀ d ∧ H2 d = some (.frz ob (.dK kvs)) ∧ Q v (upd H2 d (.dK kvs))
theorem pe_compD {X : Cx} {elt iter tgt : Expr} {ifs : List Expr} {scope : Scope} {pos : Pos} {td : TE} {g : TG} {tc : TT} {te : TE} (own : List Str) (js : List Nat)
    (hc : X.calm = true) (hi : PI X tgt iter (iDict X.H₀ td))
    (hg : ∀ cl fp C s3 H3, PG (cxComp X scope cl own js fp C s3 H3) tgt g) (ht : ∀ cl fp C s3 H3, PIfs (cxComp X scope cl own js fp C s3 H3) ifs tc) (he : ∀ cl fp C s3 H3, PE (cxComp X scope cl own js fp C s3 H3) elt te)
    (hfree' : (scope.names.all fun y => y.2 != .free || X.env.scope.names.lookup y.1 == some .cell) = true := by rfl)
    (hjs' : (js.all fun j => scope.names.lookup (X.N.getD j Str.empty) == some .free && X.env.scope.names.lookup (X.N.getD j Str.empty) == some .cell) = true := by rfl)
    (hcell' : (scope.names.all fun y => y.2 != .cell) = true := by rfl) (hnames' : (scope.names.all fun y => y.2 != .local || scope.names.lookup y.1 == some .local) = true := by rfl)
    (hkind : scope.kind = .function := by rfl) (hs : ∀ x, foldedSetIterable iter X.env x = pure x := by intro _; rfl) :
    PE X (.ListComp elt [⟨tgt, iter, ifs, 0⟩] scope pos) (tCompD X.H₀ td g tc te own.length js) := by
  intro pins s σ H Q I h
  rw [eval_ListComp]
  refine comp_any own js hc hi hg ht he (sc_free hfree') (sc_js hjs') (sc_cell hcell') (sc_names hnames') hkind hs I h fun D H3 H5 σ5 s3 s6 fp cl I3 f3 I6 qn => ?_
  obtain ⟨d, ob, kvs, nf, e, qn⟩ := qn
  obtain ⟨m, hm, _⟩ := id I6.loc
  exact ⟨m, hm, fun h' sb => ⟨.ref D, _, (comp_left I3 f3 I6 sb).thaw nf e, rfl, qn⟩⟩
section
variable {g : TG} {tc : TT} {te : TE} {D : Addr} {H1 : Hp} {σ0 : St} {Q : VK}
theorem comp_dict {R : Hp → Prop} {d : Addr} {ob : Obj} {kvs : List (Key × V)} (Pv : Nat → List V → St → Hp → Prop) (h0 : Pv 0 [] σ0 (upd H1 D (.lst [])))
    (hl : ∀ i xs σ H, i ≤ kvs.length → Pv i xs σ H → H d = some (.frz ob (.dK kvs)))
    (hs : ∀ i kv xs σ H, kvs[i]? = some kv → Pv i xs σ H → g (kV kv.1) σ H fun σ3 H3 => tc σ3 H3 fun b H4 => if b = true then te σ3 H4 fun v H5 => rAppend (.ref D) [v] H5 fun _ H6 => CNext kvs.length Pv i σ3 H6 else CNext kvs.length Pv i σ3 H4)
    (hd : ∀ xs σ H, Pv kvs.length xs σ H → R H) :
    ∃ W : Nat → Nat → St → Hp → Prop, (∃ m, W 0 m σ0 (upd H1 D (.lst []))) ∧ ∀ i m σ' H', W i m σ' H' → ((Itd d ob kvs).stop i H' ∧ R H') ∨ ((Itd d ob kvs).go i H' ∧ ∀ x H2, (Itd d ob kvs).yld i H' x H2 → g x σ' H2 fun σ3 H3 => tc σ3 H3 fun b H4 =>
      if b = true then te σ3 H4 fun v H5 => rAppend (.ref D) [v] H5 fun _ H6 => ∃ m', m' < m ∧ W (i + 1) m' σ3 H6 else ∃ m', m' < m ∧ W (i + 1) m' σ3 H4) := by
  refine ⟨fun i m σ H => m = kvs.length - i ∧ i ≤ kvs.length ∧ ∃ xs, Pv i xs σ H, ⟨kvs.length, by simp, Nat.zero_le _, [], h0⟩, ?_⟩
  rintro i m σ H ⟨rfl, hi, xs, p⟩
  have q := hl i xs σ H hi p
  by_cases hlt : i < kvs.length
  · refine .inr ⟨⟨q, hlt⟩, fun x H' y => ?_⟩
    obtain ⟨e, kv, hkv, ex⟩ := y
    subst e ex
    exact hs i kv xs σ _ hkv p
  · have e : i = kvs.length := by omega
    subst e
    exact .inl ⟨⟨q, Nat.le_refl _⟩, hd xs σ H p⟩
theorem i_compD {H₀ : Hp} {td : TE} {σ : St} {H : Hp} {n : Nat} {js : List Nat} (h : td σ H fun x H1 => ∃ d kvs, x = .ref d ∧ H1 d = some (.dK kvs) ∧ ∀ ob, NoFz H₀ d → ∀ D, (upd H1 d (.frz ob (.dK kvs))) D = none → ∃ W : Nat → Nat → St → Hp → Prop, (∃ m, W 0 m (inner n js σ) (upd (upd H1 d (.frz ob (.dK kvs))) D (.lst []))) ∧
  ∀ i m σ' H', W i m σ' H' → ((Itd d ob kvs).stop i H' ∧ ∃ d' ob' kvs', NoFz H₀ d' ∧ H' d' = some (.frz ob' (.dK kvs')) ∧ Q (.ref D) (upd H' d' (.dK kvs'))) ∨ ((Itd d ob kvs).go i H' ∧ ∀ x H2, (Itd d ob kvs).yld i H' x H2 → g x σ' H2 fun σ3 H3 => tc σ3 H3 fun b H4 =>
    if b = true then te σ3 H4 fun v H5 => rAppend (.ref D) [v] H5 fun _ H6 => ∃ m', m' < m ∧ W (i + 1) m' σ3 H6 else ∃ m', m' < m ∧ W (i + 1) m' σ3 H4)) : tCompD H₀ td g tc te n js σ H Q := h
end
def OwnM (P : Program) (w : World) (K : PySem.W.Frag) (mg : Str → Option Value) (base : Heap) (CX : CXT) (C : Addr) (k : Nat) (m : Str) (ps : List Str) (dvs : List V) (sp : Sp) : Prop :=
  ∃ (f : Addr) (fd : FuncData) (ds : List Value), FnOk P w K mg base CX k f fd ps sp ∧ Cls K C ∧ Meth K C m f ∧ Binds K fd ps ds ∧ Vals dvs ds
def OwnI (P : Program) (w : World) (K : PySem.W.Frag) (mg : Str → Option Value) (base : Heap) (CX : CXT) (C : Addr) (k : Nat) (x : Str) (ps : List Str) (dvs : List V) (sp : Sp) : Prop :=
  ∃ (f : Addr) (fd : FuncData) (ds : List Value), FnOk P w K mg base CX k f fd ps sp ∧ Mk K C f ∧ mg x = some (.ref C) ∧ Binds K fd ps ds ∧ Vals dvs ds
def OwnIK (P : Program) (w : World) (K : PySem.W.Frag) (mg : Str → Option Value) (base : Heap) (CX : CXT) (C : Addr) (k : Nat) (x : Str) (ps ks : List Str) (gV : List V → List V → List V) (sp : Sp) : Prop :=
  ∃ (f : Addr) (fd : FuncData) (g : List Value → List Value → List Value), FnOk P w K mg base CX k f fd ps sp ∧ Mk K C f ∧ mg x = some (.ref C) ∧ KBinds K fd ps ks g gV
section
variable {X : Cx} {CX : CXT} {k j : Nat} {C : Addr} {x m : Str} {ps ks : List Str} {dvs : List V} {sp : Sp} {E : XK} {p pos apos : Pos} {e o : Expr} {es : List Expr} {ta : TE} {t tk : TA} {pl : Sem Bool} {kws : List Keyword} {gV : List V → List V → List V}
theorem pe_mown (O : OwnM X.prog X.w X.K X.mg X.base CX C k m ps dvs sp) (hx : Passes CX X E) (hr : Room j X.A) (he : PE X o ta) (ha : PA X (e :: es) t) (hk : k ≤ j := by decide)
    (hst : starEach (e :: es) X.env = (false, eval e X.env) :: starEach es X.env := by rfl) (hpl : (backTo pos (starEach es X.env)).any (·.1) = false := by rfl)
    (ht : eval (.Call (.Attribute o m apos) (e :: es) [] pos) X.env = (do
      let ov ← eval o X.env
      standAt apos.atName
      let (f, first) ← holding [ov] (getMethod ov m pl)
      callWith pos f first (backTo pos (starEach (e :: es) X.env)) (backToKw pos (keywordEach [] X.env))) := by rfl) : PE X (.Call (.Attribute o m apos) (e :: es) [] pos) (tMeth C m sp dvs E ta t) := by
  obtain ⟨f, fd, ds, F, c, hm, hb, hd⟩ := O
  exact pe_meth he c hm F (hr.mono hk) hb hd hx ha hst hpl ht
theorem pe_mown0 (O : OwnM X.prog X.w X.K X.mg X.base CX C k m ps dvs sp) (hx : Passes CX X E) (hr : Room j X.A) (he : PE X o ta) (hk : k ≤ j := by decide)
    (ht : eval (.Call (.Attribute o m apos) [] [] pos) X.env = (do
      let ov ← eval o X.env
      standAt apos.atName
      let (f, first) ← holding [ov] (getMethod ov m pl)
      callWith pos f first (backTo pos (starEach [] X.env)) (backToKw pos (keywordEach [] X.env))) := by rfl) : PE X (.Call (.Attribute o m apos) [] [] pos) (tMeth C m sp dvs E ta tNil) := by
  obtain ⟨f, fd, ds, F, c, hm, hb, hd⟩ := O
  exact pe_meth0 he c hm F (hr.mono hk) hb hd hx ht
theorem pe_iown (O : OwnI X.prog X.w X.K X.mg X.base CX C k x ps dvs sp) (hx : Passes CX X E) (hr : Room j X.A) (hg : Gl X x) (ha : PA X (e :: es) t) (hk : k + 1 ≤ j := by decide)
    (hdb : (x == ("__debug__" : Str)) = false := by decide) (he : starEach (e :: es) X.env = (false, eval e X.env) :: starEach es X.env := by rfl) (hpl : (backTo pos (starEach es X.env)).any (·.1) = false := by rfl) : PE X (.Call (.Name x p) (e :: es) [] pos) (tMake C sp dvs E t) := by
  obtain ⟨f, fd, ds, F, M, hm, hb, hd⟩ := O
  exact pe_make M F (hr.mono hk) hg hm hb hd hx ha hdb he hpl
def tMakeK (C : Addr) (sp : Sp) (gV : List V → List V → List V) (E : XK) (t tk : TA) : TE := fun σ H Q => t σ H fun vs H1 => tk σ H1 fun zs H2 => ∀ y dx, H2 y = none → H2 dx = none → dx ≠ y → sp (gV (.ref y :: vs) zs) (upd (upd H2 dx (.own y)) y (.ins C dx [])) (fun v H3 => v = .non ∧ Q (.ref y) H3) E
theorem pe_iownK (O : OwnIK X.prog X.w X.K X.mg X.base CX C k x ps ks gV sp) (hx : Passes CX X E) (hr : Room j X.A) (hg : Gl X x) (ha : PA X (e :: es) t) (hkw : PK X kws tk) (hk : k + 1 ≤ j := by decide)
    (hall : (backToKw pos (keywordEach kws X.env)).all (·.1.isSome) = true := by rfl) (hks : (backToKw pos (keywordEach kws X.env)).filterMap (·.1) = ks := by rfl)
    (hdb : (x == ("__debug__" : Str)) = false := by decide) (he : starEach (e :: es) X.env = (false, eval e X.env) :: starEach es X.env := by rfl)
    (hpl : ((backTo pos (starEach (e :: es) X.env)).any (·.1) || (backToKw pos (keywordEach kws X.env)).any (·.1.isNone)) = false := by rfl) : PE X (.Call (.Name x p) (e :: es) kws pos) (tMakeK C sp gV E t tk) := by
  obtain ⟨f, fd, g, F, M, hm, hb⟩ := O
  intro pins s σ H Q I h
  refine wpAny_Call_Name_kw (ld_glob I hg hm ?_ hdb)
  refine PySem.W.callWith_KW (h₀ := X.base) I.ok.mod.kin M.kp hall (thn (ha pos pins s σ H _ I h) fun us s1 ⟨vs, H1, I1, r, q⟩ => ?_) hpl he
  refine thn (hkw pos pins s1 σ H1 _ I1 q) fun ws s2 ⟨zs, H2, I2, rz, q2⟩ => ⟨I2.kIn, ?_⟩
  rw [hks]
  have hq := q2 (s2.heap.objs.size + 1) s2.heap.objs.size (I2.hok.fresh (Nat.le_succ _)) (I2.hok.fresh (Nat.le_refl _)) (Nat.ne_of_lt (Nat.lt_succ_self _))
  have I3 := Inv.made (C := C) I2
  have r2 := hb.rel (vs := .ref (s2.heap.objs.size + 1) :: vs) (us := .ref (s2.heap.objs.size + 1) :: us) (.cons rfl r) rz
  have hl : (g (Value.ref (s2.heap.objs.size + 1) :: us) ws).length = ps.length := by rw [← r2.length]; exact F.len _ _ _ _ hq
  have hr' := hr.mono hk
  refine wpAny_call (make_map (f := f) I2.kIn M.makes M.init (beq_iff_eq.mp M.fn) (codeAny_mono (F.run _ X.stack _ _ ⟨Value.ref (s2.heap.objs.size + 1) :: us, ks.zip ws⟩ _ _ _ E (hr'.make C us (ks.zip ws))
    (I3.env0.make C us (ks.zip ws)) (hb.to _ _ ws I3.kIn hl) r2 hq) fun r s' hq' => ?_))
  cases r with
  | error e => exact hx pins σ _ _ e s' I3 hq'
  | ok fl =>
    cases fl with
    | ret u =>
      obtain ⟨v, H', I4, rv, ev, q3⟩ := I3.after hq'
      subst ev
      exact ⟨rv, ⟨V.ref (s2.heap.objs.size + 1), H', I4, rfl, q3⟩⟩
    | next => exact False.elim hq'
    | brk => exact False.elim hq'
    | cont => exact False.elim hq'
end
def TopM (K : PySem.W.Frag) (C : Addr) (m qual : Str) (st : Stmt) : Prop := ∃ (f : Addr) (fd : FuncData), Fun K m qual st f fd ∧ Meth K C m f
def TopIn (K : PySem.W.Frag) (mg : Str → Option Value) (C : Addr) (x qual : Str) (st : Stmt) (its : List Value) : Prop := ∃ (f : Addr) (fd : FuncData), FunD K "__init__" qual st f fd its ∧ Mk K C f ∧ mg x = some (.ref C)
section
variable {P : Program} {w : World} {K : PySem.W.Frag} {mg : Str → Option Value} {base : Heap} {CX : CXT} {C : Addr} {k : Nat} {x m qual : Str} {st : Stmt} {ps ks : List Str} {dvs : List V} {its ds : List Value} {sp : Sp}
theorem TopM.own (T : TopM K C m qual st) (c : Cls K C)
    (hb : ∀ (kV doc pm : Value) (an : Option Addr) (cdv ct : Value) (us : List Value), us.length = ps.length → bindArgs (PySem.W.fnOf m qual (defArgs st) (defBody st) (defScope st) .none kV doc pm an cdv ct) ⟨us, []⟩ = pure (ps.zip us))
    (h : ∀ f fd, Fun K m qual st f fd → FnOk P w K mg base CX k f fd ps sp) : OwnM P w K mg base CX C k m ps [] sp := by
  obtain ⟨f, fd, F, hm⟩ := T
  exact ⟨f, fd, [], h f fd F, c, hm, F.binds hb, .nil⟩
theorem TopIn.own (T : TopIn K mg C x qual st its)
    (hb : ∀ (T : Addr) (kV doc pm : Value) (an : Option Addr) (cdv ct : Value) (us : List Value), (us ++ ds).length = ps.length → ∃ k : Option (Array Value) → Sem (List (Str × Value)),
      bindArgs (PySem.W.fnOf "__init__" qual (defArgs st) (defBody st) (defScope st) (.ref T) kV doc pm an cdv ct) ⟨us, []⟩ = seqItems? (.ref T) >>= k ∧ k (some its.toArray) = pure (ps.zip (us ++ ds)))
    (hd : Vals dvs ds) (h : ∀ f fd, FunD K "__init__" qual st f fd its → FnOk P w K mg base CX k f fd ps sp) : OwnI P w K mg base CX C k x ps dvs sp := by
  obtain ⟨f, fd, F, M, hm⟩ := T
  exact ⟨f, fd, ds, h f fd F, M, hm, F.binds hb, hd⟩
theorem TopIn.ownK {g : List Value → List Value → List Value} {gV : List V → List V → List V} (T : TopIn K mg C x qual st its)
    (hb : ∀ (T : Addr) (kV doc pm : Value) (an : Option Addr) (cdv ct : Value) (us ws : List Value), (g us ws).length = ps.length → ∃ k : Option (Array Value) → Sem (List (Str × Value)),
      bindArgs (PySem.W.fnOf "__init__" qual (defArgs st) (defBody st) (defScope st) (.ref T) kV doc pm an cdv ct) ⟨us, ks.zip ws⟩ = seqItems? (.ref T) >>= k ∧ k (some its.toArray) = pure (ps.zip (g us ws)))
    (r : ∀ {vs : List V} {us : List Value} {zs : List V} {ws : List Value}, Vals vs us → Vals zs ws → Vals (gV vs zs) (g us ws))
    (h : ∀ f fd, FunD K "__init__" qual st f fd its → FnOk P w K mg base CX k f fd ps sp) : OwnIK P w K mg base CX C k x ps ks gV sp := by
  obtain ⟨f, fd, F, M, hm⟩ := T
  exact ⟨f, fd, g, h f fd F, M, hm, F.kbinds hb r⟩
end
theorem topM_mk {K : PySem.W.Frag} {C : Addr} {m qual : Str} {st : Stmt} {f : Addr} {oc : Value} {od an : Option Addr} {osl : Array (Option Value)} {kV doc pm cdv ct : Value}
    (l : K.lookup f = some ⟨oc, od, .func (PySem.W.fnOf m qual (defArgs st) (defBody st) (defScope st) .none kV doc pm an cdv ct), osl⟩)
    (c : PySem.W.codeIn K cdv qual = true) (k : PySem.W.keepIn K (.ref f) = true) (a : PySem.W.findIn K (.ref C) m = some (some (.ref f))) (n : PySem.W.isFn K (.ref f) = true) : TopM K C m qual st := ⟨f, _, fun_mk l c k, ⟨a, n, k⟩⟩
theorem topIn_mk {K : PySem.W.Frag} {h : Heap} {mg : Str → Option Value} {C : Addr} {x qual : Str} {st : Stmt} {f T : Addr} {oc : Value} {od an : Option Addr} {osl : Array (Option Value)} {kV doc pm cdv ct : Value} {its : List Value} {n : Nat} {to : Obj} (X : K.In h) (G : h.Ns mainGlobals mg)
    (l : K.lookup f = some ⟨oc, od, .func (PySem.W.fnOf "__init__" qual (defArgs st) (defBody st) (defScope st) (.ref T) kV doc pm an cdv ct), osl⟩)
    (c : PySem.W.codeIn K cdv qual = true) (k : PySem.W.keepIn K (.ref f) = true) (t : K.lookup T = some to) (d : to.data = .seq its.toArray n)
    (m : PySem.W.makesIn K C = true) (i : PySem.W.findIn K (.ref C) "__init__" = some (some (.ref f))) (nf : PySem.W.isFn K (.ref f) = true) (kc : PySem.W.keepIn K (.ref C) = true) (a : PySem.W.nsIn K mainGlobals x = some (some (.ref C))) : TopIn K mg C x qual st its :=
  ⟨f, _, ⟨⟨oc, od, T, kV, doc, pm, an, cdv, ct, osl, _, n, rfl, l, c, t, d⟩, k⟩, ⟨m, i, nf, kc⟩, PySem.W.mg_of X G a⟩
end L2
namespace L2
open PySem PySem.Spec PyProof.Rows Bg
section
variable {prog : Program} {w : World} {κ : Type} [DecidableEq κ] {knd : KeyKind prog w κ} {A : Around} {E : Value → Shared → Prop}
theorem entry_dict_loop : entryFor table "dict.update.loop" = some Builtin.«dict.update.loop» := entryFor_of_tree (by kernel_rfl)
theorem list_keys_miss : typeLookup (.type "list") "keys" = pure none := by rw [typeLookup_type, builtinLookup_eq_fast]; kernel_rfl
theorem list_no_keys {s : Shared} {a : Addr} {o : Obj} {xs : Array Value} {k : Nat} {Q : Option Value → Shared → Prop} (hx : s.heap.get? a = some o) (hc : o.cls = .type "list") (hdat : o.data = .seq xs k) (hd : o.dict = none) (hA : A.handled = none)
    (q : ∀ h' tk e, Heap.NewExcOf s.heap h' e "AttributeError" → Q none { s with heap := h', toks := tk }) : wpAny (model prog w) A (getAttr? (.ref a) "keys") Q E s := by
  obtain ⟨c, dct, dat, sl⟩ := o
  simp only at hc hdat hd
  subst hc hdat hd
  obtain ⟨hp, g, d, tk, os⟩ := s
  have tT : ∀ tk', (⟨hp, g, d, tk', os⟩ : Shared).TypeIs (.ref a) "list" := fun _ => ⟨_, hx, rfl⟩
  have k1 := sub_AttributeError
  have k3 := F.slot_list_getattribute.lookup
  have k4 := F.slot_list_getattribute.bind (.ref a)
  have k5 := am_list_getattr_none
  unfold getAttr? getAttrBy? getAttrBy
  repeat (any_goals (first | assumption | exact tT _ | ((with_reducible show wpAny _ _ (call (Value.builtin "list.__getattribute__") _ _) _ _ _); refine call_meets F.slot_list_getattribute (tT _) am_entry_list_getattribute (F.args_list_getattribute_2 _ _) (meets_getattribute_miss_list a xs k sl "keys" _ list_keys_miss (by decide +kernel)) ⟨hx, hA, fun h' tk' e hx' => ?_⟩) | wp_step))
  obtain ⟨t', u', he⟩ := hx'.there
  show wpAny _ _ (getattributeRaised _ _ _ _ _ _ _) _ _ _
  unfold getattributeRaised
  repeat (any_goals (first | assumption | wp_step))
  exact q _ _ _ hx'.of
theorem dict_loop (hh : A.handled = none) {R : Result → Shared → Prop} {d it l : Addr} (hdi : d ≠ it) (hdl : l ≠ d) (hli : l ≠ it) {items : List Value} {rs : List (κ × Value)} {s0 : Shared}
    (hit0 : ∀ (i : Nat) (x : Value), items[i]? = some x → ∃ (p : Addr) (k : κ) (v key : Value), x = .ref p ∧ p ≠ d ∧ p ≠ it ∧ s0.heap.IsTuple p #[key, v] ∧ rs[i]? = some (k, v) ∧ knd.is k key = true)
    (hlen : rs.length = items.length) (hnd : (rs.map (·.1)).Nodup) (hsz : rs.length ≤ sizeLine) (hl0 : s0.heap.IsList l items.toArray)
    (hR : ∀ h' tk, h'.DictOf knd d rs → (∀ b o, b ≠ it → b ≠ d → s0.heap.get? b = some o → h'.get? b = some o) → R (.ok (.ret .none)) { s0 with heap := h', toks := tk }) :
    ∀ (n i : Nat) (h : Heap) (tk : Nat), items.length = i + n → h.IsListIter it l i → h.DictOf knd d (rs.take i) → (∀ b o, b ≠ it → b ≠ d → s0.heap.get? b = some o → h.get? b = some o) →
      codeAny (model prog w) A (.builtin "dict.update.loop" ⟨[.ref d, .ref it, rawInt i, .none], []⟩) R { s0 with heap := h, toks := tk }
  | 0, i, h, tk, e, hi, hd, hk => by
    have hl : h.IsList l items.toArray := by
      obtain ⟨o, g, c⟩ := hl0
      exact ⟨o, hk l o hli hdl g, c⟩
    refine codeAny_builtin entry_dict_loop ?_
    unfold Builtin.«dict.update.loop»
    refine wpAny_bind (wpAny_pyNext_list_end (A := A.under _) hh hi hl (by simp; omega) fun h' eb => ?_)
    have hd' : h'.DictOf knd d rs := by
      have := hd.extBut eb hdi
      rwa [List.take_of_length_le (by omega)] at this
    exact wpAny_bind (wpAny_pure (wpAny_pure (hR h' tk hd' fun b o n1 n2 g => eb b o n1 (hk b o n1 n2 g))))
  | n + 1, i, h, tk, e, hi, hd, hk => by
    have hl : h.IsList l items.toArray := by
      obtain ⟨o, g, c⟩ := hl0
      exact ⟨o, hk l o hli hdl g, c⟩
    obtain ⟨x, hx⟩ : ∃ x, items[i]? = some x := ⟨items[i]'(by omega), by simp⟩
    obtain ⟨p, k, v, key, rfl, np, npi, ⟨o, go, oc, m, od⟩, hr, hkey⟩ := hit0 i x hx
    refine codeAny_builtin entry_dict_loop ?_
    unfold Builtin.«dict.update.loop»
    refine wpAny_bind (wpAny_pyNext_list_item hi hl (by simpa using hx) fun h' hi' sb => ?_)
    have gp : h'.get? p = some o := (sb.2 p npi).trans (hk p o npi np go)
    refine wpAny_bind (wpAny_holding ?_)
    refine wpAny_bind (wpAny_tryCatch ?_)
    unfold Builtin.Dict.pairItems
    refine wpAny_bind (wpAny_typeOf (s := { s0 with heap := h', toks := tk }) (T := "tuple") ⟨o, gp, oc⟩ ?_)
    rw [if_pos (by decide)]
    refine wpAny_bind (wpAny_seqItems (s := { s0 with heap := h', toks := tk }) gp od (wpAny_pure ?_))
    show wpAny _ _ (holding [key, v] (dictSet d key v)) _ _ _
    refine wpAny_holding (wpAny_dictSet_pairs (s := { s0 with heap := h', toks := tk }) (hsz := by rw [List.length_take]; omega) hkey (hd.sameBut sb hdi) fun h2 hd2 sb2 => ?_)
    refine wpAny_pure ⟨Code.quiet_builtin _ (by decide +kernel), ?_⟩
    have est : stored (rs.take i) k v = rs.take (i + 1) := by
      rw [List.take_add_one, hr]
      unfold stored
      rw [if_neg]
      · rfl
      · intro z
        obtain ⟨y, hy, ey⟩ := List.any_eq_true.mp z
        have ey : y.1 = k := of_decide_eq_true ey
        obtain ⟨j, hj, rfl⟩ := List.getElem_of_mem hy
        rw [List.length_take] at hj
        have hi2 := (List.getElem?_eq_some_iff.mp hr)
        obtain ⟨hi3, hi4⟩ := hi2
        refine List.pairwise_iff_getElem.mp hnd j i (by rw [List.length_map]; omega) (by rw [List.length_map]; omega) (by omega) ?_
        simp only [List.getElem_map]
        rw [hi4]
        simpa using ey
    rw [est] at hd2
    have := dict_loop hh hdi hdl hli hit0 hlen hnd hsz hl0 hR n (i + 1) h2 (tk + 1) (by omega) (hi'.at fun o g => (sb2.2 it (Ne.symm hdi)).trans g) hd2 fun b o n1 n2 g => (sb2.2 b n2).trans ((sb.2 b n1).trans (hk b o n1 n2 g))
    exact this
theorem call_dict_pairs {s : Shared} {Q : Value → Shared → Prop} {l : Addr} {ol : Obj} {n : Nat} {items : List Value} {rs : List (κ × Value)} (hh : A.handled = none) (hl : s.heap.get? l = some ol) (hc : ol.cls = .type "list") (hdat : ol.data = .seq items.toArray n) (hdd : ol.dict = none)
    (hit0 : ∀ (i : Nat) (x : Value), items[i]? = some x → ∃ (p : Addr) (k : κ) (v key : Value), x = .ref p ∧ s.heap.IsTuple p #[key, v] ∧ rs[i]? = some (k, v) ∧ knd.is k key = true)
    (hlen : rs.length = items.length) (hnd : (rs.map (·.1)).Nodup) (hsz : rs.length ≤ sizeLine)
    (q : ∀ h' tk, h'.DictOf knd s.heap.objs.size rs → (∀ b o, s.heap.get? b = some o → h'.get? b = some o) → Q (.ref s.heap.objs.size) { s with heap := h', toks := tk }) :
    wpAny (model prog w) A (call (.type "dict") [.ref l]) Q E s := by
  refine callType_codes (Q₁ := fun obj s₁ => obj = .ref s.heap.objs.size ∧ s₁ = { s with heap := s.heap.push { cls := .type "dict", data := .dict #[] } }) F.kt_called_dict (F.kt_typeCall_dict_1 _) F.entry_dict_init (kt_code_dict_new _ ⟨rfl, rfl⟩) ?_
  rintro obj s₁ ⟨rfl, rfl⟩
  have hnew : (s.heap.push { cls := .type "dict", data := .dict #[] }).DictOf knd s.heap.objs.size [] := Heap.DictOf.new s.heap
  have hl1 := Heap.get?_push_of_some { cls := .type "dict", data := .dict #[] } hl
  refine ⟨hnew.typeIs, F.args_dict_init_2 _ _, ?_⟩
  unfold Builtin.«dict.__init__»
  refine wpAny_bind ?_
  unfold Builtin.Dict.selfAndRest
  refine wpAny_bind (wpAny_notOrdered_dict hnew.typeIs ?_)
  show wpAny _ _ (pure (s.heap.objs.size, [Value.ref l])) _ _ _
  refine wpAny_pure ?_
  show wpAny _ _ (Builtin.Dict.updateFrom "dict.__init__" s.heap.objs.size (.ref l) [] .none) _ _ _
  unfold Builtin.Dict.updateFrom
  refine wpAny_bind (wpAny_typeOf (s := { s with heap := s.heap.push { cls := .type "dict", data := .dict #[] } }) (T := "list") ⟨ol, hl1, hc⟩ ?_)
  rw [if_pos (by decide)]
  refine wpAny_bind (list_no_keys (s := { s with heap := s.heap.push { cls := .type "dict", data := .dict #[] } }) hl1 hc hdat hdd (show A.in1.in1.handled = none from hh) fun h1 tk1 e1 new => ?_)
  simp only [Option.isNone_none, if_true]
  have kp : ∀ b o, (s.heap.push { cls := .type "dict", data := .dict #[] }).get? b = some o → h1.get? b = some o := new.keeps
  have hl2 := kp _ _ hl1
  refine wpAny_bind (wpAny_rule ?_)
  refine wpAny_bind (wpAny_pyIter_list (s := { s with heap := h1, toks := tk1 }) ⟨ol, hl2, hc, n, hdat⟩ ?_)
  refine wpAny_pure ⟨Code.quiet_builtin _ (by decide +kernel), ?_⟩
  have lt : ∀ {b o}, s.heap.get? b = some o → b < s.heap.objs.size := fun g => Heap.lt_size g
  obtain ⟨od, _, _, god, _⟩ := id hnew
  have ltd : s.heap.objs.size < h1.objs.size := Heap.lt_size (kp _ _ god)
  have up : ∀ b o, s.heap.get? b = some o → (h1.push { cls := .type "list_iterator", data := .fields #[.ref l, .int 0 0] }).get? b = some o := fun b o g => Heap.get?_push_of_some _ (kp b o (Heap.get?_push_of_some _ g))
  have hd0 : (h1.push { cls := .type "list_iterator", data := .fields #[.ref l, .int 0 0] }).DictOf knd s.heap.objs.size (rs.take 0) := by
    obtain ⟨o, es, ep, g, r⟩ := hnew
    exact ⟨o, es, ep, Heap.get?_push_of_some _ (kp _ _ g), r⟩
  refine dict_loop (s0 := { s with heap := h1.push { cls := .type "list_iterator", data := .fields #[.ref l, .int 0 0] }, toks := tk1 }) (A := A.in1) (show A.in1.handled = none from hh) (d := s.heap.objs.size) (it := h1.objs.size) (l := l) (Nat.ne_of_lt ltd) (Nat.ne_of_lt (lt hl)) (Nat.ne_of_lt (Nat.lt_trans (lt hl) ltd)) (items := items) (rs := rs) (fun i x hx => ?_) hlen hnd hsz ⟨ol, up _ _ hl, hc, n, hdat⟩ (fun h' tk dd kk => ⟨rfl, ?_⟩) items.length 0 _ tk1 (by simp) ⟨_, Heap.get?_push_size _ rfl, rfl, rfl⟩ hd0 fun b o _ _ g => g
  · obtain ⟨p, k, v, key, e, ⟨o, g, c⟩, r, hk⟩ := hit0 i x hx
    exact ⟨p, k, v, key, e, Nat.ne_of_lt (lt g), Nat.ne_of_lt (Nat.lt_trans (lt g) ltd), ⟨o, up _ _ g, c⟩, r, hk⟩
  · exact q h' tk dd fun b o g => kk b o (Nat.ne_of_lt (Nat.lt_trans (lt g) ltd)) (Nat.ne_of_lt (lt g)) (up b o g)
end
def rDictP : List V → Hp → VK → Prop := fun xs H Q => ∃ (l : Addr) (ps : List Addr) (kvs : List (Key × V)), xs = [.ref l] ∧ H l = some (.lst (ps.map V.ref)) ∧ ps.length = kvs.length ∧ (∀ (i : Nat) (p : Addr) (kv : Key × V), ps[i]? = some p → kvs[i]? = some kv → H p = some (.tup [kV kv.1, kv.2])) ∧ (kvs.map (·.1)).Nodup ∧ kvs.length ≤ sizeLine ∧ ∀ p, H p = none → Q (.ref p) (upd H p (.dK kvs))
def rDictC : List V → Hp → VK → Prop := fun xs H Q => ∃ (a : Addr) (kvs : List (Key × V)), xs = [.ref a] ∧ H a = some (.dK kvs) ∧ ∀ p, H p = none → Q (.ref p) (upd H p (.dK kvs))
theorem call_dictC {X : Cx} : CallR X (.type "dict") rDictC := by
  intro pins s σ H xs us Q I r h
  obtain ⟨a, kvs, rfl, e, q⟩ := h
  obtain ⟨u, rfl, ru⟩ := Vals.one r
  cases ru
  exact d_copyOf I (.inl e) fun p s' hp I' => ⟨.ref p, _, I', rfl, q p hp⟩
theorem pairs_at {P : Program} {w : World} {H : Hp} {h : Heap} (ok : HOk P w H h) : ∀ {ps : List Addr} {kvs : List (Key × V)}, ps.length = kvs.length → (∀ (i : Nat) (p : Addr) (kv : Key × V), ps[i]? = some p → kvs[i]? = some kv → H p = some (.tup [kV kv.1, kv.2])) →
    ∃ rs : List (Key × Value), KV kvs rs ∧ ∀ (i : Nat) (x : Value), (ps.map Value.ref)[i]? = some x → ∃ (p : Addr) (k : Key) (v key : Value), x = .ref p ∧ h.IsTuple p #[key, v] ∧ rs[i]? = some (k, v) ∧ (mixKind P w).is k key = true
  | [], [], _, _ => ⟨[], .nil, fun i x e => by simp at e⟩
  | [], _ :: _, e, _ => by cases e
  | _ :: _, [], e, _ => by cases e
  | p :: ps, kv :: kvs, e, hp => by
    obtain ⟨rs, r, hr⟩ := pairs_at ok (ps := ps) (kvs := kvs) (by simpa using e) fun i p' kv' h1 h2 => hp (i + 1) p' kv' h1 h2
    obtain ⟨_, its, rv, tp⟩ := ok p _ (hp 0 p kv rfl rfl)
    obtain ⟨key, v, rfl, rk, rv⟩ := Vals.two rv
    refine ⟨(kv.1, v) :: rs, .cons ⟨rfl, rv⟩ r, fun i x hx => ?_⟩
    cases i with
    | zero =>
      have : x = .ref p := (Option.some.inj hx).symm
      subst this
      exact ⟨p, kv.1, v, key, rfl, tp, rfl, kV_is rk⟩
    | succ i => exact hr i x hx
theorem refs_of : ∀ {ps : List Addr} {its : List Value}, Vals (ps.map V.ref) its → its = ps.map Value.ref
  | [], _, r => by cases r; rfl
  | p :: ps, _, r => by
    cases r with
    | cons r1 r2 =>
      cases r1
      rw [refs_of r2]
      rfl
theorem call_dictP {X : Cx} (hc : X.calm = true) : CallR X (.type "dict") rDictP := by
  intro pins s σ H xs us Q I r h
  obtain ⟨l, ps, kvs, rfl, el, hlen, hps, hnd, hsz, q⟩ := h
  obtain ⟨u, rfl, ru⟩ := Vals.one r
  cases ru
  obtain ⟨_, its, n, rv, gl⟩ := id (I.hok l _ el)
  have := refs_of rv
  subst this
  obtain ⟨rs, rr, hr⟩ := pairs_at I.hok hlen hps
  have hl := rr.length
  refine call_dict_pairs (I.ok.hd hc) gl rfl rfl rfl hr (by rw [List.length_map]; omega) (by rw [← rr.keys]; exact hnd) (by omega) fun h' tk dd kk => ?_
  refine ⟨.ref s.heap.objs.size, _, I.laid (a := s.heap.objs.size) (o := .dK kvs) (t' := tk) kk (Nat.le_refl _) (dk_new hsz (beq_eq_false_iff_ne.mpr (Ne.symm (Nat.ne_of_lt I.big))) rr dd), rfl, q _ (I.hok.fresh (Nat.le_refl _))⟩
end L2
namespace L2
open PySem PySem.Spec PyProof.Rows Bg
section
variable {prog : Program} {w : World} {κ : Type} [DecidableEq κ] {knd : KeyKind prog w κ} {A : Around} {E : Value → Shared → Prop}
theorem dict_len_slot : typeLookup (.type "dict") "__len__" = pure (some (.builtin "dict.__len__")) := by rw [typeLookup_type, builtinLookup_eq_fast]; kernel_rfl
theorem fill_dict {s : Shared} {S I d : Addr} {kvs : List (κ × Value)} {ep : Nat} {R : Result → Shared → Prop} (hh : A.handled = none) (hn : kvs.length ≤ sizeLine) (g1 : s.heap.get? S = some { cls := .type "list", data := .seq ([] : List Value).toArray }) (hI : s.heap.IsKeyIter I d 0 kvs.length ep) (hm : s.heap.DictAt knd d kvs ep) (nSI : S ≠ I) (nSd : S ≠ d) (ndI : d ≠ I)
    (hR : ∀ (s' : Shared) (acc : Array Value) (c : Nat), (∀ b o, b ≠ S → b ≠ I → s.heap.get? b = some o → s'.heap.get? b = some o) → s'.gens = s.gens → s'.drawn = s.drawn → s'.os = s.os → s'.heap.get? S = some { cls := .type "list", dict := none, data := .seq acc c, slots := #[] } → ItemsOf (fun i v => ∃ k x, kvs[i]? = some (k, x) ∧ knd.is k v = true) acc kvs.length → R (.ok (.ret (.ref S))) s') :
    wpAny (model prog w) A.in1 (rule "list.extend.makes-room" >>= fun _ => Builtin.List.listTouch (.ref S) >>= fun _ => again (.builtin "list.extend.loop" ⟨[.ref S, .ref I, .ref S], []⟩))
      (fun fin s' => match fin with | .done f => R (.ok f) s' | .again c' => c'.quiet = true ∧ codeAny (model prog w) A c' R s') (fun e s' => R (.error e) s') s := by
  refine wpAny_bind (wpAny_rule ?_)
  refine wpAny_bind ?_
  show wpAny _ A.in1 (updateSeq S (·.push .none) >>= fun _ => updateSeq S (·.pop)) _ _ _
  refine wpAny_bind (wpAny_updateSeq g1 rfl ?_)
  have g2 := Heap.get?_update_self (Obj.mapSeq (·.push Value.none)) g1 rfl
  refine wpAny_updateSeq g2 rfl ?_
  have g3 := Heap.get?_update_self (Obj.mapSeq (·.pop)) g2 rfl
  have oth : ∀ (b : Addr) (o : Obj), b ≠ S → s.heap.get? b = some o → ((s.heap.update S (Obj.mapSeq (·.push Value.none))).update S (Obj.mapSeq (·.pop))).get? b = some o :=
    fun b o nb g => (Heap.get?_update_other _ _ nb.symm).trans ((Heap.get?_update_other _ _ nb.symm).trans g)
  have W := (Walks.dictKeys (knd := knd) (A := A.in1) (show A.in1.handled = none from hh) I d ndI kvs ep).toS
  refine wpAny_pure ⟨plainId_quiet F.plain_extend_loop _, codeAny_extend_loopS W hn S ?_ _ kvs.length 0 _ _ _ rfl (Nat.zero_le _) ⟨hI.at fun o g => oth I o nSI.symm g, hm.at' fun o g => oth d o nSd.symm g⟩ g3 (ItemsOf.nil _) fun s' acc' c' hmv hS' hacc => ?_⟩
  · intro z
    rcases List.mem_cons.mp z with z | z
    · exact nSI z
    · exact nSd (by simpa using z)
  · refine hR s' acc' c' (fun b o n1 n2 g => hmv.heap b o (fun z => ?_) (oth b o n1 g)) hmv.gens hmv.drawn hmv.os hS' hacc
    rcases List.mem_cons.mp z with z | z
    · exact n1 z
    · exact n2 (by simpa using z)
theorem collect_dict {s : Shared} {d : Addr} {kvs : List (κ × Value)} {ep : Nat} {Q : List Value → Shared → Prop} (hh : A.handled = none) (hds : (d == sysModules) = false) (hm : s.heap.DictAt knd d kvs ep) (hn : kvs.length ≤ sizeLine)
    (hQ : ∀ (s' : Shared) (acc : Array Value), (∀ b o, s.heap.get? b = some o → s'.heap.get? b = some o) → s'.gens = s.gens → s'.drawn = s.drawn → s'.os = s.os → s.heap.objs.size < s'.heap.objs.size → ItemsOf (fun i v => ∃ k x, kvs[i]? = some (k, x) ∧ knd.is k v = true) acc kvs.length → Q acc.toList s') :
    wpAny (model prog w) A (collect (.ref d)) Q E s := by
  have ltd := hm.lt_size
  unfold collect
  refine wpAny_bind (wpAny_runValue (codeAny_builtin F.entry_proto_collect ?_))
  rw [Around.under_plainId F.plain_proto_collect _]
  show wpAny _ A.in1 (newList [] >>= fun l => again (.builtin "list.__iadd__" ⟨[l, .ref d], []⟩)) _ _ s
  refine wpAny_bind (wpAny_newObj_type ?_)
  refine wpAny_pure ⟨plainId_quiet F.plain_list_iadd _, codeAny_builtin F.entry_list_iadd ?_⟩
  rw [Around.under_plainId F.plain_list_iadd _]
  show wpAny _ A.in1 (Builtin.List.listExtendWith (.ref s.heap.objs.size) (.ref d) (.ref s.heap.objs.size)) _ _ _
  have h1 : Builtin.List.listSameRef (.ref s.heap.objs.size) (.ref d) = false := by simp [Builtin.List.listSameRef, Ne.symm (Nat.ne_of_lt ltd)]
  have hm1 := hm.keep (h' := s.heap.push { cls := .type "list", data := .seq ([] : List Value).toArray }) fun b o e => Heap.get?_push_of_some _ e
  unfold Builtin.List.listExtendWith
  refine wpAny_bind (wpAny_typeOf hm1.dictOf.typeIs ?_)
  rw [if_neg (by rw [h1]; decide)]
  refine wpAny_bind (wpAny_pyIter_dict hds hm1 ?_)
  have hm2 := hm1.keep (h' := (s.heap.push { cls := .type "list", data := .seq ([] : List Value).toArray }).push { cls := .type "dict_keyiterator", data := .fields #[.ref d, .int 0 0, .int kvs.length 0, .int ep 0] }) fun b o e => Heap.get?_push_of_some _ e
  refine wpAny_bind (wpAny_holding ?_)
  unfold Builtin.List.listLengthHint
  refine wpAny_bind (wpAny_specialOf hm2.dictOf.typeIs dict_len_slot ?_)
  (generalize hid : ("dict.__len__" : String) = id0; (fail_if_success (clear hid id0)); wp_delta; rw [show splitId id0 = some ("dict", "__len__") from by subst hid; decide +kernel]; subst hid)
  refine wpAny_bind (wpAny_isInstance (b := true) hm2.dictOf.typeIs (by rw [isSubtype_type]; kernel_rfl) ?_)
  rw [if_neg (by decide)]
  refine wpAny_ite ?_
  rw [if_pos (by decide)]
  refine wpAny_bind (wpAny_typeOf hm2.dictOf.typeIs ?_)
  refine wpAny_pure ?_
  rw [if_pos (by decide)]
  have szI : (s.heap.push { cls := .type "list", data := .seq ([] : List Value).toArray }).objs.size = s.heap.objs.size + 1 := Heap.size_push _ _
  refine fill_dict (s := { s with heap := (s.heap.push { cls := .type "list", data := .seq ([] : List Value).toArray }).push { cls := .type "dict_keyiterator", data := .fields #[.ref d, .int 0 0, .int kvs.length 0, .int ep 0] } }) (R := fun r s' => match r with | .ok (.ret v) => wpAny (model prog w) A (match v with | .ref a => (do let o ← load a; match o.data with | .seq xs _ => pure xs.toList | _ => unsupported "internal:collect" : Sem (List Value)) | _ => unsupported "internal:collect") Q E s' | .ok _ => False | .error e => E e s') hh hn (S := s.heap.objs.size) (I := (s.heap.push { cls := .type "list", data := .seq ([] : List Value).toArray }).objs.size) (Heap.get?_push_of_some _ (Heap.get?_push_size _ rfl)) ⟨_, Heap.get?_push_size _ rfl, rfl, rfl⟩ hm2 (by rw [szI]; exact Nat.ne_of_lt (Nat.lt_succ_self _)) (Nat.ne_of_gt ltd) (by rw [szI]; exact Nat.ne_of_lt (Nat.lt_succ_of_lt ltd)) fun s' acc c kk e1 e2 e3 hS' hacc => ?_
  show wpAny _ A (load s.heap.objs.size >>= _) _ _ s'
  refine wpAny_bind (wpAny_load hS' (wpAny_pure (hQ s' acc (fun b o g => ?_) e1 e2 e3 (Heap.lt_size hS') hacc)))
  have lt := Heap.lt_size g
  exact kk b o (Nat.ne_of_lt lt) (by rw [szI]; exact Nat.ne_of_lt (Nat.lt_succ_of_lt lt)) (Heap.get?_push_of_some _ (Heap.get?_push_of_some _ g))
theorem ints_build : ∀ {l : List Value} {ns : List Int}, l.length = ns.length → (∀ (j : Nat) (v : Value) (n : Int), l[j]? = some v → ns[j]? = some n → ∃ t, v = .int n t) → IntsAre l ns
  | [], [], _, _ => .nil
  | [], _ :: _, e, _ => by cases e
  | _ :: _, [], e, _ => by cases e
  | v :: l, n :: ns, e, h => by
    obtain ⟨t, rfl⟩ := h 0 v n rfl rfl
    exact .cons n t (ints_build (by simpa using e) fun j v' n' h1 h2 => h (j + 1) v' n' h1 h2)
theorem ints_of_items {kvs : List (Key × Value)} {ns : List Int} {acc : Array Value} (hk : kvs.map (·.1) = ns.map Sum.inl) (h : ItemsOf (fun i v => ∃ k x, kvs[i]? = some (k, x) ∧ (mixKind prog w).is k v = true) acc kvs.length) : IntsAre acc.toList ns := by
  have hl : kvs.length = ns.length := by
    have := congrArg List.length hk
    rwa [List.length_map, List.length_map] at this
  refine ints_build (by rw [Array.length_toList, h.1, hl]) fun j v n h1 h2 => ?_
  obtain ⟨k, x, e1, e2⟩ := h.2 j v (by rw [← Array.getElem?_toList]; exact h1)
  have : k = .inl n := by
    have z := congrArg (·[j]?) hk
    simp only [List.getElem?_map, e1, h2, Option.map_some, Option.some.injEq] at z
    exact z
  subst this
  exact rel_key e2
theorem sorted_dict {s : Shared} {d : Addr} {kvs : List (Key × Value)} {ns : List Int} {ep : Nat} {Q : Value → Shared → Prop} (hh : A.handled = none) (hds : (d == sysModules) = false) (hm : s.heap.DictAt (mixKind prog w) d kvs ep) (hk : kvs.map (·.1) = ns.map Sum.inl) (h64 : kvs.length < 64)
    (q : ∀ (h' : Heap) (tk p e : Nat) (vs' : List Value) (ns' : List Int), (∀ b o, s.heap.get? b = some o → h'.get? b = some o) → s.heap.objs.size ≤ p → h'.get? p = some (seqObj "list" vs'.toArray e) → IntsAre vs' ns' → ns'.Perm ns → ns'.Pairwise (· ≤ ·) → Q (.ref p) { s with heap := h', toks := tk }) :
    wpAny (model prog w) A (call (.builtin "sorted") [.ref d]) Q E s := by
  have hz : kvs.length ≤ sizeLine := Nat.le_trans (Nat.le_of_lt h64) (by rw [sizeLine_eq]; decide)
  refine Calls.call_function_entry kind_sorted plain_sorted entry_sorted (args_sorted1 _) ?_
  unfold Builtin.«sorted»
  refine wpAny_bind (m := checkCount "sorted" 1 1 _) (wpAny_pure ?_)
  refine wpAny_bind (collect_dict (show A.in1.handled = none from hh) hds hm hz fun s' acc kk e1 e2 e3 lts hacc => ?_)
  obtain ⟨h0, g0, d0, t0, o0⟩ := s
  obtain ⟨h1, g1, d1, t1, o1⟩ := s'
  simp only at e1 e2 e3 kk hm lts
  subst e1 e2 e3
  have hI := ints_of_items hk hacc
  refine wpAny_bind (wpAny_newList (hsz := by rw [Array.length_toList, hacc.1]; exact hz) ?_)
  have gl : (h1.push (seqObj "list" acc.toList.toArray 0)).get? h1.objs.size = some (seqObj "list" acc.toList.toArray 0) := Heap.get?_push_size _ rfl
  refine wpAny_bind (wpAny_holding (wpAny_call_entry slot_list_sort ⟨_, gl, rfl⟩ entry_list_sort (list_sort_tree gl hI (by rw [Array.length_toList, hacc.1]; exact h64) fun out ns' a1 a2 a3 => ⟨_, rfl, ?_⟩) (args_list_sort _)))
  obtain ⟨e, he⟩ := sortedHeap_at (out := out) gl
  refine wpAny_pure ⟨_, rfl, q _ t1 h1.objs.size e out.toList ns' (fun b o g => ?_) (Nat.le_of_lt lts) he a1 a2 a3⟩
  have lt := Heap.lt_size (kk b o g)
  rw [sortedHeap_old (Nat.ne_of_lt lt) (by rw [Heap.size_push]; exact Nat.lt_succ_of_lt lt)]
  exact Heap.get?_push_of_some _ (kk b o g)
end
theorem perm_rising {ns ns' : List Int} (hp : ns'.Perm ns) (h1 : ns'.Pairwise (· ≤ ·)) (h2 : ns.Pairwise (· < ·)) : ns' = ns :=
  List.Perm.eq_of_pairwise (fun a b _ _ h k => Int.le_antisymm h k) h1 (h2.imp fun h => Int.le_of_lt h) hp
def rSortD : List V → Hp → VK → Prop := fun xs H Q => ∃ (d : Addr) (kvs : List (Key × V)) (ns : List Int), xs = [.ref d] ∧ H d = some (.dK kvs) ∧ kvs.map (·.1) = ns.map Sum.inl ∧ ns.Pairwise (· < ·) ∧ kvs.length < 64 ∧ ∀ p, H p = none → Q (.ref p) (upd H p (.lst (ns.map V.int)))
theorem vals_of_ints : ∀ {vs : List Value} {ns : List Int}, IntsAre vs ns → Vals (ns.map V.int) vs
  | _, _, .nil => .nil
  | _, _, .cons n t r => .cons ⟨t, rfl⟩ (vals_of_ints r)
theorem call_sortD {X : Cx} (hc : X.calm = true) : CallR X (.builtin "sorted") rSortD := by
  intro pins s σ H xs us Q I r h
  obtain ⟨d, kvs, ns, rfl, e, hk, hr, h64, q⟩ := h
  obtain ⟨u, rfl, ru⟩ := Vals.one r
  cases ru
  obtain ⟨z, y, vs, rel, dof⟩ := id (I.hok d _ e)
  obtain ⟨ep, da⟩ := dof.dictAt
  have hl := rel.length
  refine sorted_dict (I.ok.hd hc) y da (by rw [← rel.keys]; exact hk) (by omega) fun h' tk p ep' vs' ns' kk hp hg hI hpm hpw => ?_
  have := perm_rising hpm hpw hr
  subst this
  have hl2 : (ns'.map V.int).length ≤ sizeLine := by
    have : kvs.length = ns'.length := by
      have := congrArg List.length hk
      rwa [List.length_map, List.length_map] at this
    rw [List.length_map]
    omega
  exact ⟨.ref p, _, I.laid (a := p) (o := .lst (ns'.map V.int)) (t' := tk) kk hp ⟨hl2, vs', ep', vals_of_ints hI, hg⟩, rfl, q p (I.hok.fresh hp)⟩
end L2
open PySem PySem.Spec PyProof.Rows L2 Bg
local macro_rules | `(tactic| walk_at "bd") => `(tactic| first | assumption | ((with_reducible show Bd _ (-_)); exact Bd.neg (by walk_at "bd")) | ((with_reducible show Bd _ (_ * _)); exact Bd.mul (by walk_at "bd") (by walk_at "bd")) | ((with_reducible show Bd _ (_ + _)); exact bd_addx (by walk_at "bd") (by walk_at "bd")) | ((with_reducible show Bd _ (_ - _)); exact bd_subx (by walk_at "bd") (by walk_at "bd")) | ((with_reducible show Bd _ (_ ^ _)); exact bd_powx (by walk_at "bd")) | ((with_reducible show Bd _ (_ / _)); exact bd_ediv (by walk_at "bd")) | ((with_reducible show Bd _ (_ % _)); exact bd_emod (by walk_at "bd") (by decide +kernel)) | ((with_reducible show Bd _ (Int.fdiv _ _)); exact Bd.fdiv (by walk_at "bd") _) | exact Bd.abs (by walk_at "bd") | exact bd_self _)
local macro_rules | `(tactic| walk_at "cd") => `(tactic| first | assumption | decide | omega | exact ⟨by decide, by decide +kernel⟩ | exact Bd.ok (by walk_at "bd") (by walk_at "bd") (by decide +kernel) | exact cpw_of (by walk_at "bd") (by decide) (by decide +kernel) | decide +kernel)
local macro_rules | `(tactic| walk_at "rd") => `(tactic| first | with_reducible refine i_seq ?_ | with_reducible refine i_asg ?_ | ((with_reducible refine i_gname ?_); try dsimp only [List.set_cons_zero, List.set_cons_succ]) | with_reducible refine i_ret ?_ | with_reducible refine i_drop ?_ | with_reducible refine i_ifS ?_ | with_reducible refine i_next ?_ | ((with_reducible show tVar _ _ _ _); refine ⟨_, rfl, ?_⟩) | with_reducible refine i_c ?_ | with_reducible refine i_op ?_ | with_reducible refine i_un ?_ | with_reducible refine i_I0 ?_ | ((with_reducible show rI _ _ (V.int _) (V.int _) _ _); first | refine i_I ?_ (by walk_at "cd") | refine i_I ?_ ?c) | with_reducible refine i_U ?_ | with_reducible refine i_eqI ?_ | with_reducible refine i_neI ?_ | with_reducible refine i_eqB ?_ | with_reducible refine i_neB ?_ | with_reducible refine i_test ?_ | with_reducible refine i_tB ?_ | with_reducible refine i_bl ?_ | with_reducible refine i_and ?_ | with_reducible refine i_or ?_ | with_reducible refine i_not ?_ | with_reducible refine i_andV ?_ | with_reducible refine i_orV ?_ | with_reducible refine i_notV ?_ | with_reducible refine i_ifE ?_ | with_reducible refine i_nil ?_ | with_reducible refine i_cons ?_ | with_reducible refine i_call ?_ | with_reducible refine i_callK ?_ | with_reducible refine i_cb ?_ | with_reducible refine i_tup ?_ | with_reducible refine i_lst ?_ | with_reducible refine if_t ?_ | with_reducible refine if_f ?_ | with_reducible refine if_nt ?_ | with_reducible refine if_nf ?_ | with_reducible refine i_par ?_ | with_reducible refine i_par2 ?_ | with_reducible refine i_abs ?_ | with_reducible refine i_intB ?_ | with_reducible refine i_is_int ?_ | with_reducible refine i_is_intb ?_ | with_reducible refine i_is_bool ?_ | with_reducible refine i_is_tup (by assumption) ?_ | with_reducible refine i_lenT (by assumption) ?_ | with_reducible refine i_lenL (by assumption) ?_ | ((with_reducible show rIxT _ (V.ref _) (V.int _) _ _); first | refine i_ixT (by assumption) (by rfl) ?_ | refine i_ixS (by assumption) (by rfl) ?_) | ((with_reducible show rIxL _ (V.ref _) (V.int _) _ _); refine i_ixL (by assumption) (by rfl) ?_) | with_reducible refine i_bm ?_ | with_reducible refine i_tyL (by assumption) ?_ | with_reducible refine i_sl ?_ | with_reducible refine i_noPart ?_ | with_reducible refine i_part ?_ | with_reducible refine i_int ?_ | with_reducible refine i_isN ?_ | with_reducible refine i_notN ?_ | ((with_reducible show gTup _ _ _ (V.ref _) _ _ _); refine i_gtup (by assumption) (by rfl) ?_) | with_reducible refine i_gcons ?_ | with_reducible refine i_gnil ?_ | with_reducible refine i_all ?_)
local macro_rules | `(tactic| walk_at "mm") => `(tactic| repeat first | exact List.mem_cons_self | refine List.mem_cons_of_mem _ ?_)
local macro_rules | `(tactic| walk_at "rd") => `(tactic| first | with_reducible refine i_min ?_ | with_reducible refine i_eqS ?_ | with_reducible refine i_neS ?_ | with_reducible refine i_is_str ?_ | with_reducible refine i_bm0 ?_ | with_reducible refine i_fF ?_ | with_reducible refine i_fVal0 ?_ | with_reducible refine i_fInt0 ?_ | with_reducible refine i_tyS ?_ | with_reducible refine i_tyI ?_ | with_reducible refine i_bits ?_)
local macro_rules | `(tactic| walk_at "b8") => `(tactic| first | assumption | decide +kernel | exact Bd.mono (by walk_at "bd") (by decide +kernel))
namespace Bk
open PySem PySem.Spec PyProof.Rows L2 Bg
def top (i : Nat) : Stmt := PySem.Challenge.pw_boardglue_k31_deeds_one_by_one.main.body.getD i (.Pass ⟨0, 0, 0, 0⟩)
abbrev s_is_whole : Stmt := top 12
abbrev s_common_divisor : Stmt := top 13
abbrev s_with_sign_of : Stmt := top 16
abbrev s_length : Stmt := top 17
abbrev s_added : Stmt := top 18
abbrev s_taken : Stmt := top 19
abbrev s_is_above_nought : Stmt := top 20
abbrev s_under : Stmt := top 21
abbrev s_is_length : Stmt := top 23
abbrev s_is_deed : Stmt := top 29
abbrev s_names_taken : Stmt := top 30
abbrev s_turned : Stmt := top 31
abbrev s_cut_across : Stmt := top 32
abbrev s_glued_beside : Stmt := top 33
abbrev s_stacked : Stmt := top 34
abbrev s__law_cell : Stmt := top 37
abbrev s__law_whole : Stmt := top 38
abbrev s__law_great : Stmt := top 39
abbrev s__law_digits : Stmt := top 40
abbrev s__law_divisor : Stmt := top 41
abbrev s__law_lowest : Stmt := top 42
abbrev s__law_sign : Stmt := top 43
abbrev s__law_plus : Stmt := top 44
abbrev s__law_share : Stmt := top 45
abbrev s__law_below : Stmt := top 46
abbrev s__law_root : Stmt := top 47
abbrev s__law_side : Stmt := top 48
abbrev s__law_heap : Stmt := top 49
abbrev s__law_new : Stmt := top 50
abbrev s__law_at : Stmt := top 51
abbrev s__law_deed : Stmt := top 52
abbrev s__law_done : Stmt := top 53
abbrev s__law_begin : Stmt := top 54
abbrev s__law_is_length : Stmt := top 55
abbrev s__law_is_heap : Stmt := top 56
abbrev s__law_right : Stmt := top 57
abbrev s_law : Stmt := top 58
abbrev s_Yard___init__ : Stmt := inClass (top 35) 0
abbrev s_Yard_do : Stmt := inClass (top 35) 1
abbrev s_Yard_check_names : Stmt := inClass (top 35) 2
abbrev s_Yard_put_by : Stmt := inClass (top 35) 3
abbrev s_Yard_boards : Stmt := inClass (top 35) 5
abbrev s_Yard_heap : Stmt := inClass (top 35) 6
abbrev s_Yard_log : Stmt := inClass (top 35) 7
structure Bl (mg : Str → Option Value) : Prop where
  ValueError : mg "ValueError" = none
  abs : mg "abs" = none
  all : mg "all" = none
  bool : mg "bool" = none
  dict : mg "dict" = none
  int : mg "int" = none
  isinstance : mg "isinstance" = none
  len : mg "len" = none
  list : mg "list" = none
  range : mg "range" = none
  sorted : mg "sorted" = none
  str : mg "str" = none
  tuple : mg "tuple" = none
  zip : mg "zip" = none
theorem bt_abs : bootBuiltins "abs" = some (.builtin "abs") := by decide +kernel
theorem bt_all : bootBuiltins "all" = some (.builtin "all") := by decide +kernel
theorem bt_bool : bootBuiltins "bool" = some (.type "bool") := by decide +kernel
theorem bt_dict : bootBuiltins "dict" = some (.type "dict") := by decide +kernel
theorem bt_int : bootBuiltins "int" = some (.type "int") := by decide +kernel
theorem bt_isinstance : bootBuiltins "isinstance" = some (.builtin "isinstance") := by decide +kernel
theorem bt_list : bootBuiltins "list" = some (.type "list") := by decide +kernel
theorem bt_sorted : bootBuiltins "sorted" = some (.builtin "sorted") := by decide +kernel
theorem bt_str : bootBuiltins "str" = some (.type "str") := by decide +kernel
theorem bt_tuple : bootBuiltins "tuple" = some (.type "tuple") := by decide +kernel
theorem bt_zip : bootBuiltins "zip" = some (.type "zip") := by decide +kernel
structure Cs where
  YardError : Addr
  NoLength : Addr
  NoDeed : Addr
  NoName : Addr
  Grain : Addr
  Unfit : Addr
  Yard : Addr
structure Xs (K : PySem.W.Frag) (mg : Str → Option Value) (cs : Cs) : Prop where
  m_YardError : mg "YardError" = some (.ref cs.YardError)
  m_NoLength : mg "NoLength" = some (.ref cs.NoLength)
  m_NoDeed : mg "NoDeed" = some (.ref cs.NoDeed)
  m_NoName : mg "NoName" = some (.ref cs.NoName)
  m_Grain : mg "Grain" = some (.ref cs.Grain)
  m_Unfit : mg "Unfit" = some (.ref cs.Unfit)
  m_Yard : mg "Yard" = some (.ref cs.Yard)
  c_Yard : Cls K cs.Yard
  n_Yard_root : NoAttr K cs.Yard "root"
  n_Yard_turning : NoAttr K cs.Yard "turning"
  n_Yard_known : NoAttr K cs.Yard "known"
  n_Yard_lying : NoAttr K cs.Yard "lying"
  n_Yard_done : NoAttr K cs.Yard "done"
def gV_Yard___init___3_k_turning : List V → List V → List V := fun us ws => match us, ws with | [x0, x1, x2], [z0] => [x0, x1, x2, z0] | _, _ => []
def g_Yard___init___3_k_turning (d0 : Value) : List Value → List Value → List Value := fun us ws => match us, ws with | [x0, x1, x2], [z0] => [x0, x1, x2, z0] | _, _ => []
def Rep (D : Int) (M : Nat) (s : Sd) : Prop := ∃ X Y : Int, Bd M X ∧ Bd M Y ∧ s.x * D = X * s.z ∧ s.y * D = Y * s.z
structure So (d D : Int) (M : Nat) (s : Sd) : Prop where
  z1 : 1 ≤ s.z
  g : g3 s.x s.y s.z = 1
  up : sgn d s.x s.y = 1
  r : Rep D M s
theorem So.sk {d D : Int} {M K : Nat} {s : Sd} (h : So d D M s) (hD : 1 ≤ D) (bD : Bd K D) : SK M K s := by
  obtain ⟨X, Y, bX, bY, hx, hy⟩ := h.r
  obtain ⟨e1, e2, e3⟩ := low_unique h.z1 h.g (show D ≠ 0 by omega) hx hy
  refine ⟨h.z1, h.g, ?_, ?_, ?_⟩
  · rw [e1]
    exact bX.fdiv _
  · rw [e2]
    exact bY.fdiv _
  · rw [e3]
    exact bD.fdiv _
theorem So.ne {d D : Int} {M : Nat} {s : Sd} (h : So d D M s) : s.z ≠ 0 := by have := h.z1; omega
theorem So.scale {d D k : Int} {M j : Nat} {s : Sd} (h : So d D M s) (bk : Bd j k) : So d (D * k) (M + j) s := by
  obtain ⟨X, Y, bX, bY, hx, hy⟩ := h.r
  exact ⟨h.z1, h.g, h.up, X * k, Y * k, bX.mul bk, bY.mul bk, by rw [← Int.mul_assoc, hx]; grind, by rw [← Int.mul_assoc, hy]; grind⟩
theorem So.mono {d D : Int} {M M' : Nat} {s : Sd} (h : So d D M s) (l : M ≤ M') : So d D M' s := by
  obtain ⟨X, Y, bX, bY, hx, hy⟩ := h.r
  exact ⟨h.z1, h.g, h.up, X, Y, bX.mono l, bY.mono l, hx, hy⟩
def BoD (d D : Int) (M : Nat) (b : Bo) : Prop := So d D M b.w ∧ So d D M b.h
def tkS (s t : Sd) : Sd := ⟨lA (s.x * t.z + -t.x * s.z) (s.y * t.z + -t.y * s.z) (s.z * t.z), lB (s.x * t.z + -t.x * s.z) (s.y * t.z + -t.y * s.z) (s.z * t.z), lN (s.x * t.z + -t.x * s.z) (s.y * t.z + -t.y * s.z) (s.z * t.z)⟩
def shS (s : Sd) (m k : Int) : Sd := ⟨lA (s.x * m) (s.y * m) (s.z * k), lB (s.x * m) (s.y * m) (s.z * k), lN (s.x * m) (s.y * m) (s.z * k)⟩
theorem low_rep {a b n D X Y : Int} (hn : n ≠ 0) (h1 : a * D = X * n) (h2 : b * D = Y * n) : lA a b n * D = X * lN a b n ∧ lB a b n * D = Y * lN a b n := by
  have e1 := l_a (a := a) (b := b) (n := n)
  have e2 := l_b (a := a) (b := b) (n := n)
  constructor
  · refine eq_of_mul hn ?_
    have : lA a b n * D * n = (lA a b n * n) * D := by grind
    rw [this, e1]
    have : a * lN a b n * D = (a * D) * lN a b n := by grind
    rw [this, h1]
    grind
  · refine eq_of_mul hn ?_
    have : lB a b n * D * n = (lB a b n * n) * D := by grind
    rw [this, e2]
    have : b * lN a b n * D = (b * D) * lN a b n := by grind
    rw [this, h2]
    grind
theorem tk_so {d D : Int} {M : Nat} {s t : Sd} (hR : Rt d) (h : So d D M s) (h' : So d D M t) (up : sgn d (tkS s t).x (tkS s t).y = 1) : So d D (M + 1) (tkS s t) := by
  obtain ⟨X, Y, bX, bY, hx, hy⟩ := h.r
  obtain ⟨X', Y', bX', bY', hx', hy'⟩ := h'.r
  have hn : s.z * t.z ≠ 0 := Int.mul_ne_zero h.ne h'.ne
  obtain ⟨r1, r2⟩ := low_rep (a := s.x * t.z + -t.x * s.z) (b := s.y * t.z + -t.y * s.z) (n := s.z * t.z) (D := D) (X := X - X') (Y := Y - Y') hn (by grind) (by grind)
  exact ⟨l_n hn, l_gcd hn, up, X - X', Y - Y', bX.sub bX', bY.sub bY', r1, r2⟩
theorem ad_so {d D : Int} {M : Nat} {s t : Sd} (hR : Rt d) (h : So d D M s) (h' : So d D M t) : So d D (M + 1) (adS s t) := by
  obtain ⟨X, Y, bX, bY, hx, hy⟩ := h.r
  obtain ⟨X', Y', bX', bY', hx', hy'⟩ := h'.r
  have hn : s.z * t.z ≠ 0 := Int.mul_ne_zero h.ne h'.ne
  have hn1 : 1 ≤ s.z * t.z := Int.mul_pos (by have := h.z1; omega) (by have := h'.z1; omega)
  obtain ⟨r1, r2⟩ := low_rep (a := s.x * t.z + t.x * s.z) (b := s.y * t.z + t.y * s.z) (n := s.z * t.z) (D := D) (X := X + X') (Y := Y + Y') hn (by grind) (by grind)
  refine ⟨l_n hn, l_gcd hn, ?_, X + X', Y + Y', bX.add bX', bY.add bY', r1, r2⟩
  refine (sgn_lowest hR hn1).trans (sgn_add hR ?_ ?_)
  · exact (sgn_same hR (k := 1) (m := t.z) (by decide) (by have := h'.z1; omega) (by grind) (by grind)).trans h.up
  · exact (sgn_same hR (k := 1) (m := s.z) (by decide) (by have := h.z1; omega) (by grind) (by grind)).trans h'.up
theorem sh_so {d D m k : Int} {M j : Nat} {s : Sd} (hR : Rt d) (h : So d D M s) (m1 : 1 ≤ m) (k1 : 1 ≤ k) (bm : Bd j m) : So d (D * k) (M + j) (shS s m k) := by
  obtain ⟨X, Y, bX, bY, hx, hy⟩ := h.r
  have hn : s.z * k ≠ 0 := Int.mul_ne_zero h.ne (by omega)
  have hn1 : 1 ≤ s.z * k := Int.mul_pos (by have := h.z1; omega) (by omega)
  obtain ⟨r1, r2⟩ := low_rep (a := s.x * m) (b := s.y * m) (n := s.z * k) (D := D * k) (X := X * m) (Y := Y * m) hn (by grind) (by grind)
  refine ⟨l_n hn, l_gcd hn, ?_, X * m, Y * m, bX.mul bm, bY.mul bm, r1, r2⟩
  exact (sgn_lowest hR hn1).trans ((sgn_same hR (k := 1) (m := m) (by decide) (by omega) (by grind) (by grind)).trans h.up)
theorem tk_sh {d m k : Int} {s : Sd} (hR : Rt d) (z1 : 1 ≤ s.z) (up : sgn d s.x s.y = 1) (m1 : 1 ≤ m) (hk : m < k) : sgn d (tkS s (shS s m k)).x (tkS s (shS s m k)).y = 1 := by
  have hn : s.z * k ≠ 0 := Int.mul_ne_zero (by omega) (by omega)
  have e1 : (shS s m k).x * (s.z * k) = s.x * m * (shS s m k).z := l_a
  have e2 : (shS s m k).y * (s.z * k) = s.y * m * (shS s m k).z := l_b
  have f1 : 1 ≤ (shS s m k).z := l_n hn
  generalize hx : (shS s m k).x = fx at *
  generalize hy : (shS s m k).y = fy at *
  generalize hz : (shS s m k).z = fz at *
  have hn1 : 1 ≤ s.z * fz := Int.mul_pos (by omega) (by omega)
  have t1 : (tkS s (shS s m k)).x = lA (s.x * fz + -fx * s.z) (s.y * fz + -fy * s.z) (s.z * fz) := by
    unfold tkS
    rw [hx, hy, hz]
  have t2 : (tkS s (shS s m k)).y = lB (s.x * fz + -fx * s.z) (s.y * fz + -fy * s.z) (s.z * fz) := by
    unfold tkS
    rw [hx, hy, hz]
  rw [t1, t2, sgn_lowest hR hn1]
  refine (sgn_same hR (k := k) (m := fz * (k - m)) (by omega) (Int.mul_pos (by omega) (by omega)) ?_ ?_).trans up
  · clear t1 t2 hn1 hn up
    grind
  · clear t1 t2 hn1 hn up
    grind
theorem tk_un {d : Int} {s t : Sd} (hR : Rt d) (z1 : 1 ≤ s.z) (z2 : 1 ≤ t.z) (h : 0 < sgn d (s.x * t.z - t.x * s.z) (s.y * t.z - t.y * s.z)) : sgn d (tkS s t).x (tkS s t).y = 1 := by
  have hn1 : 1 ≤ s.z * t.z := Int.mul_pos (by omega) (by omega)
  have e : sgn d (tkS s t).x (tkS s t).y = sgn d (s.x * t.z - t.x * s.z) (s.y * t.z - t.y * s.z) := by
    refine (sgn_lowest hR hn1).trans ?_
    rw [show s.x * t.z + -t.x * s.z = s.x * t.z - t.x * s.z by grind, show s.y * t.z + -t.y * s.z = s.y * t.z - t.y * s.z by grind]
  rw [e]
  rcases sgn_tri hR (s.x * t.z - t.x * s.z) (s.y * t.z - t.y * s.z) with z | z | z
  · exact z
  · omega
  · rw [z.1, z.2, sgn_zero] at h
    omega
inductive Dd where
  | cut (al : Bool) (n : Int) (s : Sd)
  | glue (al : Bool) (n m : Int)
  | shift (al : Bool) (n k : Int)
  | turn (n : Int)
abbrev SY (s : Sd) : Prop := SK 1300 800 s
def Dd.wd : Dd → Str
  | .cut al _ _ => if al then "along" else "across"
  | .glue al _ _ => if al then "atop" else "beside"
  | .shift al _ _ => if al then "spread" else "stack"
  | .turn _ => "turn"
def Dd.n : Dd → Int
  | .cut _ n _ => n
  | .glue _ n _ => n
  | .shift _ n _ => n
  | .turn n => n
def Dd.names : Dd → List Int
  | .glue _ n m => [n, m]
  | d => [d.n]
def DdAt (H : Hp) (p : Addr) : Dd → Prop
  | .cut al n s => ∃ q, H p = some (.tup [.str (Dd.cut al n s).wd, .int n, .ref q]) ∧ SdAt H q s
  | .glue al n m => H p = some (.tup [.str (Dd.glue al n m).wd, .int n, .int m])
  | .shift al n k => H p = some (.tup [.str (Dd.shift al n k).wd, .int n, .int k])
  | .turn n => H p = some (.tup [.str "turn", .int n])
def Dd.Ok : Dd → Prop
  | .cut _ _ s => SY s
  | .shift _ _ k => 1 ≤ k ∧ Bd 64 k
  | _ => True
theorem DdAt.same {H H' : Hp} {p : Addr} {e : Dd} (h : DdAt H p e) (s : Same H H') : DdAt H' p e := by
  cases e with
  | cut al n t => obtain ⟨q, h1, h2⟩ := h; exact ⟨q, s _ _ h1, s _ _ h2⟩
  | glue al n m => exact s _ _ h
  | shift al n k => exact s _ _ h
  | turn n => exact s _ _ h
def Dd.two : Dd → Bool
  | .glue _ _ _ => true
  | _ => false
def Dd.new (b c : Bo) : Dd → List Bo
  | .cut false _ s => [⟨s, b.h⟩, ⟨tkS b.w s, b.h⟩]
  | .cut true _ s => [⟨b.w, s⟩, ⟨b.w, tkS b.h s⟩]
  | .glue false _ _ => [⟨adS b.w c.w, b.h⟩]
  | .glue true _ _ => [⟨b.w, adS b.h c.h⟩]
  | .shift false _ k => [⟨shS b.w 1 k, shS b.h k 1⟩]
  | .shift true _ k => [⟨shS b.w k 1, shS b.h 1 k⟩]
  | .turn _ => [⟨b.h, b.w⟩]
def CutOk (d : Int) (w s : Sd) : Prop := SY w ∧ SY s ∧ 0 < sgn d s.x s.y ∧ 0 < sgn d (w.x * s.z - s.x * w.z) (w.y * s.z - s.y * w.z)
def Dd.Fit (d : Int) (b c : Bo) : Dd → Prop
  | .cut false _ s => CutOk d b.w s
  | .cut true _ s => CutOk d b.h s
  | .glue false _ _ => b.h = c.h ∧ SY b.w ∧ SY c.w
  | .glue true _ _ => b.w = c.w ∧ SY b.h ∧ SY c.h
  | .shift _ _ k => 1 ≤ k ∧ Bd 64 k ∧ SY b.w ∧ SY b.h
  | .turn _ => True
def Dd.isT : Dd → Bool
  | .turn _ => true
  | _ => false
def ndrop (ns : List Nat) : List Int → List Nat
  | [] => ns
  | m :: ms => ndrop (ns.filter fun n : Nat => decide ((n : Int) ≠ m)) ms
def CellsOf (cl : List Cell) (e : Dd) (c c' : Cell) : Prop := match e with
  | .glue _ n m => (∃ i : Nat, n = (i : Int) ∧ cl[i]? = some c) ∧ ∃ i : Nat, m = (i : Int) ∧ cl[i]? = some c'
  | e => (∃ i : Nat, e.n = (i : Int) ∧ cl[i]? = some c) ∧ c' = c
structure Yd where
  p : Addr
  dx : Addr
  k : Addr
  l : Addr
  t : Addr
def Yd.fs (y : Yd) (d : Int) (tn : Bool) : List (Str × V) := [("root", .int d), ("turning", .bl tn), ("known", .ref y.k), ("lying", .ref y.l), ("done", .ref y.t)]
def nmK (ns : List Nat) : List (Key × V) := ns.map fun n : Nat => ((.inl (n : Int) : Key), V.bl true)
structure YdAt (C : Addr) (H : Hp) (y : Yd) (d : Int) (tn : Bool) (cl : List Cell) (ns : List Nat) (lg : List V) : Prop where
  o : H y.p = some (.ins C y.dx (y.fs d tn))
  k : H y.k = some (.lst (cl.map Cell.v))
  l : H y.l = some (.dK (nmK ns))
  t : H y.t = some (.lst lg)
  kt : y.k ≠ y.t
  at' : ∀ c ∈ cl, c.At H
  up : ns.Pairwise (· < ·)
  lt : ∀ n ∈ ns, n < cl.length
  lc : cl.length ≤ 80
  ll : lg.length ≤ 40
theorem YdAt.same {C : Addr} {H H' : Hp} {y : Yd} {d : Int} {tn : Bool} {cl : List Cell} {ns : List Nat} {lg : List V} (h : YdAt C H y d tn cl ns lg) (s : Same H H') : YdAt C H' y d tn cl ns lg :=
  ⟨s _ _ h.o, s _ _ h.k, s _ _ h.l, s _ _ h.t, h.kt, fun c hc => (h.at' c hc).same s, h.up, h.lt, h.lc, h.ll⟩
theorem pe_fldK {X : Cx} {e : Expr} {ta : TE} {f : Str} {pos : Pos} {K : PySem.W.Frag} (hK : X.K = K) (he : PE X e ta) (hb : attributeBase e f X.env (eval e X.env) = eval e X.env) : PE X (.Attribute e f pos) (tFld K ta f) := by
  subst hK
  exact pe_fld he hb
theorem i_fld {K : PySem.W.Frag} {ta : TE} {f : Str} {σ : L2.St} {H : Hp} {Q : VK} (h : ta σ H fun x H1 => ∃ a C dx fs v, x = .ref a ∧ H1 a = some (.ins C dx fs) ∧ Cls K C ∧ NoAttr K C f ∧ fs.lookup f = some v ∧ Q v H1) : tFld K ta f σ H Q := h
theorem i_sfld {K : PySem.W.Frag} {ta tv : TE} {f : Str} {D : Ends} {σ : L2.St} {H : Hp} (h : tv σ H fun y H1 => ta σ H1 fun x H2 => ∃ a C dx fs, x = .ref a ∧ H2 a = some (.ins C dx fs) ∧ Cls K C ∧ NoAttr K C f ∧ fs.length < 1000 ∧ D.nx σ (upd H2 a (.ins C dx (putF f y fs)))) : sFld K ta tv f D σ H := h
local macro_rules | `(tactic| walk_at "rd") => `(tactic| first | with_reducible refine i_fld ?_ | with_reducible refine i_sfld ?_)
theorem i_setf {K : PySem.W.Frag} {f : Str} {D : Ends} {σ : L2.St} {H : Hp} {y : V} {a C dx : Addr} {fs : List (Str × V)} (e : H a = some (.ins C dx fs)) (c : Cls K C) (n : NoAttr K C f) (hl : fs.length < 1000) (q : ∀ H1, SameX a H H1 → H1 a = some (.ins C dx (putF f y fs)) → D.nx σ H1) : ∃ a' C dx fs, V.ref a = .ref a' ∧ H a' = some (.ins C dx fs) ∧ Cls K C ∧ NoAttr K C f ∧ fs.length < 1000 ∧ D.nx σ (upd H a' (.ins C dx (putF f y fs))) :=
  ⟨a, C, dx, fs, rfl, e, c, n, hl, q _ (fun b u q n => by rw [upd_ne n]; exact q) upd_same⟩
theorem i_lstLf {K : PySem.W.Frag} {H : Hp} {Q : VK} {p : Addr} {ys : List V} (h : H p = some (.lst ys)) (q : ∀ l H2, H l = none → Same H H2 → H2 l = some (.lst ys) → Q (.ref l) H2) : rLst K [.ref p] H Q := ⟨p, ys, rfl, .inl (SqL.of h), fun l hl => q l _ hl (same_upd hl _) upd_same⟩
theorem i_dictP {H : Hp} {Q : VK} {l : Addr} {ps : List Addr} {kvs : List (Key × V)} (e : H l = some (.lst (ps.map V.ref))) (hl : ps.length = kvs.length) (hp : ∀ (i : Nat) (p : Addr) (kv : Key × V), ps[i]? = some p → kvs[i]? = some kv → H p = some (.tup [kV kv.1, kv.2])) (hn : (kvs.map (·.1)).Nodup) (hz : kvs.length ≤ 1000) (q : ∀ p H2, H p = none → Same H H2 → H2 p = some (.dK kvs) → Q (.ref p) H2) : rDictP [.ref l] H Q :=
  ⟨l, ps, kvs, rfl, e, hl, hp, hn, Nat.le_trans hz (by decide +kernel), fun p h => q p _ h (same_upd h _) upd_same⟩
theorem nmK_nodup {ns : List Nat} (h : ns.Pairwise (· < ·)) : ((nmK ns).map (·.1)).Nodup := by
  rw [nmK, List.map_map]
  refine List.pairwise_map.mpr (h.imp fun {a b} hab e => ?_)
  have e : (a : Int) = b := Sum.inl.inj e
  omega
theorem SameX.of {l : Addr} {H H' : Hp} (s : Same H H') : SameX l H H' := fun b o e _ => s b o e
theorem putF_lt {f : Str} {v : V} {fs : List (Str × V)} {n : Nat} (h : fs.length < n) : (putF f v fs).length < n + 1 := Nat.lt_of_le_of_lt (length_putF f v fs) (Nat.succ_lt_succ h)
theorem i_dnin {ty td : TE} {σ : L2.St} {H : Hp} {Q : VK} (h : ty σ H fun y H1 => td σ H1 fun x H2 => ∃ a o, x = .ref a ∧ DGet H2 a y o ∧ Q (.bl (!o.isSome)) H2) : tDNotIn ty td σ H Q := h
theorem i_dget {ty td : TE} {σ : L2.St} {H : Hp} {Q : VK} (h : td σ H fun x H1 => ty σ H1 fun y H2 => ∃ a v, x = .ref a ∧ DGet H2 a y (some v) ∧ Q v H2) : tDGet td ty σ H Q := h
theorem i_dput {ty td tv : TE} {σ : L2.St} {H : Hp} {D : Ends} (h : tv σ H fun v H1 => td σ H1 fun x H2 => ty σ H2 fun y H3 => ∃ a H4, x = .ref a ∧ DPut H3 a y v H4 ∧ D.nx σ H4) : sDPut td ty tv D σ H := h
local macro_rules | `(tactic| walk_at "rd") => `(tactic| first | with_reducible refine i_dnin ?_ | with_reducible refine i_dget ?_ | with_reducible refine i_dput ?_)
theorem valV_nmK {n : Nat} : ∀ {ns : List Nat}, n ∈ ns → valV (nmK ns) (.inl (n : Int)) = some (.bl true)
  | m :: ns, h => by
    by_cases e : m = n
    · subst e; exact valV_pos rfl
    · rw [nmK, List.map_cons, valV_neg (fun c => e (Int.ofNat.inj (Sum.inl.inj c)))]
      exact valV_nmK (by simpa [Ne.symm e] using h)
def pick (cl : List Cell) (ns : List Nat) : List Cell := ns.filterMap fun n => cl[n]?
theorem pick_take {cl : List Cell} {ns : List Nat} {i n : Nat} {c : Cell} (hi : ns[i]? = some n) (hc : cl[n]? = some c) : pick cl (ns.take (i + 1)) = pick cl (ns.take i) ++ [c] := by
  rw [pick, List.take_succ, hi, List.filterMap_append]
  simp [pick, hc]
theorem pick_len {cl : List Cell} : ∀ {ns : List Nat}, (pick cl ns).length ≤ ns.length
  | [] => Nat.le_refl _
  | n :: ns => by
    have := pick_len (cl := cl) (ns := ns)
    cases e : cl[n]? with
    | none => simp only [pick, List.filterMap_cons, e, List.length_cons]; exact Nat.le_succ_of_le this
    | some c => simp only [pick, List.filterMap_cons, e, List.length_cons]; exact Nat.succ_le_succ this
theorem up_len {ns : List Nat} {k : Nat} (h : ns.Pairwise (· < ·)) (hk : ∀ n ∈ ns, n < k) : ns.length ≤ k := by
  have hn : ns.Nodup := h.imp fun hab => Nat.ne_of_lt hab
  have := (List.nodup_range (n := k))
  exact (List.length_range (n := k)) ▸ (List.Nodup.length_le_of_subset hn fun n h => List.mem_range.mpr (hk n h))
def Prs (cl : List Cell) (ns : List Nat) (H : Hp) (ps : List Addr) : Prop := ps.length = ns.length ∧ ∀ (j : Nat) (p : Addr), ps[j]? = some p → ∃ n c, ns[j]? = some n ∧ cl[n]? = some c ∧ H p = some (.tup [.int (n : Int), .ref c.p])
theorem i_meth {C : Addr} {m : Str} {sp : Sp} {dvs : List V} {E : XK} {ta : TE} {t : TA} {σ : L2.St} {H : Hp} {Q : VK} (h : ta σ H fun x H1 => ∃ a dx fs, x = .ref a ∧ H1 a = some (.ins C dx fs) ∧ fs.lookup m = none ∧ t σ H1 fun vs H2 => sp (x :: (vs ++ dvs)) H2 Q E) : tMeth C m sp dvs E ta t σ H Q := h
theorem i_dpop {td ty : TE} {σ : L2.St} {H : Hp} {Q : VK} (h : td σ H fun x H1 => ∃ a, x = .ref a ∧ IsD H1 a ∧ ty σ H1 fun y H2 => ∃ kvs k v, H2 a = some (.dK kvs) ∧ y = kV k ∧ valV kvs k = some v ∧ Q v (upd H2 a (.dK (dropK kvs k)))) : tDPop1 td ty σ H Q := h
local macro_rules | `(tactic| walk_at "rd") => `(tactic| first | with_reducible refine i_meth ?_ | with_reducible refine i_dpop ?_)
theorem DdAt.tup {H : Hp} {p : Addr} {e : Dd} (h : DdAt H p e) : ∃ r, H p = some (.tup (.str e.wd :: .int e.n :: r)) := by
  cases e with
  | cut al n t => obtain ⟨q, h1, h2⟩ := h; exact ⟨_, h1⟩
  | glue al n m => exact ⟨_, h⟩
  | shift al n k => exact ⟨_, h⟩
  | turn n => exact ⟨_, h⟩
theorem wd_turn {e : Dd} (h : e.wd = Str.ofString "turn") : e.isT = true := by
  cases e with
  | cut al n t => cases al <;> exact absurd (show Str.ofString _ = Str.ofString "turn" from h) (by decide +kernel)
  | glue al n m => cases al <;> exact absurd (show Str.ofString _ = Str.ofString "turn" from h) (by decide +kernel)
  | shift al n k => cases al <;> exact absurd (show Str.ofString _ = Str.ofString "turn" from h) (by decide +kernel)
  | turn n => rfl
theorem by_sh {p A B F : Prop} [Decidable p] (h : B) (k : p → B → A) : if decide p = true then A else if false = true then F else B := if_d (fun c => k c h) fun _ => if_f h
theorem Dd.names_len (e : Dd) : e.names.length ≤ 2 := by cases e <;> simp [Dd.names]
def Dd.cells (e : Dd) (c c' : Cell) : List Cell := if e.two then [c, c'] else [c]
theorem names_cells {cl : List Cell} {e : Dd} {c c' : Cell} (h : CellsOf cl e c c') {i : Nat} {m : Int} (hi : e.names[i]? = some m) : ∃ (n : Nat) (x : Cell), m = (n : Int) ∧ cl[n]? = some x ∧ (e.cells c c')[i]? = some x := by
  cases e with
  | glue al n k =>
    obtain ⟨⟨j, h1, h2⟩, j', h3, h4⟩ := h
    match i, hi with
    | 0, hi => injection hi with hi; exact ⟨j, c, hi ▸ h1, h2, rfl⟩
    | 1, hi => injection hi with hi; exact ⟨j', c', hi ▸ h3, h4, rfl⟩
    | i + 2, hi => exact nomatch hi
  | cut al n t =>
    obtain ⟨⟨j, h1, h2⟩, _⟩ := h
    match i, hi with
    | 0, hi => injection hi with hi; exact ⟨j, c, hi ▸ h1, h2, rfl⟩
    | i + 1, hi => exact nomatch hi
  | shift al n k =>
    obtain ⟨⟨j, h1, h2⟩, _⟩ := h
    match i, hi with
    | 0, hi => injection hi with hi; exact ⟨j, c, hi ▸ h1, h2, rfl⟩
    | i + 1, hi => exact nomatch hi
  | turn n =>
    obtain ⟨⟨j, h1, h2⟩, _⟩ := h
    match i, hi with
    | 0, hi => injection hi with hi; exact ⟨j, c, hi ▸ h1, h2, rfl⟩
    | i + 1, hi => exact nomatch hi
theorem CellsOf.mem {cl : List Cell} {e : Dd} {c c' : Cell} (h : CellsOf cl e c c') : c ∈ cl ∧ c' ∈ cl := by
  cases e with
  | glue al n k => obtain ⟨⟨j, h1, h2⟩, j', h3, h4⟩ := h; exact ⟨List.mem_of_getElem? h2, List.mem_of_getElem? h4⟩
  | cut al n t => obtain ⟨⟨j, h1, h2⟩, rfl⟩ := h; exact ⟨List.mem_of_getElem? h2, List.mem_of_getElem? h2⟩
  | shift al n k => obtain ⟨⟨j, h1, h2⟩, rfl⟩ := h; exact ⟨List.mem_of_getElem? h2, List.mem_of_getElem? h2⟩
  | turn n => obtain ⟨⟨j, h1, h2⟩, rfl⟩ := h; exact ⟨List.mem_of_getElem? h2, List.mem_of_getElem? h2⟩
theorem Dd.cells_len (e : Dd) (c c' : Cell) : (e.cells c c').length = e.names.length := by cases e <;> rfl
theorem ndrop_snoc {m : Int} : ∀ (ms : List Int) (ns : List Nat), ndrop ns (ms ++ [m]) = (ndrop ns ms).filter fun n : Nat => decide ((n : Int) ≠ m)
  | [], _ => rfl
  | _ :: ms, _ => ndrop_snoc ms _
theorem mem_ndrop {n : Nat} : ∀ {ms : List Int} {ns : List Nat}, n ∈ ndrop ns ms ↔ n ∈ ns ∧ (n : Int) ∉ ms
  | [], ns => by simp [ndrop]
  | m :: ms, ns => by
    rw [ndrop, mem_ndrop, List.mem_filter]
    simp only [List.mem_cons, decide_eq_true_eq, not_or]
    constructor
    · rintro ⟨⟨a, b⟩, c⟩; exact ⟨a, b, c⟩
    · rintro ⟨a, b, c⟩; exact ⟨⟨a, b⟩, c⟩
theorem up_ndrop : ∀ {ms : List Int} {ns : List Nat}, ns.Pairwise (· < ·) → (ndrop ns ms).Pairwise (· < ·)
  | [], _, h => h
  | m :: ms, ns, h => show (ndrop (ns.filter fun n : Nat => decide ((n : Int) ≠ m)) ms).Pairwise (· < ·) from up_ndrop (h.filter _)
theorem dropK_nmK {n : Nat} : ∀ ns : List Nat, dropK (nmK ns) (.inl (n : Int)) = nmK (ns.filter fun k : Nat => decide ((k : Int) ≠ (n : Int)))
  | [] => rfl
  | k :: ns => by
    have ih := dropK_nmK (n := n) ns
    simp only [dropK, nmK] at ih ⊢
    by_cases c : (k : Int) = n
    · simp only [List.map_cons, List.filter_cons, c, ne_eq, not_true_eq_false, decide_false, ih]
      rfl
    · simp only [List.map_cons, List.filter_cons, ne_eq, Sum.inl.injEq, c, not_false_eq_true, decide_true, ih]
      rfl
theorem valV_fresh {k : Nat} : ∀ {ns : List Nat}, (∀ n ∈ ns, n < k) → valV (nmK ns) (.inl (k : Int)) = none
  | [], _ => rfl
  | m :: ns, h => by
    rw [nmK, List.map_cons, valV_neg (fun c => absurd (Int.ofNat.inj (Sum.inl.inj c)) (Nat.ne_of_lt (h m List.mem_cons_self)))]
    exact valV_fresh fun n hn => h n (List.mem_cons_of_mem _ hn)
theorem new_len (e : Dd) (b c : Bo) : (e.new b c).length ≤ 2 := by
  cases e with
  | cut al n t => cases al <;> exact Nat.le_refl _
  | glue al n m => cases al <;> exact Nat.le_succ _
  | shift al n k => cases al <;> exact Nat.le_succ _
  | turn n => exact Nat.le_succ _
theorem Same.nn {H H' : Hp} (s : Same H H') {a : Addr} (h : H' a = none) : H a = none := by
  cases e : H a with
  | none => rfl
  | some o => rw [s _ _ e] at h; cases h
theorem i_newTf {H : Hp} {Q : VK} {xs : List V} (hl : xs.length ≤ 1000) (h : ∀ p H2, H p = none → Same H H2 → H2 p = some (.tup xs) → Q (.ref p) H2) : NewT xs H Q :=
  ⟨line_le hl, fun p hp => h p _ hp (same_upd hp _) upd_same⟩
def plS (s t : Sd) (g : Int) : Sd := ⟨lA (s.x * t.z + g * t.x * s.z) (s.y * t.z + g * t.y * s.z) (s.z * t.z), lB (s.x * t.z + g * t.x * s.z) (s.y * t.z + g * t.y * s.z) (s.z * t.z), lN (s.x * t.z + g * t.x * s.z) (s.y * t.z + g * t.y * s.z) (s.z * t.z)⟩
theorem plS_neg (s t : Sd) : plS s t (-1) = tkS s t := by unfold plS tkS; rw [show (-1 : Int) * t.x = -t.x by omega, show (-1 : Int) * t.y = -t.y by omega]
theorem plS_one (s t : Sd) : plS s t 1 = adS s t := by unfold plS adS; rw [Int.one_mul, Int.one_mul]
structure Dw (d : Int) (s : Sd) : Prop where
  z1 : 1 ≤ s.z
  g : g3 s.x s.y s.z = 1
  up : sgn d s.x s.y = 1
  bx : Bd 40 s.x
  by' : Bd 40 s.y
  bz : Bd 20 s.z
theorem Dw.low {d a b n : Int} (hR : Rt d) (ba : Bd 40 a) (bb : Bd 40 b) (h1 : 1 ≤ n) (h2 : n ≤ 1000000) (up : sgn d a b = 1) : Dw d ⟨lA a b n, lB a b n, lN a b n⟩ :=
  ⟨l_n (by omega), l_gcd (by omega), (sgn_lowest hR h1).trans up, ba.fdiv _, bb.fdiv _, (bd_range (k := 20) (by omega) h2 (by decide)).fdiv _⟩
def pz : List Sd → Int
  | [] => 1
  | s :: l => s.z * pz l
theorem pz_pos {d : Int} : ∀ {l : List Sd}, (∀ s ∈ l, Dw d s) → 1 ≤ pz l
  | [], _ => Int.le_refl _
  | s :: l, h => Int.mul_pos (by have := (h s List.mem_cons_self).z1; omega) (by have := pz_pos (l := l) fun t ht => h t (List.mem_cons_of_mem _ ht); omega)
theorem pz_bd {d : Int} : ∀ {l : List Sd}, (∀ s ∈ l, Dw d s) → Bd (20 * l.length + 1) (pz l)
  | [], _ => by decide
  | s :: l, h => Bd.mono ((h s List.mem_cons_self).bz.mul (pz_bd (l := l) fun t ht => h t (List.mem_cons_of_mem _ ht))) (by simp only [List.length_cons]; omega)
theorem pz_so {d : Int} : ∀ {l : List Sd}, (∀ s ∈ l, Dw d s) → ∀ s ∈ l, So d (pz l) (20 * l.length + 41) s
  | [], _, s, hs => absurd hs (by simp)
  | t :: l, h, s, hs => by
    have hl : ∀ s ∈ l, Dw d s := fun t ht => h t (List.mem_cons_of_mem _ ht)
    rcases List.mem_cons.mp hs with rfl | hs
    · have o := h s List.mem_cons_self
      have : So d s.z 40 s := ⟨o.z1, o.g, o.up, s.x, s.y, o.bx, o.by', rfl, rfl⟩
      exact (this.scale (pz_bd hl)).mono (by simp only [List.length_cons]; omega)
    · have := (pz_so hl s hs).scale (h t List.mem_cons_self).bz
      rw [Int.mul_comm] at this
      exact this.mono (by simp only [List.length_cons]; omega)
abbrev PL := List (Addr × Sd)
structure Pl (H : Hp) (q : Addr) (P : List (Addr × Sd)) : Prop where
  l : H q = some (.lst (P.map fun x => V.ref x.1))
  at' : ∀ x ∈ P, SdAt H x.1 x.2
  n : P.length = 3
theorem Pl.same {H H' : Hp} {q : Addr} {P : List (Addr × Sd)} (h : Pl H q P) (s : Same H H') : Pl H' q P := ⟨s _ _ h.l, fun x hx => s _ _ (h.at' x hx), h.n⟩
theorem Pl.get {H : Hp} {q : Addr} {P : List (Addr × Sd)} (h : Pl H q P) {i : Int} (h0 : 0 ≤ i) (h1 : i < 3) : ∃ x ∈ P, atI (P.map fun x => V.ref x.1) i = some (.ref x.1) ∧ SdAt H x.1 x.2 := by
  have hn := h.n
  obtain ⟨j, rfl⟩ : ∃ j : Nat, i = (j : Int) := ⟨i.toNat, by omega⟩
  have hj : j < P.length := by omega
  refine ⟨P[j], List.getElem_mem hj, atI_nat (by rw [List.getElem?_map, List.getElem?_eq_getElem hj]; rfl), h.at' _ (List.getElem_mem hj)⟩
def cdK (ns : List Nat) (f : Nat → Cell) : List (Key × V) := ns.map fun n : Nat => ((.inl (n : Int) : Key), (f n).v)
structure Ly (H : Hp) (a : Addr) (ns : List Nat) (f : Nat → Cell) : Prop where
  l : H a = some (.dK (cdK ns f))
  at' : ∀ n ∈ ns, (f n).At H
theorem Ly.same {H H' : Hp} {a : Addr} {ns : List Nat} {f : Nat → Cell} (h : Ly H a ns f) (s : Same H H') : Ly H' a ns f := ⟨s _ _ h.l, fun n hn => (h.at' n hn).same s⟩
theorem valV_cdK {n : Nat} {f : Nat → Cell} : ∀ {ns : List Nat}, n ∈ ns → valV (cdK ns f) (.inl (n : Int)) = some (f n).v
  | m :: ns, h => by
    by_cases e : m = n
    · subst e; exact valV_pos rfl
    · rw [cdK, List.map_cons, valV_neg (fun c => e (Int.ofNat.inj (Sum.inl.inj c)))]
      exact valV_cdK (by simpa [Ne.symm e] using h)
theorem valV_cfresh {k : Nat} {f : Nat → Cell} : ∀ {ns : List Nat}, (∀ n ∈ ns, n < k) → valV (cdK ns f) (.inl (k : Int)) = none
  | [], _ => rfl
  | m :: ns, h => by
    rw [cdK, List.map_cons, valV_neg (fun c => absurd (Int.ofNat.inj (Sum.inl.inj c)) (Nat.ne_of_lt (h m List.mem_cons_self)))]
    exact valV_cfresh fun n hn => h n (List.mem_cons_of_mem _ hn)
theorem dropK_cdK {n : Nat} {f : Nat → Cell} : ∀ ns : List Nat, dropK (cdK ns f) (.inl (n : Int)) = cdK (ns.filter fun k : Nat => decide ((k : Int) ≠ (n : Int))) f
  | [] => rfl
  | k :: ns => by
    have ih := dropK_cdK (n := n) (f := f) ns
    simp only [dropK, cdK] at ih ⊢
    by_cases c : (k : Int) = n
    · simp only [List.map_cons, List.filter_cons, c, ne_eq, not_true_eq_false, decide_false, ih]
      rfl
    · simp only [List.map_cons, List.filter_cons, ne_eq, Sum.inl.injEq, c, not_false_eq_true, decide_true, ih]
      rfl
theorem cdK_keys {ns : List Nat} {f : Nat → Cell} : (cdK ns f).map (·.1) = (ns.map fun n : Nat => (n : Int)).map Sum.inl := by
  simp only [cdK, List.map_map]
  rfl
theorem cdK_len {ns : List Nat} {f : Nat → Cell} : (cdK ns f).length = ns.length := by simp [cdK]
theorem up_int {ns : List Nat} (h : ns.Pairwise (· < ·)) : (ns.map fun n : Nat => (n : Int)).Pairwise (· < ·) :=
  List.pairwise_map.mpr (h.imp fun {a b} hab => Int.ofNat_lt.mpr hab)
theorem i_sortD {H : Hp} {Q : VK} {a : Addr} {ns : List Nat} {f : Nat → Cell} (h : H a = some (.dK (cdK ns f))) (up : ns.Pairwise (· < ·)) (hl : ns.length < 64) (q : ∀ p H2, H p = none → Same H H2 → H2 p = some (.lst ((ns.map fun n : Nat => (n : Int)).map V.int)) → Q (.ref p) H2) : rSortD [.ref a] H Q :=
  ⟨a, _, _, rfl, h, cdK_keys, up_int up, by rw [cdK_len]; exact hl, fun p hp => q p _ hp (same_upd hp _) upd_same⟩
theorem i_dictCf {H : Hp} {Q : VK} {a : Addr} {kvs : List (Key × V)} (h : H a = some (.dK kvs)) (q : ∀ p H2, H p = none → Same H H2 → H2 p = some (.dK kvs) → Q (.ref p) H2) : rDictC [.ref a] H Q :=
  ⟨a, _, rfl, h, fun p hp => q p _ hp (same_upd hp _) upd_same⟩
def rNeL (X : Cx) : R2 := fun x y H Q => ∃ a b xs ys bs n, x = .ref a ∧ y = .ref b ∧ n ≤ 9 ∧ SqL X.K H a xs ∧ SqL X.K H b ys ∧ EqVs X n H xs ys bs ∧ Q (.bl (!(bs.all id))) H
theorem op_neL {X : Cx} (hu : X.A.units + 64 < cLine) : OpR X (compareOp .NotEq) (rNeL X) := by
  intro pins s σ H x y v u Q I rx ry h
  obtain ⟨a, b, xs, ys, bs, n, rfl, rfl, hn, ha, hb, he, q⟩ := h
  cases rx
  cases ry
  obtain ⟨is, js, p1, p2, hz, hj, e⟩ := rc_lst (A := X.A) ha hb he I (by omega)
  refine SeqAt.RcNeAt.lists p1 p2 hz (by omega) hj X.prog X.w X.xe _ ?_
  rw [e]
  exact ⟨.bl _, H, I, rfl, q⟩
theorem i_neLB {X : Cx} {H : Hp} {Q : VK} {a b : Addr} {C D : List Cell} (ha : H a = some (.lst (C.map Cell.v))) (hb : H b = some (.lst (D.map Cell.v))) (hC : ∀ c ∈ C, c.At H) (hD : ∀ c ∈ D, c.At H) (e : C.map Cell.b = D.map Cell.b) (q : Q (.bl false) H) : rNeL X (.ref a) (.ref b) H Q := by
  obtain ⟨a', b', xs, ys, bs, n, e1, e2, hn, h1, h2, h3, h4⟩ := i_eqLB (X := X) (Q := fun v H' => v = .bl true ∧ H' = H) ha hb hC hD e ⟨rfl, rfl⟩
  refine ⟨a', b', xs, ys, bs, n, e1, e2, hn, h1, h2, h3, ?_⟩
  have h5 : bs.all id = true := by
    have := h4.1
    injection this
  rw [h5]
  exact q
def rNeE (K : PySem.W.Frag) : R2 := fun x y H Q => ∃ a b xs, x = .ref a ∧ y = .ref b ∧ SqL K H a xs ∧ SqL K H b [] ∧ Q (.bl (!xs.isEmpty)) H
theorem op_neE {X : Cx} (hu : X.A.units + 64 < cLine) : OpR X (compareOp .NotEq) (rNeE X.K) := by
  intro pins s σ H x y v u Q I rx ry h
  obtain ⟨a, b, xs, rfl, rfl, ha, hb, q⟩ := h
  cases rx
  cases ry
  obtain ⟨is, r1, p1, _⟩ := I.list ha
  obtain ⟨js, r2, p2, _⟩ := I.list hb
  have l1 := r1.length
  have l2 := r2.length
  have j0 : js = [] := List.length_eq_zero_iff.mp l2.symm
  subst j0
  cases xs with
  | nil =>
    have i0 : is = [] := List.length_eq_zero_iff.mp l1.symm
    subst i0
    exact SeqAt.RcNeAt.lists (e := fun _ => true) p1.isList p2.isList rfl (by omega) (fun j h1 h2 => absurd h1 (by simp)) X.prog X.w X.xe _ ⟨.bl false, H, I, rfl, q⟩
  | cons z zs =>
    refine SeqAt.RcNeAt.lists_lengths p1.isList p2.isList ?_ (by omega) X.prog X.w X.xe _ ⟨.bl true, H, I, rfl, q⟩
    cases is with
    | nil => simp at l1
    | cons i is => simp
def rEq3 (K : PySem.W.Frag) : R2 := fun u v H Q => ∃ (a b : Addr) (x y z x' y' z' : Int), u = .ref a ∧ v = .ref b ∧ SqT K H a [.int x, .int y, .int z] ∧ SqT K H b [.int x', .int y', .int z'] ∧ Q (.bl (decide (x = x' ∧ y = y' ∧ z = z'))) H
theorem op_eq3 {X : Cx} {K : PySem.W.Frag} (hu : X.A.units + 64 < cLine) (hK : X.K = K) : OpR X (compareOp .Eq) (rEq3 K) := by
  subst hK
  intro pins s σ H x y v u Q I rx ry h
  obtain ⟨a, b, x1, y1, z1, x2, y2, z2, rfl, rfl, ha, hb, q⟩ := h
  exact op_eqT hu pins s σ H _ _ v u Q I rx ry (i_eq3S ha hb q)
theorem tk_lt {d : Int} {s t : Sd} (hR : Rt d) (z1 : 1 ≤ s.z) (z2 : 1 ≤ t.z) (h : sgn d (tkS t s).x (tkS t s).y < 0) : sgn d (tkS s t).x (tkS s t).y = 1 := by
  refine tk_un hR z1 z2 ?_
  have hn1 : 1 ≤ t.z * s.z := Int.mul_pos (by omega) (by omega)
  have e : sgn d (tkS t s).x (tkS t s).y = sgn d (-(s.x * t.z - t.x * s.z)) (-(s.y * t.z - t.y * s.z)) := by
    refine (sgn_lowest hR hn1).trans ?_
    rw [show t.x * s.z + -s.x * t.z = -(s.x * t.z - t.x * s.z) by grind, show t.y * s.z + -s.y * t.z = -(s.y * t.z - t.y * s.z) by grind]
  rw [e, sgn_neg hR] at h
  omega
structure Dd.Good (d D : Int) (M : Nat) (ns : List Nat) (f : Nat → Cell) (e : Dd) (n m : Nat) : Prop where
  nm : e.names = if e.two then [(n : Int), (m : Int)] else [(n : Int)]
  hn : n ∈ ns
  hm : m ∈ ns
  ne : e.two = true → n ≠ m
  eq : e.two = false → m = n
  ok : e.Ok
  fit : e.Fit d (f n).b (f m).b
  new : ∃ k, 1 ≤ k ∧ Bd 14 k ∧ ∀ x ∈ e.new (f n).b (f m).b, BoD d (D * k) (M + 28) x
theorem Dd.Good.en {d D : Int} {M : Nat} {ns : List Nat} {f : Nat → Cell} {e : Dd} {n m : Nat} (h : e.Good d D M ns f n m) : e.n = (n : Int) := by
  have := h.nm
  cases e <;> simp [Dd.names, Dd.two, Dd.n] at this ⊢
  · exact this
  · exact this.1
  · exact this
  · exact this
theorem BoD.up {d D k : Int} {M j : Nat} {b : Bo} (h : BoD d D M b) (bk : Bd j k) : BoD d (D * k) (M + j) b := ⟨h.1.scale bk, h.2.scale bk⟩
theorem BoD.mono {d D : Int} {M M' : Nat} {b : Bo} (h : BoD d D M b) (l : M ≤ M') : BoD d D M' b := ⟨h.1.mono l, h.2.mono l⟩
structure Sz (D : Int) (K' M : Nat) : Prop where
  d1 : 1 ≤ D
  bd : Bd K' D
  k : K' ≤ 740
  m : M ≤ 1250
theorem Sz.sy {d D : Int} {K' M : Nat} {s : Sd} (z : Sz D K' M) (h : So d D M s) : SY s := (h.sk z.d1 z.bd).mono (by have := z.m; omega) (by have := z.k; omega)
theorem good_cut {d D k : Int} {K' M : Nat} {ns : List Nat} {f : Nat → Cell} {n : Nat} {al : Bool} {s : Sd} (hR : Rt d) (z : Sz D K' M) (hn : n ∈ ns) (hb : BoD d D M (f n).b) (k1 : 1 ≤ k) (bk : Bd 10 k) (hs : So d (D * k) (M + 10) s)
    (up : sgn d (tkS (if al then (f n).b.h else (f n).b.w) s).x (tkS (if al then (f n).b.h else (f n).b.w) s).y = 1) : (Dd.cut al n s).Good d D M ns f n n := by
  have kD : 1 ≤ D * k := Int.mul_pos (by have := z.d1; omega) (by omega)
  have bD : Bd (K' + 10) (D * k) := z.bd.mul bk
  have ss : SY s := (hs.sk kD bD).mono (by have := z.m; omega) (by have := z.k; omega)
  have hb' := hb.up bk
  have key : ∀ w : Sd, So d D M w → sgn d (tkS w s).x (tkS w s).y = 1 → CutOk d w s ∧ So d (D * k) (M + 28) (tkS w s) := fun w hw u => by
    have hn1 : 1 ≤ w.z * s.z := Int.mul_pos (by have := hw.z1; omega) (by have := hs.z1; omega)
    refine ⟨⟨z.sy hw, ss, by rw [hs.up]; decide, ?_⟩, (tk_so hR (hw.scale bk) hs u).mono (by omega)⟩
    have e : sgn d (tkS w s).x (tkS w s).y = sgn d (w.x * s.z - s.x * w.z) (w.y * s.z - s.y * w.z) := by
      refine (sgn_lowest hR hn1).trans ?_
      rw [show w.x * s.z + -s.x * w.z = w.x * s.z - s.x * w.z by grind, show w.y * s.z + -s.y * w.z = w.y * s.z - s.y * w.z by grind]
    rw [← e, u]
    decide
  have hs' := hs.mono (M' := M + 28) (by omega)
  have ow := hb'.1.mono (M' := M + 28) (by omega)
  have oh := hb'.2.mono (M' := M + 28) (by omega)
  cases al with
  | false =>
    obtain ⟨c1, c2⟩ := key (f n).b.w hb.1 up
    refine ⟨rfl, hn, hn, (fun h => nomatch h), fun _ => rfl, ss, c1, k, k1, bk.mono (by decide), fun x hx => ?_⟩
    rcases List.mem_cons.mp hx with rfl | hx
    · exact ⟨hs', oh⟩
    · rw [List.mem_singleton.mp hx]; exact ⟨c2, oh⟩
  | true =>
    obtain ⟨c1, c2⟩ := key (f n).b.h hb.2 up
    refine ⟨rfl, hn, hn, (fun h => nomatch h), fun _ => rfl, ss, c1, k, k1, bk.mono (by decide), fun x hx => ?_⟩
    rcases List.mem_cons.mp hx with rfl | hx
    · exact ⟨ow, hs'⟩
    · rw [List.mem_singleton.mp hx]; exact ⟨ow, c2⟩
theorem good_glue {d D : Int} {K' M : Nat} {ns : List Nat} {f : Nat → Cell} {n m : Nat} {al : Bool} (hR : Rt d) (z : Sz D K' M) (hn : n ∈ ns) (hm : m ∈ ns) (nm : n ≠ m) (hb : BoD d D M (f n).b) (hb' : BoD d D M (f m).b)
    (e : (if al then (f n).b.w else (f n).b.h) = (if al then (f m).b.w else (f m).b.h)) : (Dd.glue al n m).Good d D M ns f n m := by
  cases al with
  | false =>
    refine ⟨rfl, hn, hm, fun _ => nm, (fun h => nomatch h), trivial, ⟨e, z.sy hb.1, z.sy hb'.1⟩, 1, by decide, by decide, fun x hx => ?_⟩
    rw [List.mem_singleton.mp hx, Int.mul_one]
    exact ⟨(ad_so hR hb.1 hb'.1).mono (by omega), hb.2.mono (by omega)⟩
  | true =>
    refine ⟨rfl, hn, hm, fun _ => nm, (fun h => nomatch h), trivial, ⟨e, z.sy hb.2, z.sy hb'.2⟩, 1, by decide, by decide, fun x hx => ?_⟩
    rw [List.mem_singleton.mp hx, Int.mul_one]
    exact ⟨hb.1.mono (by omega), (ad_so hR hb.2 hb'.2).mono (by omega)⟩
theorem good_shift {d D k : Int} {K' M : Nat} {ns : List Nat} {f : Nat → Cell} {n : Nat} {al : Bool} (hR : Rt d) (z : Sz D K' M) (hn : n ∈ ns) (hb : BoD d D M (f n).b) (k1 : 1 ≤ k) (bk : Bd 14 k) : (Dd.shift al n k).Good d D M ns f n n := by
  have o1 : ∀ s : Sd, So d D M s → So d (D * k) (M + 28) (shS s 1 k) := fun s hs => (sh_so (j := 1) hR hs (by decide) k1 (by decide)).mono (by omega)
  have o2 : ∀ s : Sd, So d D M s → So d (D * k) (M + 28) (shS s k 1) := fun s hs => by
    have := sh_so (j := 14) hR hs k1 (show (1 : Int) ≤ 1 by decide) bk
    rw [Int.mul_one] at this
    exact (this.scale bk).mono (by omega)
  have b64 : Bd 64 k := bk.mono (by decide)
  cases al with
  | false =>
    refine ⟨rfl, hn, hn, (fun h => nomatch h), fun _ => rfl, ⟨k1, b64⟩, ⟨k1, b64, z.sy hb.1, z.sy hb.2⟩, k, k1, bk, fun x hx => ?_⟩
    rw [List.mem_singleton.mp hx]
    exact ⟨o1 _ hb.1, o2 _ hb.2⟩
  | true =>
    refine ⟨rfl, hn, hn, (fun h => nomatch h), fun _ => rfl, ⟨k1, b64⟩, ⟨k1, b64, z.sy hb.1, z.sy hb.2⟩, k, k1, bk, fun x hx => ?_⟩
    rw [List.mem_singleton.mp hx]
    exact ⟨o2 _ hb.1, o1 _ hb.2⟩
theorem good_turn {d D : Int} {M : Nat} {ns : List Nat} {f : Nat → Cell} {n : Nat} (hn : n ∈ ns) (hb : BoD d D M (f n).b) : (Dd.turn n).Good d D M ns f n n := by
  refine ⟨rfl, hn, hn, (fun h => nomatch h), fun _ => rfl, trivial, trivial, 1, by decide, by decide, fun x hx => ?_⟩
  rw [List.mem_singleton.mp hx, Int.mul_one]
  exact ⟨hb.2.mono (by omega), hb.1.mono (by omega)⟩
def fL (L : List Cell) (n : Nat) : Cell := L[n]?.getD ⟨0, 0, 0, ⟨⟨0, 0, 1⟩, ⟨0, 0, 1⟩⟩⟩
theorem fL_get {L : List Cell} {n : Nat} {c : Cell} (h : L[n]? = some c) : fL L n = c := by unfold fL; rw [h]; rfl
theorem good_cells {cl : List Cell} {d D : Int} {M : Nat} {ns : List Nat} {f : Nat → Cell} {e : Dd} {n m : Nat} {c c' : Cell} (h : e.Good d D M ns f n m) (h1 : cl[n]? = some c) (h2 : cl[m]? = some c') : CellsOf cl e c c' := by
  have hnm := h.nm
  have heq := h.eq
  cases e with
  | glue al a b =>
    simp [Dd.names, Dd.two] at hnm
    exact ⟨⟨n, hnm.1, h1⟩, m, hnm.2, h2⟩
  | cut al a s =>
    have : m = n := heq rfl
    subst this
    refine ⟨⟨m, h.en, h1⟩, Option.some.inj (h2.symm.trans h1)⟩
  | shift al a s =>
    have : m = n := heq rfl
    subst this
    refine ⟨⟨m, h.en, h1⟩, Option.some.inj (h2.symm.trans h1)⟩
  | turn a =>
    have : m = n := heq rfl
    subst this
    refine ⟨⟨m, h.en, h1⟩, Option.some.inj (h2.symm.trans h1)⟩
theorem Dd.Good.names_in {d D : Int} {M : Nat} {ns : List Nat} {f : Nat → Cell} {e : Dd} {n m : Nat} (h : e.Good d D M ns f n m) : ∀ k ∈ e.names, ∃ i ∈ ns, k = (i : Int) := fun k hk => by
  rw [h.nm] at hk
  cases ht : e.two with
  | true =>
    rw [ht, if_pos rfl] at hk
    rcases List.mem_cons.mp hk with rfl | hk
    · exact ⟨n, h.hn, rfl⟩
    · rw [List.mem_singleton.mp hk]; exact ⟨m, h.hm, rfl⟩
  | false =>
    rw [ht, if_neg (by decide)] at hk
    rw [List.mem_singleton.mp hk]; exact ⟨n, h.hn, rfl⟩
theorem Dd.Good.nodup {d D : Int} {M : Nat} {ns : List Nat} {f : Nat → Cell} {e : Dd} {n m : Nat} (h : e.Good d D M ns f n m) : e.names.Nodup := by
  rw [h.nm]
  cases ht : e.two with
  | true =>
    rw [if_pos rfl]
    have := h.ne ht
    simp
    omega
  | false =>
    rw [if_neg (by decide)]
    simp
theorem good_at {d D : Int} {M : Nat} {ns : List Nat} {f : Nat → Cell} {e : Dd} {n m : Nat} (h : e.Good d D M ns f n m) {i : Nat} {z : Int} (hi : e.names[i]? = some z) : ∃ j ∈ ns, z = (j : Int) ∧ (e.cells (f n) (f m))[i]? = some (f j) := by
  rw [h.nm] at hi
  unfold Dd.cells
  cases ht : e.two with
  | true =>
    rw [ht, if_pos rfl] at hi
    rw [if_pos rfl]
    match i, hi with
    | 0, hi => injection hi with hi; exact ⟨n, h.hn, hi.symm, rfl⟩
    | 1, hi => injection hi with hi; exact ⟨m, h.hm, hi.symm, rfl⟩
    | i + 2, hi => exact nomatch hi
  | false =>
    rw [ht, if_neg (by decide)] at hi
    rw [if_neg (by decide)]
    match i, hi with
    | 0, hi => injection hi with hi; exact ⟨n, h.hn, hi.symm, rfl⟩
    | i + 1, hi => exact nomatch hi
theorem pick_rel {cl : List Cell} {f : Nat → Cell} : ∀ {ns : List Nat}, (∀ n ∈ ns, ∃ c, cl[n]? = some c ∧ c.b = (f n).b) → (pick cl ns).map Cell.b = (ns.map f).map Cell.b
  | [], _ => rfl
  | n :: ns, h => by
    obtain ⟨c, h1, h2⟩ := h n List.mem_cons_self
    have ih := pick_rel (ns := ns) fun m hm => h m (List.mem_cons_of_mem _ hm)
    simp only [pick, List.filterMap_cons, h1, List.map_cons, h2] at ih ⊢
    rw [ih]
theorem pick_mem {cl : List Cell} {ns : List Nat} {c : Cell} (h : c ∈ pick cl ns) : c ∈ cl := by
  obtain ⟨n, _, hn⟩ := List.mem_filterMap.mp h
  exact List.mem_of_getElem? hn
def fN (f : Nat → Cell) (k : Nat) (N : List Cell) (j : Nat) : Cell := if j < k then f j else fL N (j - k)
theorem fN_lt {f : Nat → Cell} {k : Nat} {N : List Cell} {j : Nat} (h : j < k) : fN f k N j = f j := if_pos h
theorem fN_ge {f : Nat → Cell} {k : Nat} {N : List Cell} {i : Nat} : fN f k N (k + i) = fL N i := by unfold fN; rw [if_neg (by omega), Nat.add_sub_cancel_left]
theorem cdK_congr {ns : List Nat} {f g : Nat → Cell} (h : ∀ n ∈ ns, f n = g n) : cdK ns f = cdK ns g := List.map_congr_left fun n hn => by rw [h n hn]
theorem cdK_snoc {ns : List Nat} {f : Nat → Cell} {j : Nat} : cdK (ns ++ [j]) f = cdK ns f ++ [(.inl (j : Int), (f j).v)] := by simp [cdK]
theorem i_inTt {K : PySem.W.Frag} {H : Hp} {Q : VK} {p : Addr} {x : V} {ys : List V} {b : Bool} (e : H p = some (.tup ys)) (hx : flatV x = true) (hy : ys.all flatV = true) (hb : inV x ys = b) (q : Q (.bl b) H) : rIn K false x (.ref p) H Q := by
  subst hb
  exact i_inT e hx hy q
theorem i_make {C : Addr} {sp : Sp} {dvs : List V} {E : XK} {t : TA} {σ : L2.St} {H : Hp} {Q : VK} (h : t σ H fun vs H1 => ∀ x dx, H1 x = none → H1 dx = none → dx ≠ x → sp (.ref x :: (vs ++ dvs)) (upd (upd H1 dx (.own x)) x (.ins C dx [])) (fun v H2 => v = .non ∧ Q (.ref x) H2) E) : tMake C sp dvs E t σ H Q := h
theorem i_makeK {C : Addr} {sp : Sp} {gV : List V → List V → List V} {E : XK} {t tk : TA} {σ : L2.St} {H : Hp} {Q : VK} (h : t σ H fun vs H1 => tk σ H1 fun zs H2 => ∀ y dx, H2 y = none → H2 dx = none → dx ≠ y → sp (gV (.ref y :: vs) zs) (upd (upd H2 dx (.own y)) y (.ins C dx [])) (fun v H3 => v = .non ∧ Q (.ref y) H3) E) : tMakeK C sp gV E t tk σ H Q := h
theorem if_make {b : Bool} {T U : VK → Prop} {Q : VK} (R : Yd → Hp → Prop) (hT : b = true → ∀ Q' : VK, (∀ y H', R y H' → Q' (.ref y.p) H') → T Q') (hU : b = false → ∀ Q' : VK, (∀ y H', R y H' → Q' (.ref y.p) H') → U Q') (q : ∀ y H', R y H' → Q (.ref y.p) H') : if b = true then T Q else U Q := by
  cases b with
  | true => exact if_t (hT rfl Q q)
  | false => exact if_f (hU rfl Q q)
theorem YdAt.mv {C : Addr} {H H' : Hp} {y : Yd} {d : Int} {tn : Bool} {cl : List Cell} {ns : List Nat} {lg : List V} (h : YdAt C H y d tn cl ns lg) (f : ∀ b o, H b = some o → (∃ xs, o = .tup xs) ∨ b = y.p ∨ b = y.k ∨ b = y.l ∨ b = y.t → H' b = some o) : YdAt C H' y d tn cl ns lg :=
  ⟨f _ _ h.o (.inr (.inl rfl)), f _ _ h.k (.inr (.inr (.inl rfl))), f _ _ h.l (.inr (.inr (.inr (.inl rfl)))), f _ _ h.t (.inr (.inr (.inr (.inr rfl)))), h.kt, fun c hc => ⟨f _ _ (h.at' c hc).t (.inl ⟨_, rfl⟩), f _ _ (h.at' c hc).w (.inl ⟨_, rfl⟩), f _ _ (h.at' c hc).h (.inl ⟨_, rfl⟩)⟩, h.up, h.lt, h.lc, h.ll⟩
def Frm (y : Yd) (H H' : Hp) : Prop := ∀ b o, H b = some o → b ≠ y.k → b ≠ y.l → b ≠ y.t → H' b = some o
theorem Frm.tup {C : Addr} {y : Yd} {H H' : Hp} {d : Int} {tn : Bool} {cl : List Cell} {ns : List Nat} {lg : List V} (h : Frm y H H') (hy : YdAt C H y d tn cl ns lg) {b : Addr} {xs : List V} (e : H b = some (.tup xs)) : H' b = some (.tup xs) :=
  h _ _ e (ne_of e hy.k (fun z => nomatch z)) (ne_of e hy.l (fun z => nomatch z)) (ne_of e hy.t (fun z => nomatch z))
theorem SqL.mv {K : PySem.W.Frag} {H H' : Hp} {a : Addr} {xs : List V} (h : SqL K H a xs) (f : ∀ o, H a = some o → H' a = some o) : SqL K H' a xs := by
  rcases h with (h | ⟨o, h⟩) | h
  · exact .inl (.inl (f _ h))
  · exact .inl (.inr ⟨o, f _ h⟩)
  · exact .inr h
theorem i_slFSf {K : PySem.W.Frag} {H : Hp} {Q : VK} {a : Addr} {ns : List Int} {i j : Nat} (hS : SqL K H a (ns.map V.int)) (q : ∀ (p : Addr) (H2 : Hp), H p = none → Same H H2 → H2 p = some (.lst (((ns.drop i).take (j - i)).map V.int)) → Q (.ref p) H2) : rSlL K (.ref a) (some (i : Int)) (some (j : Int)) H Q := by
  obtain ⟨a', xs, e1, h1, h2⟩ := i_slFS (i := i) (j := j) (Q := fun v H2 => ∃ p, v = .ref p ∧ Same H H2 ∧ H2 p = some (.lst (((ns.drop i).take (j - i)).map V.int))) hS (fun p H2 s e => ⟨p, rfl, s, e⟩)
  refine ⟨a', xs, e1, h1, fun p hp => ?_⟩
  obtain ⟨p', e, s, z⟩ := h2 p hp
  injection e with e
  subst e
  exact q _ _ hp s z
theorem new_ne (e : Dd) (b c : Bo) : 1 ≤ (e.new b c).length := by
  cases e with
  | cut al n t => cases al <;> exact Nat.le_succ _
  | glue al n m => cases al <;> exact Nat.le_refl _
  | shift al n k => cases al <;> exact Nat.le_refl _
  | turn n => exact Nat.le_refl _
theorem ndrop_lt {ns : List Nat} {ms : List Int} {n : Nat} (up : ns.Pairwise (· < ·)) (hn : n ∈ ns) (hm : (n : Int) ∈ ms) : (ndrop ns ms).length + 1 ≤ ns.length := by
  have nd : (n :: ndrop ns ms).Nodup := List.nodup_cons.mpr ⟨fun h => (mem_ndrop.mp h).2 hm, (up_ndrop up).imp fun hab => Nat.ne_of_lt hab⟩
  exact List.Nodup.length_le_of_subset nd fun k hk => by
    rcases List.mem_cons.mp hk with rfl | hk
    · exact hn
    · exact (mem_ndrop.mp hk).1
theorem EqV.str' {X : Cx} {n : Nat} {H : Hp} (i : Str) : EqV X n H (.str i) (.str i) true := fun _ _ s v u A _ rv ru _ => by
  have e := eqAt_V (A := A) (s := s) rv ru rfl rfl
  have q : eqV (.str i) (.str i) = true := beq_self_eq_true _
  rw [q] at e
  exact e
theorem i_eqDd {X : Cx} {H : Hp} {Q : VK} {a b p p' : Addr} {w : Str} {i j : Int} (ha : H a = some (.lst [.ref p])) (hb : H b = some (.lst [.ref p'])) (hp : H p = some (.tup [.str w, .int i, .int j])) (hp' : H p' = some (.tup [.str w, .int i, .int j])) (q : Q (.bl true) H) : rEqL X (.ref a) (.ref b) H Q := by
  have ei : ∀ i : Int, EqV X 0 H (.int i) (.int i) true := fun i => by
    have := EqV.int (X := X) (n := 0) (H := H) i i
    simpa using this
  have e := EqV.tup (X := X) (n := 0) (SqT.of hp) (SqT.of hp') (.cons (EqV.str' w) (.cons (ei i) (.cons (ei j) .nil))) (fun _ => rfl)
  exact ⟨a, b, _, _, _, 1, rfl, rfl, by decide, SqL.of ha, SqL.of hb, .cons e .nil, q⟩
theorem if_d3 {p q : Prop} [Decidable p] {A B : Prop} (hB : ¬ (p ∧ q) → B) (hA : p → (¬ (p ∧ q) → B) → A) : if decide p = true then A else B := by
  by_cases h : p
  · rw [if_pos (decide_eq_true h)]; exact hA h hB
  · rw [if_neg (by rw [decide_eq_false h]; decide)]; exact hB (fun z => h z.1)
def sp_is_whole : Sp := fun vs H Q _ => ∃ i : Int, vs = [.int i] ∧ Q (.bl true) H
theorem c_is_whole {i : Int} {H : Hp} {Q : VK} {E : XK} (q : Q (.bl true) H) : sp_is_whole ([.int i] ++ []) H Q E := ⟨i, rfl, q⟩
local macro_rules | `(tactic| walk_at "rd") => `(tactic| with_reducible refine c_is_whole ?_)
def sp_common_divisor : Sp := fun vs H Q _ => ∃ a b : Int, vs = [.int a, .int b] ∧ Bd 8192 b ∧ Q (.int (Int.gcd a b : Nat)) H
theorem c_common_divisor {a b : Int} {H : Hp} {Q : VK} {E : XK} (hb : Bd 8192 b) (q : Q (.int (Int.gcd a b : Nat)) H) : sp_common_divisor ([.int a, .int b] ++ []) H Q E := ⟨a, b, rfl, hb, q⟩
local macro_rules | `(tactic| walk_at "rd") => `(tactic| ((with_reducible refine c_common_divisor ?_ ?_); focus (walk_at "b8")))
def sp_with_sign_of : Sp := fun vs H Q _ => ∃ g n : Int, vs = [.int g, .int n] ∧ Q (.int (if n < 0 then -g else g)) H
theorem c_with_sign_of {g n : Int} {H : Hp} {Q : VK} {E : XK} (q : Q (.int (if n < 0 then -g else g)) H) : sp_with_sign_of ([.int g, .int n] ++ []) H Q E := ⟨g, n, rfl, q⟩
local macro_rules | `(tactic| walk_at "rd") => `(tactic| with_reducible refine c_with_sign_of ?_)
def sp_is_above_nought : Sp := fun vs H Q _ => ∃ d a b : Int, vs = [.int d, .int a, .int b] ∧ Bd 64 d ∧ Bd 8000 a ∧ Bd 8000 b ∧ Q (.bl (decide (0 < sgn d a b))) H
theorem c_is_above_nought {d a b : Int} {H : Hp} {Q : VK} {E : XK} (hd : Bd 64 d) (ha : Bd 8000 a) (hb : Bd 8000 b) (q : Q (.bl (decide (0 < sgn d a b))) H) : sp_is_above_nought ([.int d, .int a, .int b] ++ []) H Q E := ⟨d, a, b, rfl, hd, ha, hb, q⟩
def sp_names_taken : Sp := fun vs H Q _ => ∃ (p : Addr) (e : Dd), vs = [.ref p] ∧ DdAt H p e ∧ ∀ (r : Addr) (H' : Hp), Same H H' → H r = none → H' r = some (.lst (e.names.map V.int)) → Q (.ref r) H'
theorem c_names_taken {p : Addr} {e : Dd} {H : Hp} {Q : VK} {E : XK} (he : DdAt H p e) (q : ∀ (r : Addr) (H' : Hp), Same H H' → H r = none → H' r = some (.lst (e.names.map V.int)) → Q (.ref r) H') : sp_names_taken ([.ref p] ++ []) H Q E := ⟨p, e, rfl, he, q⟩
def sp_turned : Sp := fun vs H Q _ => ∃ c : Cell, vs = [.ref c.p] ∧ c.At H ∧ ∀ (r : Addr) (H' : Hp), Same H H' → H r = none → Cell.At H' ⟨r, c.ph, c.pw, ⟨c.b.h, c.b.w⟩⟩ → Q (.ref r) H'
theorem c_turned {c : Cell} {H : Hp} {Q : VK} {E : XK} (hc : c.At H) (q : ∀ (r : Addr) (H' : Hp), Same H H' → H r = none → Cell.At H' ⟨r, c.ph, c.pw, ⟨c.b.h, c.b.w⟩⟩ → Q (.ref r) H') : sp_turned ([.ref c.p] ++ []) H Q E := ⟨c, rfl, hc, q⟩
def sp__law_cell (K : PySem.W.Frag) : Sp := fun vs H Q _ => ∃ (p : Addr) (ns : List Int) (k : Int), vs = [.ref p, .int k] ∧ SqL K H p (ns.map V.int) ∧ 0 ≤ k ∧ (∀ x ∈ ns, Bd 1048576 x) ∧ ∀ c : Int, Bd 1048576 c → Q (.int c) H
theorem c__law_cell {K : PySem.W.Frag} {p : Addr} {ns : List Int} {k : Int} {H : Hp} {Q : VK} {E : XK} (hS : SqL K H p (ns.map V.int)) (hk : 0 ≤ k) (hb : ∀ x ∈ ns, Bd 1048576 x) (q : ∀ c : Int, Bd 1048576 c → Q (.int c) H) : sp__law_cell K ([.ref p, .int k] ++ []) H Q E := ⟨p, ns, k, rfl, hS, hk, hb, q⟩
def sp__law_whole : Sp := fun vs H Q _ => ∃ i : Int, vs = [.int i] ∧ Q (.bl true) H
theorem c__law_whole {i : Int} {H : Hp} {Q : VK} {E : XK} (q : Q (.bl true) H) : sp__law_whole ([.int i] ++ []) H Q E := ⟨i, rfl, q⟩
local macro_rules | `(tactic| walk_at "rd") => `(tactic| with_reducible refine c__law_whole ?_)
def sp__law_great : Sp := fun vs H Q _ => ∃ c k : Int, vs = [.int c, .int k] ∧ Bd 1048576 c ∧ Bd 64 k ∧ ∀ r : Int, 0 ≤ r → r < 170141183460469231731687303715884105727 → Q (.int r) H
theorem c__law_great {c k : Int} {H : Hp} {Q : VK} {E : XK} (hc : Bd 1048576 c) (hk : Bd 64 k) (q : ∀ r : Int, 0 ≤ r → r < 170141183460469231731687303715884105727 → Q (.int r) H) : sp__law_great ([.int c, .int k] ++ []) H Q E := ⟨c, k, rfl, hc, hk, q⟩
def sp__law_divisor : Sp := fun vs H Q _ => ∃ a b : Int, vs = [.int a, .int b] ∧ Q (.int (Int.gcd a b : Nat)) H
theorem c__law_divisor {a b : Int} {H : Hp} {Q : VK} {E : XK} (q : Q (.int (Int.gcd a b : Nat)) H) : sp__law_divisor ([.int a, .int b] ++ []) H Q E := ⟨a, b, rfl, q⟩
local macro_rules | `(tactic| walk_at "rd") => `(tactic| with_reducible refine c__law_divisor ?_)
def sp__law_sign : Sp := fun vs H Q _ => ∃ d a b : Int, vs = [.int d, .int a, .int b] ∧ Bd 64 d ∧ Bd 8000 a ∧ Bd 8000 b ∧ ∀ H', Same H H' → Q (.int (sgn d a b)) H'
theorem c__law_sign {d a b : Int} {H : Hp} {Q : VK} {E : XK} (hd : Bd 64 d) (ha : Bd 8000 a) (hb : Bd 8000 b) (q : ∀ H', Same H H' → Q (.int (sgn d a b)) H') : sp__law_sign ([.int d, .int a, .int b] ++ []) H Q E := ⟨d, a, b, rfl, hd, ha, hb, q⟩
def sp__law_begin : Sp := fun vs H Q _ => ∃ (l : Addr) (L : List Cell), vs = [.ref l] ∧ H l = some (.lst (L.map Cell.v)) ∧ (∀ c ∈ L, c.At H) ∧ L.length ≤ 60 ∧ (∀ (r a : Addr) (H' : Hp), Same H H' → H a = none → H' r = some (.tup [.ref a, .int (L.length : Int)]) → Ly H' a (List.range L.length) (fL L) → Q (.ref r) H')
theorem c__law_begin {l : Addr} {L : List Cell} {H : Hp} {Q : VK} {E : XK} (hl : H l = some (.lst (L.map Cell.v))) (hA : (∀ c ∈ L, c.At H)) (h6 : L.length ≤ 60) (q : (∀ (r a : Addr) (H' : Hp), Same H H' → H a = none → H' r = some (.tup [.ref a, .int (L.length : Int)]) → Ly H' a (List.range L.length) (fL L) → Q (.ref r) H')) : sp__law_begin ([.ref l] ++ []) H Q E := ⟨l, L, rfl, hl, hA, h6, q⟩
def sp_Yard___init__ (cs : Cs) : Sp := fun vs H Q _ => ∃ (p dx hp : Addr) (d : Int) (tn : Bool) (cl : List Cell), vs = [.ref p, .int d, .ref hp, .bl tn] ∧ H p = some (.ins cs.Yard dx []) ∧ H hp = some (.lst (cl.map Cell.v)) ∧ (∀ c ∈ cl, c.At H) ∧ cl.length ≤ 60 ∧ ∀ (y : Yd) (H' : Hp), y.p = p → y.dx = dx → (∀ b o, H b = some o → b ≠ p → H' b = some o) → YdAt cs.Yard H' y d tn cl (List.range cl.length) [] → H y.k = none → H y.l = none → H y.t = none → Q .non H'
theorem c_Yard___init__ {cs : Cs} {x dx hp : Addr} {d : Int} {tn : Bool} {cl : List Cell} {vs : List V} {H1 : Hp} {Q : VK} {E : XK} (hv : vs = [.ref x, .int d, .ref hp, .bl tn]) (n1 : H1 x = none) (n2 : H1 dx = none) (hh : H1 hp = some (.lst (cl.map Cell.v))) (hat : ∀ c ∈ cl, c.At H1) (hl : cl.length ≤ 60)
    (q : ∀ (y : Yd) (H' : Hp), y.p = x → Same H1 H' → YdAt cs.Yard H' y d tn cl (List.range cl.length) [] → H1 y.k = none → H1 y.l = none → H1 y.t = none → Q .non H') :
    sp_Yard___init__ cs vs (upd (upd H1 dx (.own x)) x (.ins cs.Yard dx [])) Q E := by
  subst hv
  have k : ∀ b o, H1 b = some o → (upd (upd H1 dx (.own x)) x (.ins cs.Yard dx [])) b = some o := fun b o e => by
    rw [upd_ne (ne_of_none e n1), upd_ne (ne_of_none e n2)]; exact e
  have nn : ∀ b, (upd (upd H1 dx (.own x)) x (.ins cs.Yard dx [])) b = none → H1 b = none := fun b h => by
    cases e : H1 b with
    | none => rfl
    | some o => rw [k b o e] at h; cases h
  exact ⟨x, dx, hp, d, tn, cl, rfl, upd_same, k _ _ hh, fun c hc => ⟨k _ _ (hat c hc).t, k _ _ (hat c hc).w, k _ _ (hat c hc).h⟩, hl, fun y H' e1 _ fr hy h1 h2 h3 => q y H' e1 (fun b o e => fr b o (k b o e) (ne_of_none e n1)) hy (nn _ h1) (nn _ h2) (nn _ h3)⟩
def sp_Yard_boards (cs : Cs) : Sp := fun vs H Q _ => ∃ (y : Yd) (d : Int) (tn : Bool) (cl : List Cell) (ns : List Nat) (lg : List V), vs = [.ref y.p] ∧ YdAt cs.Yard H y d tn cl ns lg ∧ ∀ (r : Addr) (H' : Hp) (ps : List Addr), Same H H' → H r = none → H' r = some (.lst (ps.map V.ref)) → Prs cl ns H' ps → Q (.ref r) H'
theorem c_Yard_boards {cs : Cs} {y : Yd} {d : Int} {tn : Bool} {cl : List Cell} {ns : List Nat} {lg : List V} {H : Hp} {Q : VK} {E : XK} (hy : YdAt cs.Yard H y d tn cl ns lg) (q : ∀ (r : Addr) (H' : Hp) (ps : List Addr), Same H H' → H r = none → H' r = some (.lst (ps.map V.ref)) → Prs cl ns H' ps → Q (.ref r) H') : sp_Yard_boards cs ([.ref y.p] ++ []) H Q E := ⟨y, d, tn, cl, ns, lg, rfl, hy, q⟩
def sp_Yard_heap (cs : Cs) : Sp := fun vs H Q _ => ∃ (y : Yd) (d : Int) (tn : Bool) (cl : List Cell) (ns : List Nat) (lg : List V), vs = [.ref y.p] ∧ YdAt cs.Yard H y d tn cl ns lg ∧ ∀ (r : Addr) (H' : Hp), Same H H' → H r = none → H' r = some (.lst ((pick cl ns).map Cell.v)) → Q (.ref r) H'
theorem c_Yard_heap {cs : Cs} {y : Yd} {d : Int} {tn : Bool} {cl : List Cell} {ns : List Nat} {lg : List V} {H : Hp} {Q : VK} {E : XK} (hy : YdAt cs.Yard H y d tn cl ns lg) (q : ∀ (r : Addr) (H' : Hp), Same H H' → H r = none → H' r = some (.lst ((pick cl ns).map Cell.v)) → Q (.ref r) H') : sp_Yard_heap cs ([.ref y.p] ++ []) H Q E := ⟨y, d, tn, cl, ns, lg, rfl, hy, q⟩
def sp_Yard_log (cs : Cs) : Sp := fun vs H Q _ => ∃ (y : Yd) (d : Int) (tn : Bool) (cl : List Cell) (ns : List Nat) (lg : List V), vs = [.ref y.p] ∧ YdAt cs.Yard H y d tn cl ns lg ∧ ∀ (r : Addr) (H' : Hp), Same H H' → H r = none → H' r = some (.lst lg) → Q (.ref r) H'
theorem c_Yard_log {cs : Cs} {y : Yd} {d : Int} {tn : Bool} {cl : List Cell} {ns : List Nat} {lg : List V} {H : Hp} {Q : VK} {E : XK} (hy : YdAt cs.Yard H y d tn cl ns lg) (q : ∀ (r : Addr) (H' : Hp), Same H H' → H r = none → H' r = some (.lst lg) → Q (.ref r) H') : sp_Yard_log cs ([.ref y.p] ++ []) H Q E := ⟨y, d, tn, cl, ns, lg, rfl, hy, q⟩
def sp_length : Sp := fun vs H Q _ => ∃ a b n : Int, vs = [.int a, .int b, .int n] ∧ n ≠ 0 ∧ Bd 8000 n ∧ (Bd 8192 a ∧ Bd 8192 b) ∧ ∀ p H', Same H H' → H' p = some (.tup [.int (lA a b n), .int (lB a b n), .int (lN a b n)]) → Q (.ref p) H'
theorem c_length {a b n : Int} {vs : List V} {H : Hp} {Q : VK} {E : XK} (e : vs = [.int a, .int b, .int n]) (hn : n ≠ 0) (hb : Bd 8000 n) (q : ∀ p H', Same H H' → H' p = some (.tup [.int (lA a b n), .int (lB a b n), .int (lN a b n)]) → Q (.ref p) H') (ha8 : Bd 8192 a := by walk_at "b8") (hb8 : Bd 8192 b := by walk_at "b8") : sp_length vs H Q E := ⟨a, b, n, e, hn, hb, ⟨ha8, hb8⟩, q⟩
def sp_added : Sp := fun vs H Q _ => ∃ (p q : Addr) (x y z x' y' z' : Int), vs = [.ref p, .ref q] ∧ H p = some (.tup [.int x, .int y, .int z]) ∧ H q = some (.tup [.int x', .int y', .int z']) ∧ 1 ≤ z ∧ 1 ≤ z' ∧ g3 x y z = 1 ∧ g3 x' y' z' = 1 ∧ (Bd 3900 x ∧ Bd 3900 y ∧ Bd 3900 z ∧ Bd 3900 x' ∧ Bd 3900 y' ∧ Bd 3900 z') ∧ ∀ (r : Addr) (H' : Hp), Same H H' → H' r = some (.tup [.int (lA (x * z' + x' * z) (y * z' + y' * z) (z * z')), .int (lB (x * z' + x' * z) (y * z' + y' * z) (z * z')), .int (lN (x * z' + x' * z) (y * z' + y' * z) (z * z'))]) → Q (.ref r) H'
theorem c_added {p p' : Addr} {x y z x' y' z' : Int} {H : Hp} {Q : VK} {E : XK} (h1 : H p = some (.tup [.int x, .int y, .int z])) (h2 : H p' = some (.tup [.int x', .int y', .int z'])) (n1 : 1 ≤ z) (n2 : 1 ≤ z') (k1 : g3 x y z = 1) (k2 : g3 x' y' z' = 1) (b1 : Bd 3900 x) (b2 : Bd 3900 y) (b3 : Bd 3900 z) (b4 : Bd 3900 x') (b5 : Bd 3900 y') (b6 : Bd 3900 z') (q : ∀ (r : Addr) (H' : Hp), Same H H' → H' r = some (.tup [.int (lA (x * z' + x' * z) (y * z' + y' * z) (z * z')), .int (lB (x * z' + x' * z) (y * z' + y' * z) (z * z')), .int (lN (x * z' + x' * z) (y * z' + y' * z) (z * z'))]) → Q (.ref r) H') : sp_added ([.ref p, .ref p'] ++ []) H Q E := ⟨p, p', x, y, z, x', y', z', rfl, h1, h2, n1, n2, k1, k2, ⟨b1, b2, b3, b4, b5, b6⟩, q⟩
def sp_under (K : PySem.W.Frag) : Sp := fun vs H Q _ => ∃ (d : Int) (p p' : Addr) (x y z x' y' z' : Int), vs = [.int d, .ref p, .ref p'] ∧ SqT K H p [.int x, .int y, .int z] ∧ H p' = some (.tup [.int x', .int y', .int z']) ∧ Bd 64 d ∧ (Bd 1990 x ∧ Bd 1990 y ∧ Bd 1990 z ∧ Bd 1990 x' ∧ Bd 1990 y' ∧ Bd 1990 z') ∧ Q (.bl (decide (0 < sgn d (x' * z - x * z') (y' * z - y * z')))) H
theorem c_under {K : PySem.W.Frag} {d : Int} {p p' : Addr} {x y z x' y' z' : Int} {H : Hp} {Q : VK} {E : XK} (h1 : SqT K H p [.int x, .int y, .int z]) (h2 : H p' = some (.tup [.int x', .int y', .int z'])) (hd : Bd 64 d) (b1 : Bd 1990 x) (b2 : Bd 1990 y) (b3 : Bd 1990 z) (b4 : Bd 1990 x') (b5 : Bd 1990 y') (b6 : Bd 1990 z') (q : Q (.bl (decide (0 < sgn d (x' * z - x * z') (y' * z - y * z')))) H) : sp_under K ([.int d, .ref p, .ref p'] ++ []) H Q E := ⟨d, p, p', x, y, z, x', y', z', rfl, h1, h2, hd, ⟨b1, b2, b3, b4, b5, b6⟩, q⟩
def sp__law_digits : Sp := fun vs H Q _ => ∃ c m : Int, vs = [.int c, .int m] ∧ Bd 1048576 c ∧ (0 ≤ m ∧ m ≤ 20) ∧ ∀ (l : Addr) (H' : Hp) (ds : List Int), Same H H' → H' l = some (.lst (ds.map V.int)) → (ds.length : Int) = m → (∀ x ∈ ds, 0 ≤ x ∧ x < 1000000) → Q (.ref l) H'
theorem c__law_digits {c m : Int} {H : Hp} {Q : VK} {E : XK} (hc : Bd 1048576 c) (m0 : 0 ≤ m) (m1 : m ≤ 20) (q : ∀ (l : Addr) (H' : Hp) (ds : List Int), Same H H' → H' l = some (.lst (ds.map V.int)) → (ds.length : Int) = m → (∀ x ∈ ds, 0 ≤ x ∧ x < 1000000) → Q (.ref l) H') : sp__law_digits ([.int c, .int m] ++ []) H Q E := ⟨c, m, rfl, hc, ⟨m0, m1⟩, q⟩
def sp__law_lowest : Sp := fun vs H Q _ => ∃ a b n : Int, vs = [.int a, .int b, .int n] ∧ n ≠ 0 ∧ Bd 8000 n ∧ ∀ (r : Addr) (H' : Hp), Same H H' → H' r = some (.tup [.int (lA a b n), .int (lB a b n), .int (lN a b n)]) → Q (.ref r) H'
theorem c__law_lowest {a b n : Int} {H : Hp} {Q : VK} {E : XK} (hn : n ≠ 0) (hb : Bd 8000 n) (q : ∀ (r : Addr) (H' : Hp), Same H H' → H' r = some (.tup [.int (lA a b n), .int (lB a b n), .int (lN a b n)]) → Q (.ref r) H') : sp__law_lowest ([.int a, .int b, .int n] ++ []) H Q E := ⟨a, b, n, rfl, hn, hb, q⟩
def sp__law_root : Sp := fun vs H Q _ => ∃ c k : Int, vs = [.int c, .int k] ∧ Bd 1048576 c ∧ Bd 64 k ∧ ∀ (d : Int) (H' : Hp), Rt d → Same H H' → Q (.int d) H'
theorem c__law_root {c k : Int} {H : Hp} {Q : VK} {E : XK} (hc : Bd 1048576 c) (hk : Bd 64 k) (q : ∀ (d : Int) (H' : Hp), Rt d → Same H H' → Q (.int d) H') : sp__law_root ([.int c, .int k] ++ []) H Q E := ⟨c, k, rfl, hc, hk, q⟩
def sp__law_is_length : Sp := fun vs H Q _ => ∃ (p : Addr) (s : Sd), vs = [.ref p] ∧ SdAt H p s ∧ Q (.bl true) H
theorem c__law_is_length {p : Addr} {s : Sd} {H : Hp} {Q : VK} {E : XK} (h1 : SdAt H p s) (q : Q (.bl true) H) : sp__law_is_length ([.ref p] ++ []) H Q E := ⟨p, s, rfl, h1, q⟩
def sp_Yard_check_names (cs : Cs) : Sp := fun vs H Q _ => ∃ (y : Yd) (d : Int) (tn : Bool) (cl : List Cell) (ns : List Nat) (lg : List V) (a : Addr) (ms : List Int), vs = [.ref y.p, .ref a] ∧ YdAt cs.Yard H y d tn cl ns lg ∧ H a = some (.lst (ms.map V.int)) ∧ (∀ m ∈ ms, ∃ n ∈ ns, m = (n : Int)) ∧ ms.Nodup ∧ ms.length ≤ 2 ∧ Q .non H
theorem c_Yard_check_names {cs : Cs} {y : Yd} {d : Int} {tn : Bool} {cl : List Cell} {ns : List Nat} {lg : List V} {a : Addr} {ms : List Int} {H : Hp} {Q : VK} {E : XK} (hy : YdAt cs.Yard H y d tn cl ns lg) (ha : H a = some (.lst (ms.map V.int))) (hm : ∀ m ∈ ms, ∃ n ∈ ns, m = (n : Int)) (hn : ms.Nodup) (hl : ms.length ≤ 2) (q : Q .non H) : sp_Yard_check_names cs ([.ref y.p, .ref a] ++ []) H Q E := ⟨y, d, tn, cl, ns, lg, a, ms, rfl, hy, ha, hm, hn, hl, q⟩
def sp_taken : Sp := fun vs H Q _ => ∃ (p q : Addr) (x y z x' y' z' : Int), vs = [.ref p, .ref q] ∧ H p = some (.tup [.int x, .int y, .int z]) ∧ H q = some (.tup [.int x', .int y', .int z']) ∧ 1 ≤ z ∧ 1 ≤ z' ∧ g3 x y z = 1 ∧ g3 x' y' z' = 1 ∧ (Bd 3900 x ∧ Bd 3900 y ∧ Bd 3900 z ∧ Bd 3900 x' ∧ Bd 3900 y' ∧ Bd 3900 z') ∧ ∀ (r : Addr) (H' : Hp), Same H H' → H' r = some (.tup [.int (lA (x * z' + -x' * z) (y * z' + -y' * z) (z * z')), .int (lB (x * z' + -x' * z) (y * z' + -y' * z) (z * z')), .int (lN (x * z' + -x' * z) (y * z' + -y' * z) (z * z'))]) → Q (.ref r) H'
theorem c_taken {p p' : Addr} {x y z x' y' z' : Int} {H : Hp} {Q : VK} {E : XK} (h1 : H p = some (.tup [.int x, .int y, .int z])) (h2 : H p' = some (.tup [.int x', .int y', .int z'])) (n1 : 1 ≤ z) (n2 : 1 ≤ z') (k1 : g3 x y z = 1) (k2 : g3 x' y' z' = 1) (b1 : Bd 3900 x) (b2 : Bd 3900 y) (b3 : Bd 3900 z) (b4 : Bd 3900 x') (b5 : Bd 3900 y') (b6 : Bd 3900 z') (q : ∀ (r : Addr) (H' : Hp), Same H H' → H' r = some (.tup [.int (lA (x * z' + -x' * z) (y * z' + -y' * z) (z * z')), .int (lB (x * z' + -x' * z) (y * z' + -y' * z) (z * z')), .int (lN (x * z' + -x' * z) (y * z' + -y' * z) (z * z'))]) → Q (.ref r) H') : sp_taken ([.ref p, .ref p'] ++ []) H Q E := ⟨p, p', x, y, z, x', y', z', rfl, h1, h2, n1, n2, k1, k2, ⟨b1, b2, b3, b4, b5, b6⟩, q⟩
def sp_is_length : Sp := fun vs H Q _ => ∃ (p : Addr) (s : Sd), vs = [.ref p] ∧ SdAt H p s ∧ SK 1300 800 s ∧ ∀ H', Same H H' → Q (.bl true) H'
theorem c_is_length {p : Addr} {s : Sd} {H : Hp} {Q : VK} {E : XK} (h : SdAt H p s) (ok : SK 1300 800 s) (q : ∀ H', Same H H' → Q (.bl true) H') : sp_is_length ([.ref p] ++ []) H Q E := ⟨p, s, rfl, h, ok, q⟩
def sp_glued_beside : Sp := fun vs H Q _ => ∃ (c c' : Cell), vs = [.ref c.p, .ref c'.p] ∧ c.At H ∧ c'.At H ∧ c.b.h = c'.b.h ∧ SY c.b.w ∧ SY c'.b.w ∧ ∀ (c1 : Cell) (H' : Hp), Same H H' → H c1.p = none → c1.At H' → c1.b = ⟨adS c.b.w c'.b.w, c.b.h⟩ → Q (.ref c1.p) H'
theorem c_glued_beside {c c' : Cell} {H : Hp} {Q : VK} {E : XK} (hc : c.At H) (hc' : c'.At H) (eh : c.b.h = c'.b.h) (okw : SY c.b.w) (oks : SY c'.b.w) (q : ∀ (c1 : Cell) (H' : Hp), Same H H' → H c1.p = none → c1.At H' → c1.b = ⟨adS c.b.w c'.b.w, c.b.h⟩ → Q (.ref c1.p) H') : sp_glued_beside ([.ref c.p, .ref c'.p] ++ []) H Q E := ⟨c, c', rfl, hc, hc', eh, okw, oks, q⟩
def sp_stacked : Sp := fun vs H Q _ => ∃ (c : Cell) (k : Int), vs = [.ref c.p, .int k] ∧ c.At H ∧ 1 ≤ k ∧ Bd 64 k ∧ SY c.b.w ∧ SY c.b.h ∧ ∀ (c1 : Cell) (H' : Hp), Same H H' → H c1.p = none → c1.At H' → c1.b = ⟨shS c.b.w 1 k, shS c.b.h k 1⟩ → Q (.ref c1.p) H'
theorem c_stacked {c : Cell} {k : Int} {H : Hp} {Q : VK} {E : XK} (hc : c.At H) (k1 : 1 ≤ k) (bk : Bd 64 k) (okw : SY c.b.w) (okh : SY c.b.h) (q : ∀ (c1 : Cell) (H' : Hp), Same H H' → H c1.p = none → c1.At H' → c1.b = ⟨shS c.b.w 1 k, shS c.b.h k 1⟩ → Q (.ref c1.p) H') : sp_stacked ([.ref c.p, .int k] ++ []) H Q E := ⟨c, k, rfl, hc, k1, bk, okw, okh, q⟩
def sp__law_plus : Sp := fun vs H Q _ => ∃ (p p' : Addr) (s t : Sd) (g : Int), vs = [.ref p, .ref p', .int g] ∧ SdAt H p s ∧ SdAt H p' t ∧ SY s ∧ SY t ∧ Bd 60 g ∧ (∀ (r : Addr) (H' : Hp), Same H H' → SdAt H' r (plS s t g) → Q (.ref r) H')
theorem c__law_plus {p p' : Addr} {s t : Sd} {g : Int} {H : Hp} {Q : VK} {E : XK} (h1 : SdAt H p s) (h2 : SdAt H p' t) (o1 : SY s) (o2 : SY t) (bg : Bd 60 g) (q : (∀ (r : Addr) (H' : Hp), Same H H' → SdAt H' r (plS s t g) → Q (.ref r) H')) : sp__law_plus ([.ref p, .ref p', .int g] ++ []) H Q E := ⟨p, p', s, t, g, rfl, h1, h2, o1, o2, bg, q⟩
def sp__law_share : Sp := fun vs H Q _ => ∃ (p : Addr) (s : Sd) (m k : Int), vs = [.ref p, .int m, .int k] ∧ SdAt H p s ∧ SY s ∧ Bd 64 m ∧ k ≠ 0 ∧ Bd 64 k ∧ (∀ (r : Addr) (H' : Hp), Same H H' → SdAt H' r (shS s m k) → Q (.ref r) H')
theorem c__law_share {p : Addr} {s : Sd} {m k : Int} {H : Hp} {Q : VK} {E : XK} (h1 : SdAt H p s) (ok : SY s) (bm : Bd 64 m) (k1 : k ≠ 0) (bk : Bd 64 k) (q : (∀ (r : Addr) (H' : Hp), Same H H' → SdAt H' r (shS s m k) → Q (.ref r) H')) : sp__law_share ([.ref p, .int m, .int k] ++ []) H Q E := ⟨p, s, m, k, rfl, h1, ok, bm, k1, bk, q⟩
def sp__law_side : Sp := fun vs H Q _ => ∃ (d c : Int) (k : Nat), vs = [.int d, .int c, .int (k : Int)] ∧ Rt d ∧ Bd 1048576 c ∧ k ≤ 10 ∧ (∀ (r : Addr) (H' : Hp) (s : Sd), Same H H' → SdAt H' r s → Dw d s → Q (.ref r) H')
theorem c__law_side {d c : Int} {k : Nat} {H : Hp} {Q : VK} {E : XK} (hR : Rt d) (hc : Bd 1048576 c) (hk : k ≤ 10) (q : (∀ (r : Addr) (H' : Hp) (s : Sd), Same H H' → SdAt H' r s → Dw d s → Q (.ref r) H')) : sp__law_side ([.int d, .int c, .int (k : Int)] ++ []) H Q E := ⟨d, c, k, rfl, hR, hc, hk, q⟩
def sp__law_is_heap : Sp := fun vs H Q _ => ∃ (a b : Addr) (C D : List Cell), vs = [.ref a, .ref b] ∧ H a = some (.lst (C.map Cell.v)) ∧ H b = some (.lst (D.map Cell.v)) ∧ (∀ c ∈ C, c.At H) ∧ (∀ c ∈ D, c.At H) ∧ C.map Cell.b = D.map Cell.b ∧ Q (.bl true) H
theorem c__law_is_heap {a b : Addr} {C D : List Cell} {H : Hp} {Q : VK} {E : XK} (ha : H a = some (.lst (C.map Cell.v))) (hb : H b = some (.lst (D.map Cell.v))) (hC : (∀ c ∈ C, c.At H)) (hD : (∀ c ∈ D, c.At H)) (eq : C.map Cell.b = D.map Cell.b) (q : Q (.bl true) H) : sp__law_is_heap ([.ref a, .ref b] ++ []) H Q E := ⟨a, b, C, D, rfl, ha, hb, hC, hD, eq, q⟩
def sp_is_deed : Sp := fun vs H Q _ => ∃ (p : Addr) (e : Dd), vs = [.ref p] ∧ DdAt H p e ∧ e.Ok ∧ ∀ H', Same H H' → Q (.bl true) H'
theorem c_is_deed {p : Addr} {e : Dd} {H : Hp} {Q : VK} {E : XK} (he : DdAt H p e) (ok : e.Ok) (q : ∀ H', Same H H' → Q (.bl true) H') : sp_is_deed ([.ref p] ++ []) H Q E := ⟨p, e, rfl, he, ok, q⟩
def sp_cut_across : Sp := fun vs H Q _ => ∃ (d : Int) (c : Cell) (p : Addr) (s : Sd), vs = [.int d, .ref c.p, .ref p] ∧ c.At H ∧ SdAt H p s ∧ Bd 64 d ∧ SY c.b.w ∧ SY s ∧ 0 < sgn d s.x s.y ∧ 0 < sgn d (c.b.w.x * s.z - s.x * c.b.w.z) (c.b.w.y * s.z - s.y * c.b.w.z) ∧ ∀ (r : Addr) (c1 c2 : Cell) (H' : Hp), Same H H' → H r = none → H' r = some (.lst [.ref c1.p, .ref c2.p]) → c1.At H' → c2.At H' → c1.b = ⟨s, c.b.h⟩ → c2.b = ⟨tkS c.b.w s, c.b.h⟩ → Q (.ref r) H'
theorem c_cut_across {d : Int} {c : Cell} {p : Addr} {s : Sd} {H : Hp} {Q : VK} {E : XK} (hc : c.At H) (hs : SdAt H p s) (hd : Bd 64 d) (okw : SY c.b.w) (oks : SY s) (up : 0 < sgn d s.x s.y) (un : 0 < sgn d (c.b.w.x * s.z - s.x * c.b.w.z) (c.b.w.y * s.z - s.y * c.b.w.z)) (q : ∀ (r : Addr) (c1 c2 : Cell) (H' : Hp), Same H H' → H r = none → H' r = some (.lst [.ref c1.p, .ref c2.p]) → c1.At H' → c2.At H' → c1.b = ⟨s, c.b.h⟩ → c2.b = ⟨tkS c.b.w s, c.b.h⟩ → Q (.ref r) H') : sp_cut_across ([.int d, .ref c.p, .ref p] ++ []) H Q E := ⟨d, c, p, s, rfl, hc, hs, hd, okw, oks, up, un, q⟩
def sp__law_below : Sp := fun vs H Q _ => ∃ (d : Int) (p p' : Addr) (s t : Sd), vs = [.int d, .ref p, .ref p'] ∧ SdAt H p s ∧ SdAt H p' t ∧ SY s ∧ SY t ∧ Bd 64 d ∧ (∀ H', Same H H' → Q (.bl (decide (sgn d (tkS s t).x (tkS s t).y < 0))) H')
theorem c__law_below {d : Int} {p p' : Addr} {s t : Sd} {H : Hp} {Q : VK} {E : XK} (h1 : SdAt H p s) (h2 : SdAt H p' t) (o1 : SY s) (o2 : SY t) (hd : Bd 64 d) (q : (∀ H', Same H H' → Q (.bl (decide (sgn d (tkS s t).x (tkS s t).y < 0))) H')) : sp__law_below ([.int d, .ref p, .ref p'] ++ []) H Q E := ⟨d, p, p', s, t, rfl, h1, h2, o1, o2, hd, q⟩
def sp__law_heap (K : PySem.W.Frag) : Sp := fun vs H Q _ => ∃ (p : Addr) (ns : List Int) (d : Int), vs = [.ref p, .int d, .int 1] ∧ SqL K H p (ns.map V.int) ∧ (∀ x ∈ ns, Bd 1048576 x) ∧ Rt d ∧ (∀ (r qa l : Addr) (H' : Hp) (P : PL) (L : List Cell), Same H H' → H' r = some (.tup [.ref qa, .ref l]) → Pl H' qa P → H' l = some (.lst (L.map Cell.v)) → (∀ c ∈ L, c.At H') → (∀ x ∈ P, Dw d x.2) → (∀ c ∈ L, Dw d c.b.w ∧ Dw d c.b.h) → 1 ≤ L.length → L.length ≤ 6 → Q (.ref r) H')
theorem c__law_heap {K : PySem.W.Frag} {p : Addr} {ns : List Int} {d : Int} {H : Hp} {Q : VK} {E : XK} (hS : SqL K H p (ns.map V.int)) (hb : (∀ x ∈ ns, Bd 1048576 x)) (hR : Rt d) (q : (∀ (r qa l : Addr) (H' : Hp) (P : PL) (L : List Cell), Same H H' → H' r = some (.tup [.ref qa, .ref l]) → Pl H' qa P → H' l = some (.lst (L.map Cell.v)) → (∀ c ∈ L, c.At H') → (∀ x ∈ P, Dw d x.2) → (∀ c ∈ L, Dw d c.b.w ∧ Dw d c.b.h) → 1 ≤ L.length → L.length ≤ 6 → Q (.ref r) H')) : sp__law_heap K ([.ref p, .int d, .int 1] ++ []) H Q E := ⟨p, ns, d, rfl, hS, hb, hR, q⟩
def sp__law_new : Sp := fun vs H Q _ => ∃ (p a : Addr) (d : Int) (e : Dd) (c c' : Cell), vs = [.ref p, .ref a] ∧ DdAt H p e ∧ H a = some (.lst (if e.two then [.ref c.p, .ref c'.p] else [.ref c.p])) ∧ c.At H ∧ c'.At H ∧ e.Fit d c.b c'.b ∧ (∀ (r : Addr) (N : List Cell) (H' : Hp), Same H H' → H r = none → H' r = some (.lst (N.map Cell.v)) → (∀ x ∈ N, x.At H') → N.map Cell.b = e.new c.b c'.b → Q (.ref r) H')
theorem c__law_new {p a : Addr} {d : Int} {e : Dd} {c c' : Cell} {H : Hp} {Q : VK} {E : XK} (he : DdAt H p e) (ha : H a = some (.lst (if e.two then [.ref c.p, .ref c'.p] else [.ref c.p]))) (hc : c.At H) (hc' : c'.At H) (hf : e.Fit d c.b c'.b) (q : (∀ (r : Addr) (N : List Cell) (H' : Hp), Same H H' → H r = none → H' r = some (.lst (N.map Cell.v)) → (∀ x ∈ N, x.At H') → N.map Cell.b = e.new c.b c'.b → Q (.ref r) H')) : sp__law_new ([.ref p, .ref a] ++ []) H Q E := ⟨p, a, d, e, c, c', rfl, he, ha, hc, hc', hf, q⟩
def sp__law_right (cs : Cs) : Sp := fun vs H Q _ => ∃ (y : Yd) (d : Int) (tn : Bool) (cl : List Cell) (ns : List Nat) (lg : List V) (a lo : Addr) (f : Nat → Cell), vs = [.ref y.p, .ref a, .ref lo] ∧ YdAt cs.Yard H y d tn cl ns lg ∧ Ly H a ns f ∧ H lo = some (.lst lg) ∧ (∀ n ∈ ns, ∃ c, cl[n]? = some c ∧ c.b = (f n).b) ∧ (∀ v ∈ lg, ∃ p, v = V.ref p) ∧ ns.length < 64 ∧ (∀ H', Same H H' → Q (.bl true) H')
theorem c__law_right {cs : Cs} {y : Yd} {d : Int} {tn : Bool} {cl : List Cell} {ns : List Nat} {lg : List V} {a lo : Addr} {f : Nat → Cell} {H : Hp} {Q : VK} {E : XK} (hy : YdAt cs.Yard H y d tn cl ns lg) (hL : Ly H a ns f) (hlo : H lo = some (.lst lg)) (rel : (∀ n ∈ ns, ∃ c, cl[n]? = some c ∧ c.b = (f n).b)) (lgr : (∀ v ∈ lg, ∃ p, v = V.ref p)) (nl : ns.length < 64) (q : (∀ H', Same H H' → Q (.bl true) H')) : sp__law_right cs ([.ref y.p, .ref a, .ref lo] ++ []) H Q E := ⟨y, d, tn, cl, ns, lg, a, lo, f, rfl, hy, hL, hlo, rel, lgr, nl, q⟩
def sp__law_at : Sp := fun vs H Q _ => ∃ (d : Int) (l p qa : Addr) (ds : List Int) (s : Sd) (P : PL) (D : Int) (M K' : Nat), vs = [.int d, .ref l, .ref p, .ref qa] ∧ H l = some (.lst (ds.map V.int)) ∧ (ds.length : Int) = 8 ∧ (∀ x ∈ ds, 0 ≤ x ∧ x < 1000000) ∧ SdAt H p s ∧ So d D M s ∧ Pl H qa P ∧ (∀ x ∈ P, So d D M x.2) ∧ Sz D K' M ∧ Rt d ∧ (∀ (r : Addr) (H' : Hp) (f : Sd) (k : Int), Same H H' → SdAt H' r f → 1 ≤ k → Bd 10 k → So d (D * k) (M + 10) f → sgn d (tkS s f).x (tkS s f).y = 1 → Q (.ref r) H')
theorem c__law_at {d : Int} {l p qa : Addr} {ds : List Int} {s : Sd} {P : PL} {D : Int} {M K' : Nat} {H : Hp} {Q : VK} {E : XK} (hl : H l = some (.lst (ds.map V.int))) (n8 : (ds.length : Int) = 8) (hds : (∀ x ∈ ds, 0 ≤ x ∧ x < 1000000)) (h1 : SdAt H p s) (so : So d D M s) (hP : Pl H qa P) (oP : (∀ x ∈ P, So d D M x.2)) (zz : Sz D K' M) (hR : Rt d) (q : (∀ (r : Addr) (H' : Hp) (f : Sd) (k : Int), Same H H' → SdAt H' r f → 1 ≤ k → Bd 10 k → So d (D * k) (M + 10) f → sgn d (tkS s f).x (tkS s f).y = 1 → Q (.ref r) H')) : sp__law_at ([.int d, .ref l, .ref p, .ref qa] ++ []) H Q E := ⟨d, l, p, qa, ds, s, P, D, M, K', rfl, hl, n8, hds, h1, so, hP, oP, zz, hR, q⟩
def sp__law_done : Sp := fun vs H Q _ => ∃ (a p : Addr) (ns : List Nat) (f : Nat → Cell) (k : Nat) (d D : Int) (M : Nat) (e : Dd) (n m : Nat), vs = [.ref a, .int (k : Int), .ref p] ∧ Ly H a ns f ∧ (∀ n ∈ ns, n < k) ∧ ns.length < 64 ∧ DdAt H p e ∧ e.Good d D M ns f n m ∧ (∀ (r a' : Addr) (N : List Cell) (H' : Hp), Same H H' → H a' = none → H' r = some (.tup [.ref a', .int ((k + N.length : Nat) : Int)]) → N.map Cell.b = (e.new (f n).b (f m).b) → Ly H' a' (ndrop ns e.names ++ List.range' k N.length) (fN f k N) → Q (.ref r) H')
theorem c__law_done {a p : Addr} {ns : List Nat} {f : Nat → Cell} {k : Nat} {d D : Int} {M : Nat} {e : Dd} {n m : Nat} {H : Hp} {Q : VK} {E : XK} (hL : Ly H a ns f) (lt : (∀ n ∈ ns, n < k)) (nl : ns.length < 64) (he : DdAt H p e) (gd : e.Good d D M ns f n m) (q : (∀ (r a' : Addr) (N : List Cell) (H' : Hp), Same H H' → H a' = none → H' r = some (.tup [.ref a', .int ((k + N.length : Nat) : Int)]) → N.map Cell.b = (e.new (f n).b (f m).b) → Ly H' a' (ndrop ns e.names ++ List.range' k N.length) (fN f k N) → Q (.ref r) H')) : sp__law_done ([.ref a, .int (k : Int), .ref p] ++ []) H Q E := ⟨a, p, ns, f, k, d, D, M, e, n, m, rfl, hL, lt, nl, he, gd, q⟩
def sp_Yard_put_by (cs : Cs) : Sp := fun vs H Q _ => ∃ (y : Yd) (d : Int) (tn : Bool) (cl : List Cell) (ns : List Nat) (lg : List V) (p a : Addr) (e : Dd) (c c' : Cell), vs = [.ref y.p, .ref p, .ref a] ∧ YdAt cs.Yard H y d tn cl ns lg ∧ DdAt H p e ∧ H a = some (.lst (if e.two then [.ref c.p, .ref c'.p] else [.ref c.p])) ∧ c.At H ∧ c'.At H ∧ Bd 64 d ∧ e.Fit d c.b c'.b ∧ (∀ (r : Addr) (N : List Cell) (H' : Hp), Same H H' → H r = none → H' r = some (.lst (N.map Cell.v)) → (∀ x ∈ N, x.At H') → N.map Cell.b = e.new c.b c'.b → Q (.ref r) H')
theorem c_Yard_put_by {cs : Cs} {y : Yd} {d : Int} {tn : Bool} {cl : List Cell} {ns : List Nat} {lg : List V} {p a : Addr} {e : Dd} {c c' : Cell} {H : Hp} {Q : VK} {E : XK} (hy : YdAt cs.Yard H y d tn cl ns lg) (he : DdAt H p e) (ha : H a = some (.lst (if e.two then [.ref c.p, .ref c'.p] else [.ref c.p]))) (hc : c.At H) (hc' : c'.At H) (hd : Bd 64 d) (hf : e.Fit d c.b c'.b) (q : (∀ (r : Addr) (N : List Cell) (H' : Hp), Same H H' → H r = none → H' r = some (.lst (N.map Cell.v)) → (∀ x ∈ N, x.At H') → N.map Cell.b = e.new c.b c'.b → Q (.ref r) H')) : sp_Yard_put_by cs ([.ref y.p, .ref p, .ref a] ++ []) H Q E := ⟨y, d, tn, cl, ns, lg, p, a, e, c, c', rfl, hy, he, ha, hc, hc', hd, hf, q⟩
def sp__law_deed (K : PySem.W.Frag) : Sp := fun vs H Q _ => ∃ (d c : Int) (a qa : Addr) (ns : List Nat) (f : Nat → Cell) (P : PL) (D : Int) (M K' : Nat), vs = [.int d, .int c, .ref a, .ref qa] ∧ Bd 1048576 c ∧ Ly H a ns f ∧ ns.Pairwise (· < ·) ∧ ns.length < 64 ∧ ns ≠ [] ∧ (∀ n ∈ ns, BoD d D M (f n).b) ∧ Pl H qa P ∧ (∀ x ∈ P, So d D M x.2) ∧ Sz D K' M ∧ Rt d ∧ (∀ (p : Addr) (e : Dd) (n m : Nat) (H' : Hp), Same H H' → DdAt H' p e → e.Good d D M ns f n m → e.isT = false → Q (.ref p) H')
theorem c__law_deed {K : PySem.W.Frag} {d c : Int} {a qa : Addr} {ns : List Nat} {f : Nat → Cell} {P : PL} {D : Int} {M K' : Nat} {H : Hp} {Q : VK} {E : XK} (hc : Bd 1048576 c) (hL : Ly H a ns f) (up : ns.Pairwise (· < ·)) (nl : ns.length < 64) (ne : ns ≠ []) (ob : (∀ n ∈ ns, BoD d D M (f n).b)) (hP : Pl H qa P) (oP : (∀ x ∈ P, So d D M x.2)) (zz : Sz D K' M) (hR : Rt d) (q : (∀ (p : Addr) (e : Dd) (n m : Nat) (H' : Hp), Same H H' → DdAt H' p e → e.Good d D M ns f n m → e.isT = false → Q (.ref p) H')) : sp__law_deed K ([.int d, .int c, .ref a, .ref qa] ++ []) H Q E := ⟨d, c, a, qa, ns, f, P, D, M, K', rfl, hc, hL, up, nl, ne, ob, hP, oP, zz, hR, q⟩
def sp_Yard_do (cs : Cs) : Sp := fun vs H Q _ => ∃ (y : Yd) (d : Int) (tn : Bool) (cl : List Cell) (ns : List Nat) (lg : List V) (p : Addr) (e : Dd) (c c' : Cell), vs = [.ref y.p, .ref p] ∧ YdAt cs.Yard H y d tn cl ns lg ∧ DdAt H p e ∧ e.Ok ∧ (∀ m ∈ e.names, ∃ n ∈ ns, m = (n : Int)) ∧ e.names.Nodup ∧ (e.isT = true → tn = true) ∧ CellsOf cl e c c' ∧ e.Fit d c.b c'.b ∧ Bd 64 d ∧ cl.length ≤ 78 ∧ lg.length ≤ 39 ∧ (∀ (N : List Cell) (H' : Hp), YdAt cs.Yard H' y d tn (cl ++ N) (ndrop ns e.names ++ List.range' cl.length N.length) (lg ++ [.ref p]) → N.map Cell.b = e.new c.b c'.b → (∀ b o, H b = some o → b ≠ y.k → b ≠ y.l → b ≠ y.t → H' b = some o) → Q .non H')
theorem c_Yard_do {cs : Cs} {y : Yd} {d : Int} {tn : Bool} {cl : List Cell} {ns : List Nat} {lg : List V} {p : Addr} {e : Dd} {c c' : Cell} {H : Hp} {Q : VK} {E : XK} (hy : YdAt cs.Yard H y d tn cl ns lg) (he : DdAt H p e) (ok : e.Ok) (hm : (∀ m ∈ e.names, ∃ n ∈ ns, m = (n : Int))) (hn : e.names.Nodup) (ht : (e.isT = true → tn = true)) (hc : CellsOf cl e c c') (hf : e.Fit d c.b c'.b) (hd : Bd 64 d) (l1 : cl.length ≤ 78) (l2 : lg.length ≤ 39) (q : (∀ (N : List Cell) (H' : Hp), YdAt cs.Yard H' y d tn (cl ++ N) (ndrop ns e.names ++ List.range' cl.length N.length) (lg ++ [.ref p]) → N.map Cell.b = e.new c.b c'.b → (∀ b o, H b = some o → b ≠ y.k → b ≠ y.l → b ≠ y.t → H' b = some o) → Q .non H')) : sp_Yard_do cs ([.ref y.p, .ref p] ++ []) H Q E := ⟨y, d, tn, cl, ns, lg, p, e, c, c', rfl, hy, he, ok, hm, hn, ht, hc, hf, hd, l1, l2, q⟩
theorem sc_is_whole : FnScope ["thing"] ["thing"] (defScope s_is_whole) := ⟨rfl, rfl, rfl, by decide +kernel, rfl, by decide +kernel, by decide +kernel⟩
theorem sc_common_divisor : FnScope ["one", "other", "pair", "rest"] ["one", "other"] (defScope s_common_divisor) := ⟨rfl, rfl, rfl, by decide +kernel, rfl, by decide +kernel, by decide +kernel⟩
theorem sc_with_sign_of : FnScope ["divisor", "bottom"] ["divisor", "bottom"] (defScope s_with_sign_of) := ⟨rfl, rfl, rfl, by decide +kernel, rfl, by decide +kernel, by decide +kernel⟩
theorem sc_is_above_nought : FnScope ["d", "a", "b"] ["d", "a", "b"] (defScope s_is_above_nought) := ⟨rfl, rfl, rfl, by decide +kernel, rfl, by decide +kernel, by decide +kernel⟩
theorem sc_names_taken : FnScope ["deed"] ["deed"] (defScope s_names_taken) := ⟨rfl, rfl, rfl, by decide +kernel, rfl, by decide +kernel, by decide +kernel⟩
theorem sc_turned : FnScope ["one"] ["one"] (defScope s_turned) := ⟨rfl, rfl, rfl, by decide +kernel, rfl, by decide +kernel, by decide +kernel⟩
theorem sc__law_cell : FnScope ["_law_script", "_law_k"] ["_law_script", "_law_k"] (defScope s__law_cell) := ⟨rfl, rfl, rfl, by decide +kernel, rfl, by decide +kernel, by decide +kernel⟩
theorem sc__law_whole : FnScope ["_law_found"] ["_law_found"] (defScope s__law_whole) := ⟨rfl, rfl, rfl, by decide +kernel, rfl, by decide +kernel, by decide +kernel⟩
theorem sc__law_great : FnScope ["_law_cell_here", "_law_k", "_law_number"] ["_law_cell_here", "_law_k"] (defScope s__law_great) := ⟨rfl, rfl, rfl, by decide +kernel, rfl, by decide +kernel, by decide +kernel⟩
theorem sc__law_divisor : FnScope ["_law_one", "_law_other"] ["_law_one", "_law_other"] (defScope s__law_divisor) := ⟨rfl, rfl, rfl, by decide +kernel, rfl, by decide +kernel, by decide +kernel⟩
theorem sc__law_sign : FnScope ["_law_d", "_law_a", "_law_b"] ["_law_d", "_law_a", "_law_b"] (defScope s__law_sign) := ⟨rfl, rfl, rfl, by decide +kernel, rfl, by decide +kernel, by decide +kernel⟩
theorem sc__law_begin : FnScope ["_law_heap_here", "_law_lying", "_law_k"] ["_law_heap_here"] (defScope s__law_begin) := ⟨rfl, rfl, rfl, by decide +kernel, rfl, by decide +kernel, by decide +kernel⟩
theorem sc_Yard___init__ : FnScope ["self", "d", "heap", "turning"] ["self", "d", "heap", "turning"] (defScope s_Yard___init__) := ⟨rfl, rfl, rfl, by decide +kernel, rfl, by decide +kernel, by decide +kernel⟩
theorem sc_Yard_boards : FnScope ["self"] ["self"] (defScope s_Yard_boards) := ⟨rfl, rfl, rfl, by decide +kernel, rfl, by decide +kernel, by decide +kernel⟩
theorem sc_Yard_heap : FnScope ["self"] ["self"] (defScope s_Yard_heap) := ⟨rfl, rfl, rfl, by decide +kernel, rfl, by decide +kernel, by decide +kernel⟩
theorem sc_Yard_log : FnScope ["self"] ["self"] (defScope s_Yard_log) := ⟨rfl, rfl, rfl, by decide +kernel, rfl, by decide +kernel, by decide +kernel⟩
theorem sc_length : FnScope ["a", "b", "n", "divisor"] ["a", "b", "n"] (defScope s_length) := ⟨rfl, rfl, rfl, by decide +kernel, rfl, by decide +kernel, by decide +kernel⟩
theorem sc_added : FnScope ["one", "other", "shared", "ahead", "behind", "a", "b", "left"] ["one", "other"] (defScope s_added) := ⟨rfl, rfl, rfl, by decide +kernel, rfl, by decide +kernel, by decide +kernel⟩
theorem sc_under : FnScope ["d", "one", "other"] ["d", "one", "other"] (defScope s_under) := ⟨rfl, rfl, rfl, by decide +kernel, rfl, by decide +kernel, by decide +kernel⟩
theorem sc__law_digits : FnScope ["_law_cell_here", "_law_many", "_law_found", "_law_number", "_law_k"] ["_law_cell_here", "_law_many"] (defScope s__law_digits) := ⟨rfl, rfl, rfl, by decide +kernel, rfl, by decide +kernel, by decide +kernel⟩
theorem sc__law_lowest : FnScope ["_law_a", "_law_b", "_law_n", "_law_share_here"] ["_law_a", "_law_b", "_law_n"] (defScope s__law_lowest) := ⟨rfl, rfl, rfl, by decide +kernel, rfl, by decide +kernel, by decide +kernel⟩
theorem sc__law_root : FnScope ["_law_cell_here", "_law_k", "_law_some"] ["_law_cell_here", "_law_k"] (defScope s__law_root) := ⟨rfl, rfl, rfl, by decide +kernel, rfl, by decide +kernel, by decide +kernel⟩
theorem sc__law_is_length : FnScope ["_law_found"] ["_law_found"] (defScope s__law_is_length) := ⟨rfl, rfl, rfl, by decide +kernel, rfl, by decide +kernel, by decide +kernel⟩
theorem sc_Yard_check_names : FnScope ["self", "names", "name"] ["self", "names"] (defScope s_Yard_check_names) := ⟨rfl, rfl, rfl, by decide +kernel, rfl, by decide +kernel, by decide +kernel⟩
theorem sc_taken : FnScope ["one", "other"] ["one", "other"] (defScope s_taken) := ⟨rfl, rfl, rfl, by decide +kernel, rfl, by decide +kernel, by decide +kernel⟩
theorem sc_is_length : FnScope ["thing"] ["thing"] (defScope s_is_length) := ⟨rfl, rfl, rfl, by decide +kernel, rfl, by decide +kernel, by decide +kernel⟩
theorem sc_glued_beside : FnScope ["one", "other"] ["one", "other"] (defScope s_glued_beside) := ⟨rfl, rfl, rfl, by decide +kernel, rfl, by decide +kernel, by decide +kernel⟩
theorem sc_stacked : FnScope ["one", "many", "width", "height"] ["one", "many"] (defScope s_stacked) := ⟨rfl, rfl, rfl, by decide +kernel, rfl, by decide +kernel, by decide +kernel⟩
theorem sc__law_plus : FnScope ["_law_one", "_law_other", "_law_sign_here", "_law_a", "_law_b"] ["_law_one", "_law_other", "_law_sign_here"] (defScope s__law_plus) := ⟨rfl, rfl, rfl, by decide +kernel, rfl, by decide +kernel, by decide +kernel⟩
theorem sc__law_share : FnScope ["_law_one", "_law_top", "_law_bottom"] ["_law_one", "_law_top", "_law_bottom"] (defScope s__law_share) := ⟨rfl, rfl, rfl, by decide +kernel, rfl, by decide +kernel, by decide +kernel⟩
theorem sc__law_side : FnScope ["_law_d", "_law_cell_here", "_law_at_here", "_law_digits_here", "_law_a", "_law_b", "_law_n", "_law_sign_here"] ["_law_d", "_law_cell_here", "_law_at_here"] (defScope s__law_side) := ⟨rfl, rfl, rfl, by decide +kernel, rfl, by decide +kernel, by decide +kernel⟩
theorem sc__law_is_heap : FnScope ["_law_found", "_law_due", "_law_one"] ["_law_found", "_law_due"] (defScope s__law_is_heap) := ⟨rfl, rfl, rfl, by decide +kernel, rfl, by decide +kernel, by decide +kernel⟩
theorem sc_is_deed : FnScope ["thing"] ["thing"] (defScope s_is_deed) := ⟨rfl, rfl, rfl, by decide +kernel, rfl, by decide +kernel, by decide +kernel⟩
theorem sc_cut_across : FnScope ["d", "one", "at"] ["d", "one", "at"] (defScope s_cut_across) := ⟨rfl, rfl, rfl, by decide +kernel, rfl, by decide +kernel, by decide +kernel⟩
theorem sc__law_below : FnScope ["_law_d", "_law_one", "_law_other", "_law_left"] ["_law_d", "_law_one", "_law_other"] (defScope s__law_below) := ⟨rfl, rfl, rfl, by decide +kernel, rfl, by decide +kernel, by decide +kernel⟩
theorem sc__law_heap : FnScope ["_law_script", "_law_d", "_law_first", "_law_pool", "_law_heap_here", "_law_k", "_law_cell_here", "_law_digits_here", "_law_width", "_law_height"] ["_law_script", "_law_d", "_law_first"] (defScope s__law_heap) := ⟨rfl, rfl, rfl, by decide +kernel, rfl, by decide +kernel, by decide +kernel⟩
theorem sc__law_new : FnScope ["_law_deed_here", "_law_some", "_law_width", "_law_height"] ["_law_deed_here", "_law_some"] (defScope s__law_new) := ⟨rfl, rfl, rfl, by decide +kernel, rfl, by decide +kernel, by decide +kernel⟩
theorem sc__law_right : FnScope ["_law_yard", "_law_lying", "_law_log", "_law_found", "_law_names", "_law_one", "_law_name"] ["_law_yard", "_law_lying", "_law_log"] (defScope s__law_right) := ⟨rfl, rfl, rfl, by decide +kernel, rfl, by decide +kernel, by decide +kernel⟩
theorem sc__law_at : FnScope ["_law_d", "_law_digits_here", "_law_side_here", "_law_pool", "_law_at_here", "_law_bottom"] ["_law_d", "_law_digits_here", "_law_side_here", "_law_pool"] (defScope s__law_at) := ⟨rfl, rfl, rfl, by decide +kernel, rfl, by decide +kernel, by decide +kernel⟩
theorem sc__law_done : FnScope ["_law_lying", "_law_used", "_law_deed_here", "_law_names", "_law_new_here", "_law_left", "_law_name", "_law_k"] ["_law_lying", "_law_used", "_law_deed_here"] (defScope s__law_done) := ⟨rfl, rfl, rfl, by decide +kernel, rfl, by decide +kernel, by decide +kernel⟩
theorem sc_Yard_put_by : FnScope ["self", "deed", "boards", "word"] ["self", "deed", "boards"] (defScope s_Yard_put_by) := ⟨rfl, rfl, rfl, by decide +kernel, rfl, by decide +kernel, by decide +kernel⟩
theorem sc__law_deed : FnScope ["_law_d", "_law_cell_here", "_law_lying", "_law_pool", "_law_digits_here", "_law_names", "_law_name", "_law_way", "_law_side_here", "_law_others"] ["_law_d", "_law_cell_here", "_law_lying", "_law_pool"] (defScope s__law_deed) := ⟨rfl, rfl, rfl, by decide +kernel, rfl, by decide +kernel, by decide +kernel⟩
theorem sc_Yard_do : FnScope ["self", "deed", "names", "fresh", "name", "one"] ["self", "deed"] (defScope s_Yard_do) := ⟨rfl, rfl, rfl, by decide +kernel, rfl, by decide +kernel, by decide +kernel⟩
theorem sc_law : FnScope ["_law_script", "_law_d", "_law_pool", "_law_heap_here", "_law_turned_let", "_law_handed", "_law_beside", "_law_yard", "_law_lying", "_law_used", "_law_log", "_law_cell_here", "_law_deed_here"] ["_law_script"] (defScope s_law) := ⟨rfl, rfl, rfl, by decide +kernel, rfl, by decide +kernel, by decide +kernel⟩
section
variable {P : Program} {w : World} {K : PySem.W.Frag} {mg : Str → Option Value} {base : Heap} {cs : Cs}
set_option maxHeartbeats 4000000 in
theorem ok_is_whole {f : Addr} {fd : FuncData} (F : Fun K "is_whole" "is_whole" s_is_whole f fd) (B : Bl mg)   : FnOk P w K mg base CX0 1 f fd ["thing"] sp_is_whole := by
  refine F.ok (k := 0) sc_is_whole (fun vs H Q E h => ?_) (fun cdv A outer s H vs Q E hr h => ?_)
  · obtain ⟨i, rfl, q⟩ := h
    rfl
  obtain ⟨i, rfl, q⟩ := h
  refine ⟨_, (pss_one (ps_ret (pe_and (pe_callB call_isinst rfl B.isinstance bt_isinstance (pa_cons (pv 0) (pa_cons (pe_bltn (v := .ty "int") rfl B.int bt_int rfl) pa_nil))) (pe_one (pe_not (pe_callB call_isinst rfl B.isinstance bt_isinstance (pa_cons (pv 0) (pa_cons (pe_bltn (v := .ty "bool") rfl B.bool bt_bool rfl) pa_nil)))))))), ?_⟩
  rw [show start ["thing"] [.int i] = [some (.int i)] from rfl]
  repeat walk_at "rd"
  exact q
set_option maxHeartbeats 4000000 in
theorem ok_common_divisor {f : Addr} {fd : FuncData} (F : Fun K "common_divisor" "common_divisor" s_common_divisor f fd) (B : Bl mg) (g_GREAT_BITS : TopI mg "GREAT_BITS" (8192))  : FnOk P w K mg base CX0 1 f fd ["one", "other"] sp_common_divisor := by
  obtain ⟨u_GREAT_BITS, m_GREAT_BITS, r_GREAT_BITS⟩ := g_GREAT_BITS
  refine F.ok (k := 0) sc_common_divisor (fun vs H Q E h => ?_) (fun cdv A outer s H vs Q E hr h => ?_)
  · obtain ⟨a, b, rfl, hb, q⟩ := h
    rfl
  obtain ⟨a, b, rfl, hb, q⟩ := h
  refine ⟨_, (pss_cons (ps_if (pt_cmpR op_gt (pe_bm0 PySem.F.plainAttrs_int PySem.F.slot_int_bit_length PySem.F.type_int_bit_length mt_bits (pv 1)) (pe_glob (v := .int (8192)) rfl m_GREAT_BITS r_GREAT_BITS) (nomark _)) pss_never pss_nil) (pss_cons (ps_while PassesOwn.never (pt_cmpR op_ne (pv 1) pe_int (nomark _)) (pss_cons (ps_set (i := 3) sc_common_divisor.nd rfl (Or.inl rfl) (pe_op op_modN (pv 0) (pv 1))) (pss_cons (ps_set (i := 0) sc_common_divisor.nd rfl (Or.inl rfl) (pv 1)) (pss_one (ps_set (i := 1) sc_common_divisor.nd rfl (Or.inl rfl) (pv 3)))))) (pss_one (ps_ret (pe_callB call_absR rfl B.abs bt_abs (pa_cons (pv 0) pa_nil)))))), ?_⟩
  rw [show start ["one", "other", "pair", "rest"] [.int a, .int b] = [some (.int a), some (.int b), none, none] from rfl]
  repeat walk_at "rd"
  refine if_d (fun c => absurd c (bits_le hb)) (fun _ => ?_)
  repeat walk_at "rd"
  refine while_by (fun σ' H' => ∃ (x y : Int) (r : Option V), σ' = [some (.int x), some (.int y), none, r] ∧ H' = H ∧ Int.gcd x y = Int.gcd a b) (fun σ' _ => match σ' with | [_, some (.int y), _, _] => y.natAbs | _ => 0) ⟨a, b, none, rfl, rfl, rfl⟩ ?_ ?_
  · rintro σ' H' ⟨x, y, r, rfl, rfl, hg⟩
    repeat walk_at "rd"
    refine if_nd (fun c => ?_) (fun c => ?_)
    · repeat walk_at "rd"
      exact ⟨⟨y, x.fmod y, _, rfl, rfl, (gcd_fmod x y).trans hg⟩, fmod_lt c⟩
    · repeat walk_at "rd"
      have e : (if x < 0 then -x else x) = ((Int.gcd a b : Nat) : Int) := by
        rw [← hg, c, Int.gcd_zero_right]
        split <;> omega
      rw [e]
      exact q
  · intro σ H Q Q' hq h
    obtain ⟨v, e, hs, k, e2, z⟩ := h
    exact ⟨v, e, hs, k, e2, hq _ _ z⟩
set_option maxHeartbeats 4000000 in
theorem ok_with_sign_of {f : Addr} {fd : FuncData} (F : Fun K "with_sign_of" "with_sign_of" s_with_sign_of f fd) (B : Bl mg)   : FnOk P w K mg base CX0 1 f fd ["divisor", "bottom"] sp_with_sign_of := by
  refine F.ok (k := 0) sc_with_sign_of (fun vs H Q E h => ?_) (fun cdv A outer s H vs Q E hr h => ?_)
  · obtain ⟨g, n, rfl, q⟩ := h
    rfl
  obtain ⟨g, n, rfl, q⟩ := h
  refine ⟨_, (pss_one (ps_ret (pe_ifExp (pt_cmpR op_lt (pv 1) pe_int (nomark _)) (pe_un un_neg (pv 0)) (pv 0)))), ?_⟩
  rw [show start ["divisor", "bottom"] [.int g, .int n] = [some (.int g), some (.int n)] from rfl]
  repeat walk_at "rd"
  refine if_d (fun c => ?_) (fun c => ?_)
  · repeat walk_at "rd"
    rw [if_pos c] at q
    exact q
  · repeat walk_at "rd"
    rw [if_neg c] at q
    exact q
set_option maxHeartbeats 4000000 in
theorem ok_is_above_nought {f : Addr} {fd : FuncData} (F : Fun K "is_above_nought" "is_above_nought" s_is_above_nought f fd) (B : Bl mg)   : FnOk P w K mg base CX0 1 f fd ["d", "a", "b"] sp_is_above_nought := by
  refine F.ok (k := 0) sc_is_above_nought (fun vs H Q E h => ?_) (fun cdv A outer s H vs Q E hr h => ?_)
  · obtain ⟨d, a, b, rfl, hd, ha, hb, q⟩ := h
    rfl
  obtain ⟨d, a, b, rfl, hd, ha, hb, q⟩ := h
  refine ⟨_, (pss_cons (ps_if (PW.pt (pw_and (pt_cmpR op_ge (pv 1) pe_int (nomark _)) (pw_and1 (pt_cmpR op_ge (pv 2) pe_int (nomark _))))) (pss_one (ps_ret (pe_or (pe_cmpR op_gt (pv 1) pe_int (nomark _)) (pe_one (pe_cmpR op_gt (pv 2) pe_int (nomark _)))))) pss_nil) (pss_cons (ps_if (PW.pt (pw_and (pt_cmpR op_le (pv 1) pe_int (nomark _)) (pw_and1 (pt_cmpR op_le (pv 2) pe_int (nomark _))))) (pss_one (ps_ret pe_bl)) pss_nil) (pss_cons (ps_if (pt_cmpR op_gt (pv 1) pe_int (nomark _)) (pss_one (ps_ret (pe_cmpR op_gt (pe_op op_mulB (pv 1) (pv 1)) (pe_op op_mulB (pe_op op_mulB (pv 0) (pv 2)) (pv 2)) (nomark _)))) pss_nil) (pss_one (ps_ret (pe_cmpR op_gt (pe_op op_mulB (pe_op op_mulB (pv 0) (pv 2)) (pv 2)) (pe_op op_mulB (pv 1) (pv 1)) (nomark _))))))), ?_⟩
  rw [show start ["d", "a", "b"] [.int d, .int a, .int b] = [some (.int d), some (.int a), some (.int b)] from rfl]
  repeat walk_at "rd"
  refine if_d (fun c1 => ?_) (fun c1 => ?_)
  · repeat walk_at "rd"
    refine if_d (fun c2 => ?_) (fun c2 => ?_)
    · repeat walk_at "rd"
      refine if_d (fun c3 => ?_) (fun c3 => ?_)
      · exact bl_q (Eq.symm (decide_eq_true (by unfold sgn; rw [if_pos ⟨c1, c2⟩, if_pos (by omega)]; decide))) q
      · repeat walk_at "rd"
        exact bl_q (decide_eq_decide.mpr (by unfold sgn; rw [if_pos ⟨c1, c2⟩]; split <;> omega)) q
    · repeat walk_at "rd"
      refine if_d (fun c3 => ?_) (fun c3 => ?_)
      · repeat walk_at "rd"
        refine if_d (fun c4 => ?_) (fun c4 => ?_)
        · repeat walk_at "rd"
          exact bl_q (Eq.symm (decide_eq_false (by unfold sgn; rw [if_neg (by omega), if_pos ⟨c3, c4⟩]; decide))) q
        · omega
      · repeat walk_at "rd"
        refine if_d (fun c4 => ?_) (fun c4 => ?_)
        · repeat walk_at "rd"
          exact bl_q (decide_eq_decide.mpr (by unfold sgn; rw [if_neg (by omega), if_neg (by omega), if_pos c4]; split <;> omega)) q
        · omega
  · repeat walk_at "rd"
    refine if_d (fun c3 => ?_) (fun c3 => ?_)
    · repeat walk_at "rd"
      refine if_d (fun c4 => ?_) (fun c4 => ?_)
      · repeat walk_at "rd"
        exact bl_q (Eq.symm (decide_eq_false (by unfold sgn; rw [if_neg (by omega), if_pos ⟨c3, c4⟩]; decide))) q
      · repeat walk_at "rd"
        refine if_d (fun c5 => ?_) (fun c5 => ?_)
        · omega
        · repeat walk_at "rd"
          exact bl_q (decide_eq_decide.mpr (by unfold sgn; rw [if_neg (by omega), if_neg (by omega), if_neg c5]; split <;> omega)) q
    · omega
set_option maxHeartbeats 4000000 in
theorem ok_names_taken {f : Addr} {fd : FuncData} (F : Fun K "names_taken" "names_taken" s_names_taken f fd) (B : Bl mg) (g_GLUINGS : TopT K mg "GLUINGS" [.str "beside", .str "atop"])  : FnOk P w K mg base CX0 1 f fd ["deed"] sp_names_taken := by
  obtain ⟨a_GLUINGS, m_GLUINGS, q_GLUINGS⟩ := g_GLUINGS
  refine F.ok (k := 0) sc_names_taken (fun vs H Q E h => ?_) (fun cdv A outer s H vs Q E hr h => ?_)
  · obtain ⟨p, e, rfl, he, q⟩ := h
    rfl
  obtain ⟨p, e, rfl, he, q⟩ := h
  refine ⟨_, (pss_one (ps_ret (pe_ifExp (pt_cmpR op_in_seq (pe_ix ix_tup (pv 0) pe_int (fun _ _ => rfl)) (pe_glob (v := .ref a_GLUINGS) rfl m_GLUINGS rfl) (by with_unfolding_all rfl)) (pe_lst (pa_cons (pe_ix ix_tup (pv 0) pe_int (fun _ _ => rfl)) (pa_cons (pe_ix ix_tup (pv 0) pe_int (fun _ _ => rfl)) pa_nil))) (pe_lst (pa_cons (pe_ix ix_tup (pv 0) pe_int (fun _ _ => rfl)) pa_nil))))), ?_⟩
  rw [show start ["deed"] [.ref p] = [some (.ref p)] from rfl]
  cases e with
  | cut al n s =>
    obtain ⟨pq, h0, hs⟩ := he
    cases al with
    | false =>
      have h0 : H p = some (.tup [.str (Str.ofString "across"), .int n, .ref pq]) := h0
      repeat walk_at "rd"
      refine ⟨_, _, rfl, .inr (q_GLUINGS H), rfl, rfl, ?_⟩
      rw [show (if false = true then !inV _ _ else inV _ _) = false from by decide +kernel]
      repeat walk_at "rd"
      refine i_newLf (by simp) fun r H1 hr s1 e1 => ?_
      exact q r H1 s1 hr e1
    | true =>
      have h0 : H p = some (.tup [.str (Str.ofString "along"), .int n, .ref pq]) := h0
      repeat walk_at "rd"
      refine ⟨_, _, rfl, .inr (q_GLUINGS H), rfl, rfl, ?_⟩
      rw [show (if false = true then !inV _ _ else inV _ _) = false from by decide +kernel]
      repeat walk_at "rd"
      refine i_newLf (by simp) fun r H1 hr s1 e1 => ?_
      exact q r H1 s1 hr e1
  | glue al n m =>
    have h0 := he
    cases al with
    | false =>
      have h0 : H p = some (.tup [.str (Str.ofString "beside"), .int n, .int m]) := h0
      repeat walk_at "rd"
      refine ⟨_, _, rfl, .inr (q_GLUINGS H), rfl, rfl, ?_⟩
      rw [show (if false = true then !inV _ _ else inV _ _) = true from by decide +kernel]
      repeat walk_at "rd"
      refine i_newLf (by simp) fun r H1 hr s1 e1 => ?_
      exact q r H1 s1 hr e1
    | true =>
      have h0 : H p = some (.tup [.str (Str.ofString "atop"), .int n, .int m]) := h0
      repeat walk_at "rd"
      refine ⟨_, _, rfl, .inr (q_GLUINGS H), rfl, rfl, ?_⟩
      rw [show (if false = true then !inV _ _ else inV _ _) = true from by decide +kernel]
      repeat walk_at "rd"
      refine i_newLf (by simp) fun r H1 hr s1 e1 => ?_
      exact q r H1 s1 hr e1
  | shift al n k =>
    have h0 := he
    cases al with
    | false =>
      have h0 : H p = some (.tup [.str (Str.ofString "stack"), .int n, .int k]) := h0
      repeat walk_at "rd"
      refine ⟨_, _, rfl, .inr (q_GLUINGS H), rfl, rfl, ?_⟩
      rw [show (if false = true then !inV _ _ else inV _ _) = false from by decide +kernel]
      repeat walk_at "rd"
      refine i_newLf (by simp) fun r H1 hr s1 e1 => ?_
      exact q r H1 s1 hr e1
    | true =>
      have h0 : H p = some (.tup [.str (Str.ofString "spread"), .int n, .int k]) := h0
      repeat walk_at "rd"
      refine ⟨_, _, rfl, .inr (q_GLUINGS H), rfl, rfl, ?_⟩
      rw [show (if false = true then !inV _ _ else inV _ _) = false from by decide +kernel]
      repeat walk_at "rd"
      refine i_newLf (by simp) fun r H1 hr s1 e1 => ?_
      exact q r H1 s1 hr e1
  | turn n =>
    have h0 := he
    have h0 : H p = some (.tup [.str (Str.ofString "turn"), .int n]) := h0
    repeat walk_at "rd"
    refine ⟨_, _, rfl, .inr (q_GLUINGS H), rfl, rfl, ?_⟩
    rw [show (if false = true then !inV _ _ else inV _ _) = false from by decide +kernel]
    repeat walk_at "rd"
    refine i_newLf (by simp) fun r H1 hr s1 e1 => ?_
    exact q r H1 s1 hr e1
set_option maxHeartbeats 4000000 in
theorem ok_turned {f : Addr} {fd : FuncData} (F : Fun K "turned" "turned" s_turned f fd) (B : Bl mg)   : FnOk P w K mg base CX0 1 f fd ["one"] sp_turned := by
  refine F.ok (k := 0) sc_turned (fun vs H Q E h => ?_) (fun cdv A outer s H vs Q E hr h => ?_)
  · obtain ⟨c, rfl, hc, q⟩ := h
    rfl
  obtain ⟨c, rfl, hc, q⟩ := h
  refine ⟨_, (pss_one (ps_ret (pe_tup (pa_cons (pe_ix ix_tup (pv 0) pe_int (fun _ _ => rfl)) (pa_cons (pe_ix ix_tup (pv 0) pe_int (fun _ _ => rfl)) pa_nil))))), ?_⟩
  rw [show start ["one"] [.ref c.p] = [some (.ref c.p)] from rfl]
  have ct := hc.t
  repeat walk_at "rd"
  refine i_newTf (by simp) fun r H1 hr s1 e1 => ?_
  exact q r H1 s1 hr ⟨e1, s1 _ _ hc.h, s1 _ _ hc.w⟩
set_option maxHeartbeats 4000000 in
theorem ok__law_cell {f : Addr} {fd : FuncData} (F : Fun K "_law_cell" "_law_cell" s__law_cell f fd) (B : Bl mg)   : FnOk P w K mg base CX0 1 f fd ["_law_script", "_law_k"] (sp__law_cell K) := by
  refine F.ok (k := 0) sc__law_cell (fun vs H Q E h => ?_) (fun cdv A outer s H vs Q E hr h => ?_)
  · obtain ⟨p, ns, k, rfl, hS, hk, hb, q⟩ := h
    rfl
  obtain ⟨p, ns, k, rfl, hS, hk, hb, q⟩ := h
  refine ⟨_, (pss_cons (ps_if (pt_cmpR op_lt (pv 1) (pe_callB call_lenR rfl B.len PySem.boot_len (pa_cons (pv 0) pa_nil)) (nomark _)) (pss_one (ps_ret (pe_ix ix_list (pv 0) (pv 1) (fun _ _ => rfl)))) pss_nil) (pss_one (ps_ret pe_int))), ?_⟩
  rw [show start ["_law_script", "_law_k"] [.ref p, .int k] = [some (.ref p), some (.int k)] from rfl]
  repeat walk_at "rd"
  refine ⟨p, _, rfl, .inl hS, ?_⟩
  repeat walk_at "rd"
  refine if_d (fun c => ?_) (fun c => ?_)
  · repeat walk_at "rd"
    rw [List.length_map] at c
    obtain ⟨d, hd, e⟩ := atI_in (xs := ns) (i := k) hk c
    exact ⟨p, _, _, _, rfl, rfl, hS, e, q d (hb d hd)⟩
  · repeat walk_at "rd"
    exact q 0 (by exact (bd_self 0).mono (by decide +kernel))
set_option maxHeartbeats 4000000 in
theorem ok__law_whole {f : Addr} {fd : FuncData} (F : Fun K "_law_whole" "_law_whole" s__law_whole f fd) (B : Bl mg)   : FnOk P w K mg base CX0 1 f fd ["_law_found"] sp__law_whole := by
  refine F.ok (k := 0) sc__law_whole (fun vs H Q E h => ?_) (fun cdv A outer s H vs Q E hr h => ?_)
  · obtain ⟨i, rfl, q⟩ := h
    rfl
  obtain ⟨i, rfl, q⟩ := h
  refine ⟨_, (pss_one (ps_ret (pe_and (pe_callB call_isinst rfl B.isinstance bt_isinstance (pa_cons (pv 0) (pa_cons (pe_bltn (v := .ty "int") rfl B.int bt_int rfl) pa_nil))) (pe_one (pe_not (pe_callB call_isinst rfl B.isinstance bt_isinstance (pa_cons (pv 0) (pa_cons (pe_bltn (v := .ty "bool") rfl B.bool bt_bool rfl) pa_nil)))))))), ?_⟩
  rw [show start ["_law_found"] [.int i] = [some (.int i)] from rfl]
  repeat walk_at "rd"
  exact q
set_option maxHeartbeats 4000000 in
theorem ok__law_great {f : Addr} {fd : FuncData} (F : Fun K "_law_great" "_law_great" s__law_great f fd) (B : Bl mg)   : FnOk P w K mg base CX0 1 f fd ["_law_cell_here", "_law_k"] sp__law_great := by
  refine F.ok (k := 0) sc__law_great (fun vs H Q E h => ?_) (fun cdv A outer s H vs Q E hr h => ?_)
  · obtain ⟨c, k, rfl, hc, hk, q⟩ := h
    rfl
  obtain ⟨c, k, rfl, hc, hk, q⟩ := h
  refine ⟨_, (pss_cons (ps_set (i := 2) sc__law_great.nd rfl (Or.inl rfl) (pe_op op_mulB (pe_op op_add (pe_op op_add (pe_op op_add (pv 0) (pe_op op_mulB (pe_op op_mulB pe_int (pv 1)) (pv 1))) (pv 1)) pe_int) pe_int)) (pss_cons (ps_set (i := 2) sc__law_great.nd rfl (Or.inl rfl) (pe_op op_mod (pv 2) pe_int)) (pss_one (ps_ret (pe_op op_mod (pe_op op_mulB (pv 2) (pv 2)) pe_int))))), ?_⟩
  rw [show start ["_law_cell_here", "_law_k", "_law_number"] [.int c, .int k] = [some (.int c), some (.int k), none] from rfl]
  repeat walk_at "rd"
  exact q _ (Int.emod_nonneg _ (by decide)) (Int.emod_lt_of_pos _ (by decide))
set_option maxHeartbeats 4000000 in
theorem ok__law_divisor {f : Addr} {fd : FuncData} (F : Fun K "_law_divisor" "_law_divisor" s__law_divisor f fd) (B : Bl mg)   : FnOk P w K mg base CX0 1 f fd ["_law_one", "_law_other"] sp__law_divisor := by
  refine F.ok (k := 0) sc__law_divisor (fun vs H Q E h => ?_) (fun cdv A outer s H vs Q E hr h => ?_)
  · obtain ⟨a, b, rfl, q⟩ := h
    rfl
  obtain ⟨a, b, rfl, q⟩ := h
  refine ⟨_, (pss_cons (ps_set (i := 0) sc__law_divisor.nd rfl (Or.inl rfl) (pe_callB call_absR rfl B.abs bt_abs (pa_cons (pv 0) pa_nil))) (pss_cons (ps_set (i := 1) sc__law_divisor.nd rfl (Or.inl rfl) (pe_callB call_absR rfl B.abs bt_abs (pa_cons (pv 1) pa_nil))) (pss_cons (ps_while PassesOwn.never (pt_cmpR op_gt (pv 1) pe_int (nomark _)) (pss_one (ps_par (i := 0) (j := 1) rfl sc__law_divisor.nd rfl rfl (by decide) rfl rfl (pa_cons (pv 1) (pa_cons (pe_op op_mod (pv 0) (pv 1)) pa_nil)) rfl))) (pss_one (ps_ret (pv 0)))))), ?_⟩
  rw [show start ["_law_one", "_law_other"] [.int a, .int b] = [some (.int a), some (.int b)] from rfl]
  repeat walk_at "rd"
  refine while_by (fun σ' H' => ∃ (x y : Int), σ' = [some (.int x), some (.int y)] ∧ H' = H ∧ 0 ≤ x ∧ 0 ≤ y ∧ Int.gcd x y = Int.gcd a b) (fun σ' _ => match σ' with | [_, some (.int y)] => y.natAbs | _ => 0) ⟨_, _, rfl, rfl, ?_, ?_, ?_⟩ ?_ ?_
  · split <;> omega
  · split <;> omega
  · exact gcd_abs2 a b
  · rintro σ' H' ⟨x, y, rfl, rfl, hx, hy, hg⟩
    repeat walk_at "rd"
    refine if_d (fun c => ?_) (fun c => ?_)
    · repeat walk_at "rd"
      exact ⟨⟨y, x % y, rfl, rfl, hy, Int.emod_nonneg _ (by omega), (gcd_emod x y).trans hg⟩, by
        have h1 := Int.emod_nonneg x (show y ≠ 0 by omega)
        have h2 := Int.emod_lt_of_pos x c
        show (x % y).natAbs < y.natAbs
        omega⟩
    · repeat walk_at "rd"
      have hy0 : y = 0 := by omega
      have e : x = ((Int.gcd a b : Nat) : Int) := by
        rw [← hg, hy0, Int.gcd_zero_right]
        omega
      rw [e]
      exact q
  · intro σ H Q Q' hq h
    obtain ⟨v, e, i, j, e1, e2, k, e3, z⟩ := h
    exact ⟨v, e, i, j, e1, e2, k, e3, hq _ _ z⟩
theorem pick2 {k : Bool} : atI [V.int (-1), V.int 1] (if k = true then 1 else 0) = some (.int (if k = true then 1 else -1)) := by cases k <;> rfl
set_option maxHeartbeats 4000000 in
theorem ok__law_sign {f : Addr} {fd : FuncData} (F : Fun K "_law_sign" "_law_sign" s__law_sign f fd) (B : Bl mg)   : FnOk P w K mg base CX0 1 f fd ["_law_d", "_law_a", "_law_b"] sp__law_sign := by
  refine F.ok (k := 0) sc__law_sign (fun vs H Q E h => ?_) (fun cdv A outer s H vs Q E hr h => ?_)
  · obtain ⟨d, a, b, rfl, hd, ha, hb, q⟩ := h
    rfl
  obtain ⟨d, a, b, rfl, hd, ha, hb, q⟩ := h
  refine ⟨_, (pss_cons (ps_if (PW.pt (pw_and (pt_cmpR op_ge (pv 1) pe_int (nomark _)) (pw_and1 (pt_cmpR op_ge (pv 2) pe_int (nomark _))))) (pss_one (ps_ret (pe_callTy call_intR rfl B.int bt_int (pa_cons (pe_cmpR op_gt (pe_op op_add (pv 1) (pv 2)) pe_int (nomark _)) pa_nil)))) pss_nil) (pss_cons (ps_if (PW.pt (pw_and (pt_cmpR op_le (pv 1) pe_int (nomark _)) (pw_and1 (pt_cmpR op_le (pv 2) pe_int (nomark _))))) (pss_one (ps_ret (pe_un un_neg pe_int))) pss_nil) (pss_cons (ps_if (pt_cmpR op_gt (pv 1) pe_int (nomark _)) (pss_one (ps_ret (pe_ix ix_list (pe_lst (pa_cons (pe_un un_neg pe_int) (pa_cons pe_int pa_nil))) (pe_callTy call_intR rfl B.int bt_int (pa_cons (pe_cmpR op_gt (pe_op op_mulB (pv 1) (pv 1)) (pe_op op_mulB (pe_op op_mulB (pv 0) (pv 2)) (pv 2)) (nomark _)) pa_nil)) (fun _ _ => rfl)))) pss_nil) (pss_one (ps_ret (pe_ix ix_list (pe_lst (pa_cons (pe_un un_neg pe_int) (pa_cons pe_int pa_nil))) (pe_callTy call_intR rfl B.int bt_int (pa_cons (pe_cmpR op_gt (pe_op op_mulB (pe_op op_mulB (pv 0) (pv 2)) (pv 2)) (pe_op op_mulB (pv 1) (pv 1)) (nomark _)) pa_nil)) (fun _ _ => rfl))))))), ?_⟩
  rw [show start ["_law_d", "_law_a", "_law_b"] [.int d, .int a, .int b] = [some (.int d), some (.int a), some (.int b)] from rfl]
  repeat walk_at "rd"
  refine if_d (fun c1 => ?_) (fun c1 => ?_)
  · repeat walk_at "rd"
    refine if_d (fun c2 => ?_) (fun c2 => ?_)
    · repeat walk_at "rd"
      exact int_q (by rw [sgn_nn c1 c2]; simp only [decide_eq_true_eq]) (q H (Same.refl H))
    · repeat walk_at "rd"
      refine if_d (fun c3 => ?_) (fun c3 => ?_)
      · repeat walk_at "rd"
        refine if_d (fun c4 => ?_) (fun c4 => ?_)
        · repeat walk_at "rd"
          exact int_q (by unfold sgn; rw [if_neg (by omega), if_pos ⟨c3, c4⟩]) (q H (Same.refl H))
        · omega
      · repeat walk_at "rd"
        refine if_d (fun c4 => ?_) (fun c4 => ?_)
        · repeat walk_at "rd"
          refine i_newL (by simp) fun p H2 s2 e2 => ?_
          repeat walk_at "rd"
          refine i_ixL e2 pick2 ?_
          exact int_q (by rw [sgn_pa c4 (by omega)]; simp only [decide_eq_true_eq]) (q H2 s2)
        · omega
  · repeat walk_at "rd"
    refine if_d (fun c3 => ?_) (fun c3 => ?_)
    · repeat walk_at "rd"
      refine if_d (fun c4 => ?_) (fun c4 => ?_)
      · repeat walk_at "rd"
        exact int_q (by unfold sgn; rw [if_neg (by omega), if_pos ⟨c3, c4⟩]) (q H (Same.refl H))
      · repeat walk_at "rd"
        refine if_d (fun c5 => ?_) (fun c5 => ?_)
        · omega
        · repeat walk_at "rd"
          refine i_newL (by simp) fun p H2 s2 e2 => ?_
          repeat walk_at "rd"
          refine i_ixL e2 pick2 ?_
          exact int_q (by rw [sgn_pb (by omega) (by omega)]; simp only [decide_eq_true_eq]) (q H2 s2)
    · omega
set_option maxHeartbeats 4000000 in
theorem ok__law_begin {f : Addr} {fd : FuncData} (F : Fun K "_law_begin" "_law_begin" s__law_begin f fd) (B : Bl mg)   : FnOk P w K mg base CX0 1 f fd ["_law_heap_here"] sp__law_begin := by
  refine F.ok (k := 0) sc__law_begin (fun vs H Q E h => ?_) (fun cdv A outer s H vs Q E hr h => ?_)
  · obtain ⟨l, L, rfl, hl, hA, h6, q⟩ := h
    rfl
  obtain ⟨l, L, rfl, hl, hA, h6, q⟩ := h
  refine ⟨_, (pss_cons (ps_set (i := 1) sc__law_begin.nd rfl (Or.inl rfl) pe_dict0) (pss_cons (ps_for PassesOwn.never rfl (pi_range1 rfl B.range (pa_cons (pe_callB call_lenR rfl B.len PySem.boot_len (pa_cons (pv 0) pa_nil)) pa_nil)) (pg_name (i := 2) sc__law_begin.nd rfl (Or.inl rfl)) (pss_one (ps_dput (hu_of hr) (pv 1) (pv 2) (pe_ix ix_list (pv 0) (pv 2) (fun _ _ => rfl)) rfl))) (pss_one (ps_ret (pe_tup (pa_cons (pv 1) (pa_cons (pe_callB call_lenR rfl B.len PySem.boot_len (pa_cons (pv 0) pa_nil)) pa_nil))))))), ?_⟩
  rw [show start ["_law_heap_here", "_law_lying", "_law_k"] [.ref l] = [some (.ref l), none, none] from rfl]
  repeat walk_at "rd"
  refine i_dict0 fun A H1 n1 s1 e1 => ?_
  have lA : l ≠ A := ne_of_none hl n1
  have hl1 := s1 _ _ hl
  repeat walk_at "rd"
  refine i_forR1 ?_
  repeat walk_at "rd"
  rw [List.length_map]
  refine ⟨(L.length : Int), rfl, by omega, by omega, for_range (lo := 0) (n := (L.length : Int).toNat) (fun i σ H' => ∃ v, σ = [some (.ref l), some (.ref A), v] ∧ H' A = some (.dK (cdK (List.range i) (fL L))) ∧ SameX A H1 H') ⟨_, rfl, e1, fun b o e _ => e⟩ ?_ ?_⟩
  · rintro i σ H' hi ⟨v, rfl, el, sx⟩
    have hi' : i < L.length := by omega
    have hl' := sx _ _ hl1 lA
    obtain ⟨cx, hcx⟩ : ∃ c, L[i]? = some c := ⟨_, List.getElem?_eq_getElem hi'⟩
    repeat walk_at "rd"
    refine i_ixL hl' (v := cx.v) (by rw [show (0 : Int) + (i : Int) = ((i : Nat) : Int) by omega]; exact atI_nat (by rw [List.getElem?_map, hcx]; rfl)) ?_
    repeat walk_at "rd"
    rw [show (0 : Int) + (i : Int) = ((i : Nat) : Int) by omega]
    refine ⟨A, _, rfl, DPut.k (k := .inl ((i : Nat) : Int)) el (by rw [cdK_len, List.length_range]; exact Nat.lt_of_lt_of_le (show _ < 1000 by omega) (by decide +kernel)), ?_⟩
    refine ⟨_, rfl, ?_, fun b o e n => by rw [upd_ne n]; exact sx b o e n⟩
    rw [upd_same, putK_new _ (valV_cfresh (fun j hj => List.mem_range.mp hj)), List.range_succ, cdK_snoc, fL_get hcx]
  rintro σ H2 ⟨v, rfl, el, sx⟩
  have s2 : Same H H2 := fun b o e => sx b o (s1 b o e) (ne_of_none e n1)
  rw [Int.toNat_natCast] at el
  have hl2 := s2 _ _ hl
  repeat walk_at "rd"
  rw [List.length_map]
  repeat walk_at "rd"
  refine i_newTf (by simp) fun r H3 n3 s3 e3 => ?_
  refine q r A H3 (s2.trans s3) n1 e3 ⟨s3 _ _ el, fun j hj => ?_⟩
  have hj := List.mem_range.mp hj
  rw [fL_get (List.getElem?_eq_getElem hj)]
  exact ((hA _ (List.getElem_mem hj)).same s2).same s3
set_option maxHeartbeats 4000000 in
theorem ok_Yard___init__ {f : Addr} {fd : FuncData} {its : List Value} (F : FunD K "__init__" "Yard.__init__" s_Yard___init__ f fd its) (B : Bl mg) (X : Xs K mg cs)  : FnOk P w K mg base CX0 1 f fd ["self", "d", "heap", "turning"] (sp_Yard___init__ cs) := by
  refine F.ok (k := 0) sc_Yard___init__ (fun vs H Q E h => ?_) (fun cdv A outer s H vs Q E hr h => ?_)
  · obtain ⟨p, dx, hp, d, tn, cl, rfl, h0, hh, hat, hlen, q⟩ := h
    rfl
  obtain ⟨p, dx, hp, d, tn, cl, rfl, h0, hh, hat, hlen, q⟩ := h
  refine ⟨_, (pss_cons (ps_fld (pv 0) (pv 1) rfl) (pss_cons (ps_fld (pv 0) (pv 3) rfl) (pss_cons (ps_fld (pv 0) (pe_callTy call_lstR rfl B.list bt_list (pa_cons (pv 2) pa_nil)) rfl) (pss_cons (ps_fld (pv 0) (pe_callTy (call_dictP rfl) rfl B.dict bt_dict (pa_cons (pe_comp ["name"] [] rfl (pi_range1 rfl B.range (pa_cons (pe_callB call_lenR rfl B.len PySem.boot_len (pa_cons (pv 2) pa_nil)) pa_nil)) (fun _ _ _ _ _ => (pg_name (i := 0) (show List.Nodup (α := Str) ["name"] by decide +kernel) rfl (Or.inl rfl))) (fun _ _ _ _ _ => pifs_nil) (fun _ _ _ _ _ => (pe_tup (pa_cons (pv 0) (pa_cons pe_bl pa_nil))))) pa_nil)) rfl) (pss_one (ps_fld (pv 0) (pe_lst pa_nil) rfl)))))), ?_⟩
  rw [show start ["self", "d", "heap", "turning"] [.ref p, .int d, .ref hp, .bl tn] = [some (.ref p), some (.int d), some (.ref hp), some (.bl tn)] from rfl]
  repeat walk_at "rd"
  refine i_setf h0 X.c_Yard X.n_Yard_root (by simp) fun H1 x1 e1 => ?_
  repeat walk_at "rd"
  refine i_setf e1 X.c_Yard X.n_Yard_turning (putF_lt (by simp)) fun H2 x2 e2 => ?_
  have np : hp ≠ p := ne_of hh h0 (fun z => nomatch z)
  have hh2 := x2 _ _ (x1 _ _ hh np) np
  repeat walk_at "rd"
  refine i_lstLf hh2 fun k H3 nk s3 ek => ?_
  have e3 := s3 _ _ e2
  have kp : k ≠ p := ne_of ek e3 (fun z => nomatch z)
  repeat walk_at "rd"
  refine i_setf e3 X.c_Yard X.n_Yard_known (putF_lt (putF_lt (by simp))) fun H4 x4 e4 => ?_
  have ek4 := x4 _ _ ek kp
  have hh4 := x4 _ _ (s3 _ _ hh2) np
  repeat walk_at "rd"
  refine i_compR1 ?_
  repeat walk_at "rd"
  refine ⟨_, rfl, by simp only [List.length_map]; omega, by simp only [List.length_map]; omega, fun D hD => comp_range (lo := 0) (n := ((cl.map Cell.v).length : Int).toNat) (fun i xs σ' H' => ∃ (v : Option V) (ps : List Addr), σ' = [v] ∧ xs = ps.map V.ref ∧ ps.length = i ∧ H' D = some (.lst xs) ∧ SameX D H4 H' ∧ ∀ (j : Nat) (p' : Addr), ps[j]? = some p' → H' p' = some (.tup [.int (j : Int), .bl true])) ⟨none, [], rfl, rfl, rfl, upd_same, fun b o e n => by rw [upd_ne n]; exact e, by simp⟩ ?_ ?_⟩
  · rintro i xs σ' H' hi ⟨v, ps, rfl, rfl, hl, eD, sx, hps⟩
    repeat walk_at "rd"
    refine i_newTf (by simp) fun r H5 hr s5 e5 => ?_
    repeat walk_at "rd"
    have hi' : i < 61 := by simp only [List.length_map] at hi; omega
    refine i_append (s5 _ _ eD) (by rw [List.length_map]; omega) fun H6 x6 e6 => ?_
    have rD : r ≠ D := ne_of e5 (s5 _ _ eD) (fun z => nomatch z)
    refine cnext hi ⟨_, ps ++ [r], rfl, rfl, by rw [List.length_append, hl]; rfl, by rw [List.map_append]; exact e6, sx.trans ((SameX.of s5).trans x6), ?_⟩
    intro j p' hj
    by_cases c : j < ps.length
    · rw [List.getElem?_append_left c] at hj
      have := hps j p' hj
      exact x6.tup (s5 _ _ this) (s5 _ _ eD)
    · rw [List.getElem?_append_right (by omega)] at hj
      have hj1 := (List.getElem?_eq_some_iff.mp hj).1
      have j0 : j - ps.length = 0 := by simpa using hj1
      rw [j0] at hj
      injection hj with hj
      subst hj
      have : j = i := by omega
      subst this
      have := x6.tup e5 (s5 _ _ eD)
      simpa using this
  · rintro xs σ' H' ⟨v, ps, rfl, rfl, hl, eD, sx, hps⟩
    have s5 : Same H4 H' := fun b o e => sx b o e (ne_of_none e hD)
    have hl : ps.length = cl.length := by rw [hl]; simp
    repeat walk_at "rd"
    refine i_dictP (kvs := nmK (List.range cl.length)) eD (by simp [nmK, hl]) (fun i p' kv h1 h2 => ?_) (nmK_nodup List.pairwise_lt_range) (by simp [nmK]; omega) fun l H6 nl s6 el => ?_
    · have h3 := hps i p' h1
      have hi := (List.getElem?_eq_some_iff.mp h1).1
      rw [nmK, List.getElem?_map, List.getElem?_range (by omega)] at h2
      injection h2 with h2
      rw [← h2]
      exact h3
    have e6 := s6 _ _ (s5 _ _ e4)
    have lp : l ≠ p := ne_of el e6 (fun z => nomatch z)
    repeat walk_at "rd"
    refine i_setf e6 X.c_Yard X.n_Yard_lying (putF_lt (putF_lt (putF_lt (by simp)))) fun H7 x7 e7 => ?_
    repeat walk_at "rd"
    refine i_newLf (by simp) fun t H8 nt s8 et => ?_
    have e8 := s8 _ _ e7
    have tp : t ≠ p := ne_of et e8 (fun z => nomatch z)
    repeat walk_at "rd"
    refine i_setf e8 X.c_Yard X.n_Yard_done (putF_lt (putF_lt (putF_lt (putF_lt (by simp))))) fun H9 x9 e9 => ?_
    have ek7 := x7 _ _ (s6 _ _ (s5 _ _ ek4)) kp
    have xx : SameX p H H9 := x1.trans (x2.trans ((SameX.of s3).trans (x4.trans ((SameX.of (s5.trans s6)).trans (x7.trans ((SameX.of s8).trans x9))))))
    have pn : ∀ {b : Addr} {G : Hp}, SameX p H G → b ≠ p → G b = none → H b = none := fun {b G} x n g => by
      cases e : H b with
      | none => rfl
      | some o => rw [x _ _ e n] at g; cases g
    refine q ⟨p, dx, k, l, t⟩ H9 rfl rfl xx ⟨e9, x9 _ _ (s8 _ _ ek7) kp, x9 _ _ (s8 _ _ (x7 _ _ el lp)) lp, x9 _ _ et tp, ne_of_none ek7 nt, fun c hc => ?_, List.pairwise_lt_range, fun n hn => List.mem_range.mp hn, by omega, by simp⟩ (pn (x1.trans x2) kp nk) (pn (x1.trans (x2.trans ((SameX.of s3).trans (x4.trans (SameX.of s5))))) lp nl) (pn (x1.trans (x2.trans ((SameX.of s3).trans (x4.trans ((SameX.of (s5.trans s6)).trans x7))))) tp nt)
    have hc := hat c hc
    exact ⟨xx _ _ hc.t (ne_of hc.t h0 (fun z => nomatch z)), xx _ _ hc.w (ne_of hc.w h0 (fun z => nomatch z)), xx _ _ hc.h (ne_of hc.h h0 (fun z => nomatch z))⟩
set_option maxHeartbeats 4000000 in
theorem ok_Yard_boards {f : Addr} {fd : FuncData} (F : Fun K "boards" "Yard.boards" s_Yard_boards f fd) (B : Bl mg) (X : Xs K mg cs)  : FnOk P w K mg base CX0 1 f fd ["self"] (sp_Yard_boards cs) := by
  refine F.ok (k := 0) sc_Yard_boards (fun vs H Q E h => ?_) (fun cdv A outer s H vs Q E hr h => ?_)
  · obtain ⟨y, d, tn, cl, ns, lg, rfl, hy, q⟩ := h
    rfl
  obtain ⟨y, d, tn, cl, ns, lg, rfl, hy, q⟩ := h
  refine ⟨_, (pss_one (ps_ret (pe_compD ["name"] [0] rfl (pi_dict (pe_fldK (K := K) rfl (pv 0) rfl)) (fun _ _ _ _ _ => (pg_name (i := 0) (show List.Nodup (α := Str) ["name", "self"] by decide +kernel) rfl (Or.inl rfl))) (fun _ _ _ _ _ => pifs_nil) (fun _ _ _ _ _ => (pe_tup (pa_cons (pv 0) (pa_cons (pe_ix (r := rIxL K) ix_list (pe_fldK (K := K) rfl (pv 1) rfl) (pv 0) (fun _ _ => rfl)) pa_nil))))))), ?_⟩
  rw [show start ["self"] [.ref y.p] = [some (.ref y.p)] from rfl]
  refine i_ret ?_
  refine i_compD ?_
  repeat walk_at "rd"
  refine ⟨_, _, _, _, _, rfl, hy.o, X.c_Yard, X.n_Yard_lying, rfl, ?_⟩
  refine ⟨y.l, nmK ns, rfl, hy.l, fun ob nf D hD => comp_dict (d := y.l) (ob := ob) (kvs := nmK ns) (fun i xs σ' H' => ∃ v : Option V, σ' = [v, some (.ref y.p)] ∧ (∃ ps : List Addr, xs = ps.map V.ref ∧ ps.length = i ∧ ∀ (j : Nat) (p : Addr), ps[j]? = some p → ∃ n c, ns[j]? = some n ∧ cl[n]? = some c ∧ H' p = some (.tup [.int (n : Int), .ref c.p])) ∧ H' D = some (.lst xs) ∧ H' y.l = some (.frz ob (.dK (nmK ns))) ∧ ∀ b o, H b = some o → b ≠ y.l → H' b = some o) ?_ (fun i xs σ' H' _ z => by obtain ⟨_, _, _, _, z, _⟩ := z; exact z) ?_ ?_⟩
  · have nl : D ≠ y.l := fun c => by rw [c, upd_same] at hD; cases hD
    have hD' : H D = none := by rw [upd_ne nl] at hD; exact hD
    exact ⟨none, rfl, ⟨[], rfl, rfl, by simp⟩, upd_same, by rw [upd_ne (Ne.symm nl), upd_same], fun b o e n => by rw [upd_ne (ne_of_none e hD'), upd_ne n]; exact e⟩
  · rintro i kv xs σ' H' hi ⟨v, rfl, ⟨ps, rfl, hl, hps⟩, eD, el, sx⟩
    have nl0 : D ≠ y.l := fun c => by rw [c, upd_same] at hD; cases hD
    have hD' : H D = none := by rw [upd_ne nl0] at hD; exact hD
    rw [nmK, List.getElem?_map] at hi
    obtain ⟨n, hn, rfl⟩ := Option.map_eq_some_iff.mp hi
    have hlt := hy.lt n (List.mem_of_getElem? hn)
    obtain ⟨c, hc⟩ : ∃ c, cl[n]? = some c := ⟨_, List.getElem?_eq_getElem hlt⟩
    have nl : ∀ {b : Addr} {o : HO}, H b = some o → (∀ k, o ≠ .dK k) → b ≠ y.l := fun e h z => by rw [z, hy.l] at e; injection e with e; exact h _ e.symm
    have eo := sx _ _ hy.o (nl hy.o (fun _ z => nomatch z))
    have ek := sx _ _ hy.k (nl hy.k (fun _ z => nomatch z))
    repeat walk_at "rd"
    refine ⟨_, _, _, _, _, rfl, eo, X.c_Yard, X.n_Yard_known, rfl, ?_⟩
    repeat walk_at "rd"
    refine i_ixL ek (v := c.v) (atI_nat (by rw [List.getElem?_map, hc]; rfl)) ?_
    have hi3 := (List.getElem?_eq_some_iff.mp hn).1
    have l1 := up_len hy.up hy.lt
    have l2 := hy.lc
    repeat walk_at "rd"
    refine i_newTf (by simp) fun r H5 hr s5 e5 => ?_
    repeat walk_at "rd"
    have eD5 := s5 _ _ eD
    refine i_append eD5 (by rw [List.length_map]; omega) fun H3 x3 e3 => ?_
    refine cnext (by simp only [nmK, List.length_map]; exact hi3) ⟨_, rfl, ⟨ps ++ [r], rfl, by rw [List.length_append, hl]; rfl, ?_⟩, by rw [List.map_append]; exact e3, x3 _ _ (s5 _ _ el) (ne_of (s5 _ _ el) eD5 (fun z => nomatch z)), fun b o e n => x3 _ _ (s5 _ _ (sx b o e n)) (ne_of_none e hD')⟩
    intro j p' hj
    by_cases cj : j < ps.length
    · rw [List.getElem?_append_left cj] at hj
      obtain ⟨n', c', h1, h2, h3⟩ := hps j p' hj
      exact ⟨n', c', h1, h2, x3.tup (s5 _ _ h3) eD5⟩
    · rw [List.getElem?_append_right (by omega)] at hj
      have hj1 := (List.getElem?_eq_some_iff.mp hj).1
      have j0 : j - ps.length = 0 := by simpa using hj1
      rw [j0] at hj
      injection hj with hj
      subst hj
      have : j = i := by omega
      subst this
      exact ⟨n, c, hn, hc, x3.tup e5 eD5⟩
  · rintro xs σ' H' ⟨v, rfl, ⟨ps, rfl, hl, hps⟩, eD, el, sx⟩
    have nl0 : D ≠ y.l := fun c => by rw [c, upd_same] at hD; cases hD
    have hD' : H D = none := by rw [upd_ne nl0] at hD; exact hD
    refine ⟨y.l, ob, nmK ns, nf, el, ?_⟩
    refine q D _ ps (fun b o e => ?_) hD' (by rw [upd_ne nl0]; exact eD) ⟨by rw [hl, nmK, List.length_map], fun j p' hj => ?_⟩
    rotate_left
    · obtain ⟨n', c', h1, h2, h3⟩ := hps j p' hj
      exact ⟨n', c', h1, h2, by rw [upd_ne (ne_of h3 el (fun z => nomatch z))]; exact h3⟩
    by_cases c : b = y.l
    · rw [c, upd_same]; rw [c, hy.l] at e; exact e
    · rw [upd_ne c]; exact sx b o e c
set_option maxHeartbeats 4000000 in
theorem ok_Yard_heap {f : Addr} {fd : FuncData} (F : Fun K "heap" "Yard.heap" s_Yard_heap f fd) (B : Bl mg) (X : Xs K mg cs)  : FnOk P w K mg base CX0 1 f fd ["self"] (sp_Yard_heap cs) := by
  refine F.ok (k := 0) sc_Yard_heap (fun vs H Q E h => ?_) (fun cdv A outer s H vs Q E hr h => ?_)
  · obtain ⟨y, d, tn, cl, ns, lg, rfl, hy, q⟩ := h
    rfl
  obtain ⟨y, d, tn, cl, ns, lg, rfl, hy, q⟩ := h
  refine ⟨_, (pss_one (ps_ret (pe_compD ["name"] [0] rfl (pi_dict (pe_fldK (K := K) rfl (pv 0) rfl)) (fun _ _ _ _ _ => (pg_name (i := 0) (show List.Nodup (α := Str) ["name", "self"] by decide +kernel) rfl (Or.inl rfl))) (fun _ _ _ _ _ => pifs_nil) (fun _ _ _ _ _ => (pe_ix (r := rIxL K) ix_list (pe_fldK (K := K) rfl (pv 1) rfl) (pv 0) (fun _ _ => rfl)))))), ?_⟩
  rw [show start ["self"] [.ref y.p] = [some (.ref y.p)] from rfl]
  refine i_ret ?_
  refine i_compD ?_
  repeat walk_at "rd"
  refine ⟨_, _, _, _, _, rfl, hy.o, X.c_Yard, X.n_Yard_lying, rfl, ?_⟩
  refine ⟨y.l, nmK ns, rfl, hy.l, fun ob nf D hD => comp_dict (d := y.l) (ob := ob) (kvs := nmK ns) (fun i xs σ' H' => ∃ v : Option V, σ' = [v, some (.ref y.p)] ∧ xs = (pick cl (ns.take i)).map Cell.v ∧ H' D = some (.lst xs) ∧ H' y.l = some (.frz ob (.dK (nmK ns))) ∧ ∀ b o, H b = some o → b ≠ y.l → H' b = some o) ?_ (fun i xs σ' H' _ z => by obtain ⟨_, _, _, _, z, _⟩ := z; exact z) ?_ ?_⟩
  · have nl : D ≠ y.l := fun c => by rw [c, upd_same] at hD; cases hD
    have hD' : H D = none := by rw [upd_ne nl] at hD; exact hD
    exact ⟨none, rfl, rfl, upd_same, by rw [upd_ne (Ne.symm nl), upd_same], fun b o e n => by rw [upd_ne (ne_of_none e hD'), upd_ne n]; exact e⟩
  · rintro i kv xs σ' H' hi ⟨v, rfl, rfl, eD, el, sx⟩
    have nl0 : D ≠ y.l := fun c => by rw [c, upd_same] at hD; cases hD
    have hD' : H D = none := by rw [upd_ne nl0] at hD; exact hD
    rw [nmK, List.getElem?_map] at hi
    obtain ⟨n, hn, rfl⟩ := Option.map_eq_some_iff.mp hi
    have hlt := hy.lt n (List.mem_of_getElem? hn)
    obtain ⟨c, hc⟩ : ∃ c, cl[n]? = some c := ⟨_, List.getElem?_eq_getElem hlt⟩
    have nl : ∀ {b : Addr} {o : HO}, H b = some o → (∀ k, o ≠ .dK k) → b ≠ y.l := fun e h z => by rw [z, hy.l] at e; injection e with e; exact h _ e.symm
    have eo := sx _ _ hy.o (nl hy.o (fun _ z => nomatch z))
    have ek := sx _ _ hy.k (nl hy.k (fun _ z => nomatch z))
    repeat walk_at "rd"
    refine ⟨_, _, _, _, _, rfl, eo, X.c_Yard, X.n_Yard_known, rfl, ?_⟩
    repeat walk_at "rd"
    refine i_ixL ek (v := c.v) (atI_nat (by rw [List.getElem?_map, hc]; rfl)) ?_
    have hi3 := (List.getElem?_eq_some_iff.mp hn).1
    have l1 := up_len hy.up hy.lt
    have l2 := hy.lc
    have l3 := pick_len (cl := cl) (ns := ns.take i)
    rw [List.length_take] at l3
    repeat walk_at "rd"
    refine i_append eD (by rw [List.length_map]; omega) fun H3 x3 e3 => ?_
    refine cnext (by simp only [nmK, List.length_map]; exact hi3) ⟨_, rfl, rfl, by rw [pick_take hn hc, List.map_append]; exact e3, x3 _ _ el (ne_of el eD (fun z => nomatch z)), fun b o e n => x3 _ _ (sx b o e n) (ne_of_none e hD')⟩
  · rintro xs σ' H' ⟨v, rfl, rfl, eD, el, sx⟩
    have nl0 : D ≠ y.l := fun c => by rw [c, upd_same] at hD; cases hD
    have hD' : H D = none := by rw [upd_ne nl0] at hD; exact hD
    refine ⟨y.l, ob, nmK ns, nf, el, ?_⟩
    rw [show ns.take (nmK ns).length = ns by rw [nmK, List.length_map, List.take_length]] at eD
    refine q D _ (fun b o e => ?_) hD' (by rw [upd_ne nl0]; exact eD)
    by_cases c : b = y.l
    · rw [c, upd_same]; rw [c, hy.l] at e; exact e
    · rw [upd_ne c]; exact sx b o e c
set_option maxHeartbeats 4000000 in
theorem ok_Yard_log {f : Addr} {fd : FuncData} (F : Fun K "log" "Yard.log" s_Yard_log f fd) (B : Bl mg) (X : Xs K mg cs)  : FnOk P w K mg base CX0 1 f fd ["self"] (sp_Yard_log cs) := by
  refine F.ok (k := 0) sc_Yard_log (fun vs H Q E h => ?_) (fun cdv A outer s H vs Q E hr h => ?_)
  · obtain ⟨y, d, tn, cl, ns, lg, rfl, hy, q⟩ := h
    rfl
  obtain ⟨y, d, tn, cl, ns, lg, rfl, hy, q⟩ := h
  refine ⟨_, (pss_one (ps_ret (pe_callTy call_lstR rfl B.list bt_list (pa_cons (pe_fldK (K := K) rfl (pv 0) rfl) pa_nil)))), ?_⟩
  rw [show start ["self"] [.ref y.p] = [some (.ref y.p)] from rfl]
  repeat walk_at "rd"
  refine ⟨_, _, _, _, _, rfl, hy.o, X.c_Yard, X.n_Yard_done, rfl, ?_⟩
  repeat walk_at "rd"
  exact ⟨y.t, lg, rfl, .inl (SqL.of hy.t), fun l hl => q l _ (same_upd hl _) hl upd_same⟩
set_option maxHeartbeats 4000000 in
theorem ok_length {f : Addr} {fd : FuncData} {its : List Value} (F : FunD K "length" "length" s_length f fd its) (B : Bl mg)  (o_with_sign_of : Own P w K mg base 1 "with_sign_of" ["divisor", "bottom"] [] sp_with_sign_of) (o_common_divisor : Own P w K mg base 1 "common_divisor" ["one", "other"] [] sp_common_divisor) (o_is_whole : Own P w K mg base 1 "is_whole" ["thing"] [] sp_is_whole) : FnOk P w K mg base CX0 2 f fd ["a", "b", "n"] sp_length := by
  refine F.ok (k := 1) sc_length (fun vs H Q E h => ?_) (fun cdv A outer s H vs Q E hr h => ?_)
  · obtain ⟨a, b, n, rfl, hn, hb, ⟨ha8, hb8⟩, q⟩ := h
    rfl
  obtain ⟨a, b, n, rfl, hn, hb, ⟨ha8, hb8⟩, q⟩ := h
  refine ⟨_, (pss_cons (ps_if (pt_not (PW.pt (pw_and (pt_val (pe_own o_is_whole hr rfl (pa_cons (pv 0) pa_nil))) (pw_and (pt_val (pe_own o_is_whole hr rfl (pa_cons (pv 1) pa_nil))) (pw_and1 (pt_val (pe_own o_is_whole hr rfl (pa_cons (pv 2) pa_nil)))))))) (pss_one ps_never) pss_nil) (pss_cons (ps_if (pt_cmpR op_eq (pv 2) pe_int (nomark _)) (pss_one ps_never) pss_nil) (pss_cons (ps_set (i := 3) sc_length.nd rfl (Or.inl rfl) (pe_own o_with_sign_of hr rfl (pa_cons (pe_own o_common_divisor hr rfl (pa_cons (pe_own o_common_divisor hr rfl (pa_cons (pv 2) (pa_cons (pv 0) pa_nil))) (pa_cons (pv 1) pa_nil))) (pa_cons (pv 2) pa_nil)))) (pss_one (ps_ret (pe_tup (pa_cons (pe_op op_fdivB (pv 0) (pv 3)) (pa_cons (pe_op op_fdivB (pv 1) (pv 3)) (pa_cons (pe_op op_fdivB (pv 2) (pv 3)) pa_nil))))))))), ?_⟩
  rw [show start ["a", "b", "n", "divisor"] [.int a, .int b, .int n] = [some (.int a), some (.int b), some (.int n), none] from rfl]
  have hc : ∀ x, CFd x (gd a b n) := fun x => ⟨gd_ne hn, Nat.lt_of_le_of_lt (gd_bd hn hb).log (by decide)⟩
  repeat walk_at "rd"
  refine if_d (fun c => absurd c hn) (fun _ => ?_)
  repeat walk_at "rd"
  · exact i_newT (by simp) fun p H' s e => q p H' s e
  all_goals exact hc _
set_option maxHeartbeats 4000000 in
theorem ok_added {f : Addr} {fd : FuncData} (F : Fun K "added" "added" s_added f fd) (B : Bl mg)  (o_common_divisor : Own P w K mg base 1 "common_divisor" ["one", "other"] [] sp_common_divisor) : FnOk P w K mg base CX0 2 f fd ["one", "other"] sp_added := by
  refine F.ok (k := 1) sc_added (fun vs H Q E h => ?_) (fun cdv A outer s H vs Q E hr h => ?_)
  · obtain ⟨p, p', x, y, z, x', y', z', rfl, h1, h2, n1, n2, k1, k2, ⟨b1, b2, b3, b4, b5, b6⟩, q⟩ := h
    rfl
  obtain ⟨p, p', x, y, z, x', y', z', rfl, h1, h2, n1, n2, k1, k2, ⟨b1, b2, b3, b4, b5, b6⟩, q⟩ := h
  refine ⟨_, (pss_cons (ps_set (i := 2) sc_added.nd rfl (Or.inl rfl) (pe_own o_common_divisor hr rfl (pa_cons (pe_ix ix_tup (pv 0) pe_int (fun _ _ => rfl)) (pa_cons (pe_ix ix_tup (pv 1) pe_int (fun _ _ => rfl)) pa_nil)))) (pss_cons (ps_set (i := 3) sc_added.nd rfl (Or.inl rfl) (pe_op op_fdivB (pe_ix ix_tup (pv 1) pe_int (fun _ _ => rfl)) (pv 2))) (pss_cons (ps_set (i := 4) sc_added.nd rfl (Or.inl rfl) (pe_op op_fdivB (pe_ix ix_tup (pv 0) pe_int (fun _ _ => rfl)) (pv 2))) (pss_cons (ps_set (i := 5) sc_added.nd rfl (Or.inl rfl) (pe_op op_add (pe_op op_mulB (pe_ix ix_tup (pv 0) pe_int (fun _ _ => rfl)) (pv 3)) (pe_op op_mulB (pe_ix ix_tup (pv 1) pe_int (fun _ _ => rfl)) (pv 4)))) (pss_cons (ps_set (i := 6) sc_added.nd rfl (Or.inl rfl) (pe_op op_add (pe_op op_mulB (pe_ix ix_tup (pv 0) pe_int (fun _ _ => rfl)) (pv 3)) (pe_op op_mulB (pe_ix ix_tup (pv 1) pe_int (fun _ _ => rfl)) (pv 4)))) (pss_cons (ps_set (i := 7) sc_added.nd rfl (Or.inl rfl) (pe_own o_common_divisor hr rfl (pa_cons (pe_own o_common_divisor hr rfl (pa_cons (pv 2) (pa_cons (pv 5) pa_nil))) (pa_cons (pv 6) pa_nil)))) (pss_one (ps_ret (pe_tup (pa_cons (pe_op op_fdivB (pv 5) (pv 7)) (pa_cons (pe_op op_fdivB (pv 6) (pv 7)) (pa_cons (pe_op op_mulB (pv 4) (pe_op op_fdivB (pe_ix ix_tup (pv 1) pe_int (fun _ _ => rfl)) (pv 7))) pa_nil)))))))))))), ?_⟩
  rw [show start ["one", "other", "shared", "ahead", "behind", "a", "b", "left"] [.ref p, .ref p'] = [some (.ref p), some (.ref p'), none, none, none, none, none, none] from rfl]
  obtain ⟨as1, al1, ea, eb, en⟩ := add_low n1 n2 k1 k2
  have gb : Bd 3900 (aS z z') := gcd_bdl (by omega) b3
  have lb : Bd 3900 (aL x y z x' y' z') := gcd_bdl (by have := Int.gcd_pos_of_ne_zero_left (aA x z x' z') (show aS z z' ≠ 0 by omega); omega) (gcd_bdl (by omega) gb)
  have ba8 : Bd 8192 (aA x z x' z') := Bd.mono (Bd.add (k := 7800) (b1.mul (b6.fdiv _)) (b4.mul (b3.fdiv _))) (by decide)
  have bb8 : Bd 8192 (aA y z y' z') := Bd.mono (Bd.add (k := 7800) (b2.mul (b6.fdiv _)) (b5.mul (b3.fdiv _))) (by decide)
  have hs : ∀ t, CFd t (aS z z') := fun t => ⟨by omega, Nat.lt_of_le_of_lt gb.log (by decide)⟩
  have hl : ∀ t, CFd t (aL x y z x' y' z') := fun t => ⟨by omega, Nat.lt_of_le_of_lt lb.log (by decide)⟩
  rw [← ea, ← eb, ← en] at q
  repeat walk_at "rd"
  · exact i_newT (by simp) fun r H' s e => q r H' s e
  all_goals first | exact hs _ | exact hl _
set_option maxHeartbeats 4000000 in
theorem ok_under {f : Addr} {fd : FuncData} (F : Fun K "under" "under" s_under f fd) (B : Bl mg)  (o_is_above_nought : Own P w K mg base 1 "is_above_nought" ["d", "a", "b"] [] sp_is_above_nought) : FnOk P w K mg base CX0 2 f fd ["d", "one", "other"] (sp_under K) := by
  refine F.ok (k := 1) sc_under (fun vs H Q E h => ?_) (fun cdv A outer s H vs Q E hr h => ?_)
  · obtain ⟨d, p, p', x, y, z, x', y', z', rfl, h1, h2, hd, ⟨b1, b2, b3, b4, b5, b6⟩, q⟩ := h
    rfl
  obtain ⟨d, p, p', x, y, z, x', y', z', rfl, h1, h2, hd, ⟨b1, b2, b3, b4, b5, b6⟩, q⟩ := h
  refine ⟨_, (pss_one (ps_ret (pe_own o_is_above_nought hr rfl (pa_cons (pv 0) (pa_cons (pe_op op_sub (pe_op op_mulB (pe_ix ix_tup (pv 2) pe_int (fun _ _ => rfl)) (pe_ix ix_tup (pv 1) pe_int (fun _ _ => rfl))) (pe_op op_mulB (pe_ix ix_tup (pv 1) pe_int (fun _ _ => rfl)) (pe_ix ix_tup (pv 2) pe_int (fun _ _ => rfl)))) (pa_cons (pe_op op_sub (pe_op op_mulB (pe_ix ix_tup (pv 2) pe_int (fun _ _ => rfl)) (pe_ix ix_tup (pv 1) pe_int (fun _ _ => rfl))) (pe_op op_mulB (pe_ix ix_tup (pv 1) pe_int (fun _ _ => rfl)) (pe_ix ix_tup (pv 2) pe_int (fun _ _ => rfl)))) pa_nil)))))), ?_⟩
  rw [show start ["d", "one", "other"] [.int d, .ref p, .ref p'] = [some (.int d), some (.ref p), some (.ref p')] from rfl]
  repeat walk_at "rd"
  exact c_is_above_nought hd (Bd.mono (by walk_at "bd") (by decide +kernel)) (Bd.mono (by walk_at "bd") (by decide +kernel)) q
theorem dig {ds : List Int} {m : Int} (hl : (ds.length : Int) = m) (hd : ∀ x ∈ ds, 0 ≤ x ∧ x < 1000000) (i : Int) (h0 : 0 ≤ i) (h1 : i < m) : ∃ x : Int, atI (ds.map V.int) i = some (.int x) ∧ 0 ≤ x ∧ x < 1000000 := by
  obtain ⟨x, hx, e⟩ := atI_in (xs := ds) (i := i) h0 (by omega)
  exact ⟨x, e, hd x hx⟩
set_option maxHeartbeats 4000000 in
theorem ok__law_digits {f : Addr} {fd : FuncData} (F : Fun K "_law_digits" "_law_digits" s__law_digits f fd) (B : Bl mg)  (o__law_great : Own P w K mg base 1 "_law_great" ["_law_cell_here", "_law_k"] [] sp__law_great) : FnOk P w K mg base CX0 2 f fd ["_law_cell_here", "_law_many"] sp__law_digits := by
  refine F.ok (k := 1) sc__law_digits (fun vs H Q E h => ?_) (fun cdv A outer s H vs Q E hr h => ?_)
  · obtain ⟨c, m, rfl, hc, ⟨m0, m1⟩, q⟩ := h
    rfl
  obtain ⟨c, m, rfl, hc, ⟨m0, m1⟩, q⟩ := h
  refine ⟨_, (pss_cons (ps_set (i := 2) sc__law_digits.nd rfl (Or.inl rfl) (pe_lst pa_nil)) (pss_cons (ps_set (i := 3) sc__law_digits.nd rfl (Or.inl rfl) (pe_op op_fdivP (pv 0) pe_int)) (pss_cons (ps_for PassesOwn.never rfl (pi_range1 rfl B.range (pa_cons (pv 1) pa_nil)) (pg_name (i := 4) sc__law_digits.nd rfl (Or.inl rfl)) (pss_one (ps_if (PW.pt (pw_and (pt_cmpR op_eq (pe_op op_mod (pv 0) pe_int) pe_int (nomark _)) (pw_and1 (pt_cmpR op_gt (pv 3) pe_int (nomark _))))) (pss_cons (ps_expr (pe_bm PySem.F.plainAttrs_list PySem.F.slot_list_append PySem.F.type_list_append mt_append (pv 2) (pa_cons (pe_op op_mod (pv 3) (pe_op op_powB pe_int pe_int)) pa_nil))) (pss_one (ps_set (i := 3) sc__law_digits.nd rfl (Or.inl rfl) (pe_op op_fdivP (pv 3) (pe_op op_powB pe_int pe_int))))) (pss_one (ps_expr (pe_bm PySem.F.plainAttrs_list PySem.F.slot_list_append PySem.F.type_list_append mt_append (pv 2) (pa_cons (pe_op op_mod (pe_own o__law_great hr rfl (pa_cons (pv 0) (pa_cons (pv 4) pa_nil))) (pe_op op_powB pe_int pe_int)) pa_nil))))))) (pss_one (ps_ret (pv 2)))))), ?_⟩
  rw [show start ["_law_cell_here", "_law_many", "_law_found", "_law_number", "_law_k"] [.int c, .int m] = [some (.int c), some (.int m), none, none, none] from rfl]
  have e6 : (10 : Int) ^ (6 : Int).toNat = 1000000 := by decide +kernel
  repeat walk_at "rd"
  refine i_newLf (by simp) fun l H1 hl s1 e1 => ?_
  repeat walk_at "rd"
  refine i_forR1 ?_
  repeat walk_at "rd"
  refine ⟨m, rfl, by omega, by omega, for_range (lo := 0) (n := m.toNat) (fun i σ H' => ∃ (n : Int) (v : Option V) (ds : List Int), σ = [some (.int c), some (.int m), some (.ref l), some (.int n), v] ∧ SameX l H1 H' ∧ H' l = some (.lst (ds.map V.int)) ∧ ds.length = i ∧ (∀ x ∈ ds, 0 ≤ x ∧ x < 1000000) ∧ Bd 1048576 n) ⟨_, _, [], rfl, fun b o e _ => e, e1, rfl, fun x hx => absurd hx (by simp), bd_ediv hc⟩ ?_ ?_⟩
  · rintro i σ H' hi ⟨n, v, ds, rfl, sx, el, hlen, hds, nb⟩
    repeat walk_at "rd"
    refine if_d (fun c1 => ?_) (fun c1 => ?_)
    · repeat walk_at "rd"
      refine if_d (fun c2 => ?_) (fun c2 => ?_)
      · repeat walk_at "rd"
        rw [e6]
        refine i_append el (by rw [List.length_map]; omega) fun H2 sx2 e2 => ?_
        repeat walk_at "rd"
        rw [e6]
        refine ⟨n / 1000000, _, ds ++ [n % 1000000], rfl, sx.trans sx2, by rw [List.map_append]; exact e2, by rw [List.length_append, hlen]; rfl, fun x hx => ?_, bd_ediv nb⟩
        rcases List.mem_append.mp hx with h | h
        · exact hds x h
        · have : x = n % 1000000 := by simpa using h
          subst this
          omega
      · repeat walk_at "rd"
        refine c__law_great hc (bd_small 64 (by omega) (by omega) (by decide)) fun r r0 r1 => ?_
        repeat walk_at "rd"
        rw [e6]
        refine i_append el (by rw [List.length_map]; omega) fun H2 sx2 e2 => ?_
        repeat walk_at "rd"
        refine ⟨n, _, ds ++ [r % 1000000], rfl, sx.trans sx2, by rw [List.map_append]; exact e2, by rw [List.length_append, hlen]; rfl, fun x hx => ?_, nb⟩
        rcases List.mem_append.mp hx with h | h
        · exact hds x h
        · have : x = r % 1000000 := by simpa using h
          subst this
          omega
    · repeat walk_at "rd"
      refine c__law_great hc (bd_small 64 (by omega) (by omega) (by decide)) fun r r0 r1 => ?_
      repeat walk_at "rd"
      rw [e6]
      refine i_append el (by rw [List.length_map]; omega) fun H2 sx2 e2 => ?_
      repeat walk_at "rd"
      refine ⟨n, _, ds ++ [r % 1000000], rfl, sx.trans sx2, by rw [List.map_append]; exact e2, by rw [List.length_append, hlen]; rfl, fun x hx => ?_, nb⟩
      rcases List.mem_append.mp hx with h | h
      · exact hds x h
      · have : x = r % 1000000 := by simpa using h
        subst this
        omega
  · rintro σ H' ⟨n, v, ds, rfl, sx, el, hlen, hds, nb⟩
    repeat walk_at "rd"
    exact q l H' ds (fun b o e => sx b o (s1 b o e) (ne_of_none e hl)) el (by omega) hds
set_option maxHeartbeats 4000000 in
theorem ok__law_lowest {f : Addr} {fd : FuncData} (F : Fun K "_law_lowest" "_law_lowest" s__law_lowest f fd) (B : Bl mg)  (o__law_divisor : Own P w K mg base 1 "_law_divisor" ["_law_one", "_law_other"] [] sp__law_divisor) : FnOk P w K mg base CX0 2 f fd ["_law_a", "_law_b", "_law_n"] sp__law_lowest := by
  refine F.ok (k := 1) sc__law_lowest (fun vs H Q E h => ?_) (fun cdv A outer s H vs Q E hr h => ?_)
  · obtain ⟨a, b, n, rfl, hn, hb, q⟩ := h
    rfl
  obtain ⟨a, b, n, rfl, hn, hb, q⟩ := h
  refine ⟨_, (pss_cons (ps_set (i := 3) sc__law_lowest.nd rfl (Or.inl rfl) (pe_own o__law_divisor hr rfl (pa_cons (pe_own o__law_divisor hr rfl (pa_cons (pv 0) (pa_cons (pv 1) pa_nil))) (pa_cons (pv 2) pa_nil)))) (pss_cons (ps_cut (ps_if (pt_cmpR op_lt (pv 2) pe_int (nomark _)) (pss_one (ps_set (i := 3) sc__law_lowest.nd rfl (Or.inl rfl) (pe_op op_sub pe_int (pv 3)))) pss_nil)) (pss_one (ps_ret (pe_tup (pa_cons (pe_op op_fdivB (pv 0) (pv 3)) (pa_cons (pe_op op_fdivB (pv 1) (pv 3)) (pa_cons (pe_op op_fdivB (pv 2) (pv 3)) pa_nil)))))))), ?_⟩
  rw [show start ["_law_a", "_law_b", "_law_n", "_law_share_here"] [.int a, .int b, .int n] = [some (.int a), some (.int b), some (.int n), none] from rfl]
  have hc : ∀ x, CFd x (gd a b n) := fun x => ⟨gd_ne hn, Nat.lt_of_le_of_lt (gd_bd hn hb).log (by decide)⟩
  repeat walk_at "rd"
  refine i_cut (T := fun σ' H' => σ' = [some (.int a), some (.int b), some (.int n), some (.int (gd a b n))] ∧ H' = H) ?_ ?_
  · repeat walk_at "rd"
    refine if_d (fun c => ?_) (fun c => ?_)
    · repeat walk_at "rd"
      refine ⟨?_, rfl⟩
      have e : (0 : Int) - ((Int.gcd (Int.gcd a b) n : Nat) : Int) = gd a b n := by
        unfold gd
        rw [if_pos c, g3_eq]
        omega
      rw [e]
    · repeat walk_at "rd"
      refine ⟨?_, rfl⟩
      have e : ((Int.gcd (Int.gcd a b) n : Nat) : Int) = gd a b n := by
        unfold gd
        rw [if_neg c, g3_eq]
      rw [e]
  rintro σ' H' ⟨rfl, rfl⟩
  repeat walk_at "rd"
  · exact i_newT (by simp) fun p H' s e => q p H' s e
  all_goals exact hc _
set_option maxHeartbeats 4000000 in
theorem ok__law_root {f : Addr} {fd : FuncData} (F : Fun K "_law_root" "_law_root" s__law_root f fd) (B : Bl mg)  (o__law_great : Own P w K mg base 1 "_law_great" ["_law_cell_here", "_law_k"] [] sp__law_great) : FnOk P w K mg base CX0 2 f fd ["_law_cell_here", "_law_k"] sp__law_root := by
  refine F.ok (k := 1) sc__law_root (fun vs H Q E h => ?_) (fun cdv A outer s H vs Q E hr h => ?_)
  · obtain ⟨c, k, rfl, hc, hk, q⟩ := h
    rfl
  obtain ⟨c, k, rfl, hc, hk, q⟩ := h
  refine ⟨_, (pss_cons (ps_setC (i := 2) sc__law_root.nd rfl rfl ["_law_d"] [] rfl (pi_range2 rfl B.range (pa_cons pe_int (pa_cons pe_int pa_nil))) (fun _ _ _ _ _ => (pg_name (i := 0) (show List.Nodup (α := Str) ["_law_d"] by decide +kernel) rfl (Or.inl rfl))) (fun _ _ _ _ _ => (pifs_one (pt_cmpR (r := rIn K true) op_notIn_seq (pv 0) (pe_tup (pa_cons pe_int (pa_cons pe_int (pa_cons pe_int (pa_cons pe_int (pa_cons pe_int (pa_cons pe_int (pa_cons pe_int (pa_cons pe_int pa_nil))))))))) (by with_unfolding_all rfl)))) (fun _ _ _ _ _ => (pv 0))) (pss_one (ps_ret (pe_ix ix_list (pv 2) (pe_op op_mod (pe_op op_fdivP (pe_own o__law_great hr rfl (pa_cons (pv 0) (pa_cons (pv 1) pa_nil))) pe_int) (pe_callB call_lenR rfl B.len PySem.boot_len (pa_cons (pv 2) pa_nil))) (fun _ _ => rfl))))), ?_⟩
  rw [show start ["_law_cell_here", "_law_k", "_law_some"] [.int c, .int k] = [some (.int c), some (.int k), none] from rfl]
  repeat walk_at "rd"
  refine i_compR2 ?_
  repeat walk_at "rd"
  refine ⟨2, 100, rfl, by decide, fun D hD => comp_range (fun i xs σ' H' => (∃ v, σ' = [v]) ∧ xs = (rootsTo i).map V.int ∧ H' D = some (.lst xs) ∧ SameX D H H') ⟨⟨none, rfl⟩, rfl, upd_same, fun b o e n => by rw [upd_ne n]; exact e⟩ ?_ ?_⟩
  · rintro i xs σ' H' hi ⟨⟨v, rfl⟩, rfl, eD, sx⟩
    have hi : i < 98 := hi
    repeat walk_at "rd"
    refine i_newT (by simp) fun p H2 s2 e2 => ?_
    refine i_notinT e2 rfl rfl ?_
    rw [inV_sqs]
    repeat walk_at "rd"
    have hlen : (rootsTo i).length ≤ i := Nat.le_trans (List.length_filter_le ..) (by simp)
    by_cases hs : sqs.contains ((2 : Int) + (i : Int)) = true
    · rw [hs]
      repeat walk_at "rd"
      refine cnext hi ⟨⟨_, rfl⟩, rfl, ?_, sx.trans (s2.sameX D)⟩
      rw [rootsTo_succ, if_pos hs, List.append_nil]
      exact s2 _ _ eD
    · rw [Bool.not_eq_true _ |>.mp hs]
      repeat walk_at "rd"
      refine i_append (s2 _ _ eD) (by rw [List.length_map]; omega) fun H3 sx3 e3 => ?_
      refine cnext hi ⟨⟨_, rfl⟩, rfl, ?_, (sx.trans (s2.sameX D)).trans sx3⟩
      rw [rootsTo_succ, if_neg hs, List.map_append]
      exact e3
  · rintro xs σ' H' ⟨_, rfl, eD, sx⟩
    have eD : H' D = some (.lst ((rootsTo 98).map V.int)) := eD
    have s' : Same H H' := fun b o e => sx b o e (ne_of_none e hD)
    repeat walk_at "rd"
    refine c__law_great hc hk fun r r0 r1 => ?_
    repeat walk_at "rd"
    have hl : ((List.map V.int (rootsTo 98)).length : Int) = 90 := by rw [List.length_map, roots_len]; rfl
    rw [hl]
    repeat walk_at "rd"
    obtain ⟨d, hd, e⟩ := atI_in (xs := rootsTo 98) (i := r / 7 % 90) (by omega) (by rw [roots_len]; omega)
    exact i_ixL eD e (q d H' (rootsTo_rt (Nat.le_refl _) hd) s')
set_option maxHeartbeats 4000000 in
theorem ok__law_is_length {f : Addr} {fd : FuncData} (F : Fun K "_law_is_length" "_law_is_length" s__law_is_length f fd) (B : Bl mg)  (o__law_whole : Own P w K mg base 1 "_law_whole" ["_law_found"] [] sp__law_whole) : FnOk P w K mg base CX0 2 f fd ["_law_found"] sp__law_is_length := by
  refine F.ok (k := 1) sc__law_is_length (fun vs H Q E h => ?_) (fun cdv A outer s H vs Q E hr h => ?_)
  · obtain ⟨p, s, rfl, h1, q⟩ := h
    rfl
  obtain ⟨p, s, rfl, h1, q⟩ := h
  refine ⟨_, (pss_cons (ps_if (PW.pt (pw_or (pt_not (pt_val (pe_callB call_isinst rfl B.isinstance bt_isinstance (pa_cons (pv 0) (pa_cons (pe_bltn (v := .ty "tuple") rfl B.tuple bt_tuple rfl) pa_nil))))) (pw_or1 (pt_cmpR op_ne (pe_callB call_lenR rfl B.len PySem.boot_len (pa_cons (pv 0) pa_nil)) pe_int (nomark _))))) (pss_one (ps_ret pe_bl)) pss_nil) (pss_one (ps_ret (pe_and (pe_own o__law_whole hr rfl (pa_cons (pe_ix ix_tup (pv 0) pe_int (fun _ _ => rfl)) pa_nil)) (pe_and (pe_own o__law_whole hr rfl (pa_cons (pe_ix ix_tup (pv 0) pe_int (fun _ _ => rfl)) pa_nil)) (pe_one (pe_own o__law_whole hr rfl (pa_cons (pe_ix ix_tup (pv 0) pe_int (fun _ _ => rfl)) pa_nil)))))))), ?_⟩
  rw [show start ["_law_found"] [.ref p] = [some (.ref p)] from rfl]
  have h1' : H p = some (.tup [.int s.x, .int s.y, .int s.z]) := h1
  repeat walk_at "rd"
  refine if_ne (by rfl) ?_
  repeat walk_at "rd"
  exact q
set_option maxHeartbeats 4000000 in
theorem ok_Yard_check_names {f : Addr} {fd : FuncData} (F : Fun K "check_names" "Yard.check_names" s_Yard_check_names f fd) (B : Bl mg) (X : Xs K mg cs) (o_is_whole : Own P w K mg base 1 "is_whole" ["thing"] [] sp_is_whole) : FnOk P w K mg base CX0 2 f fd ["self", "names"] (sp_Yard_check_names cs) := by
  refine F.ok (k := 1) sc_Yard_check_names (fun vs H Q E h => ?_) (fun cdv A outer s H vs Q E hr h => ?_)
  · obtain ⟨y, d, tn, cl, ns, lg, a, ms, rfl, hy, ha, hm, hn, hl, q⟩ := h
    rfl
  obtain ⟨y, d, tn, cl, ns, lg, a, ms, rfl, hy, ha, hm, hn, hl, q⟩ := h
  refine ⟨_, (pss_cons (ps_for PassesOwn.never rfl (pi_list (pv 1)) (pg_name (i := 2) sc_Yard_check_names.nd rfl (Or.inl rfl)) (pss_one (ps_if (PW.pt (pw_or (pt_not (pt_val (pe_own o_is_whole hr rfl (pa_cons (pv 2) pa_nil)))) (pw_or1 (pt_cmp (pc_dnotin (hu_of hr) (pv 2) (pe_fldK (K := K) rfl (pv 0) rfl)))))) (pss_one ps_never) pss_nil))) (pss_one (ps_if (PW.pt (pw_and (pt_cmpR op_eq (pe_callB call_lenR rfl B.len PySem.boot_len (pa_cons (pv 1) pa_nil)) pe_int (nomark _)) (pw_and1 (pt_cmpR op_eq (pe_ix ix_list (pv 1) pe_int (fun _ _ => rfl)) (pe_ix ix_list (pv 1) pe_int (fun _ _ => rfl)) (nomark _))))) (pss_one ps_never) pss_nil))), ?_⟩
  rw [show start ["self", "names", "name"] [.ref y.p, .ref a] = [some (.ref y.p), some (.ref a), none] from rfl]
  refine i_seq ?_
  refine i_forL ?_
  repeat walk_at "rd"
  refine ⟨a, rfl, ⟨_, SqL.of ha⟩, for_list (K := K) (a := a) (xs := ms.map V.int) (fun i σ H' => ∃ v, σ = [some (.ref y.p), some (.ref a), v] ∧ H' = H) ⟨none, rfl, rfl⟩ (fun i σ H' _ ⟨_, _, e⟩ => by rw [e]; exact SqL.of ha) ?_ ?_⟩
  · rintro i x σ H' hi ⟨v, rfl, rfl⟩
    obtain ⟨m, hm', rfl⟩ := List.mem_map.mp (List.mem_of_getElem? hi)
    obtain ⟨n, hn', rfl⟩ := hm m hm'
    repeat walk_at "rd"
    refine ⟨_, _, _, _, _, rfl, hy.o, X.c_Yard, X.n_Yard_lying, rfl, ?_⟩
    refine ⟨y.l, _, rfl, DGet.k (k := .inl (n : Int)) hy.l, ?_⟩
    rw [valV_nmK hn', show (!(some (V.bl true)).isSome) = false from rfl]
    repeat walk_at "rd"
    exact ⟨_, rfl, rfl⟩
  · rintro σ H' ⟨v, rfl, rfl⟩
    repeat walk_at "rd"
    rcases ms with _ | ⟨m1, _ | ⟨m2, _ | ⟨m3, ms⟩⟩⟩
    · refine if_d (fun c => absurd c (by simp)) (fun _ => ?_)
      repeat walk_at "rd"
      exact q
    · refine if_d (fun c => absurd c (by simp)) (fun _ => ?_)
      repeat walk_at "rd"
      exact q
    · have ha : H' a = some (.lst [.int m1, .int m2]) := ha
      refine if_d (fun _ => ?_) (fun c => absurd (by simp) c)
      repeat walk_at "rd"
      have ne : m1 ≠ m2 := by simpa using hn
      refine if_d (fun c => absurd c ne) (fun _ => ?_)
      repeat walk_at "rd"
      exact q
    · simp at hl
set_option maxHeartbeats 4000000 in
theorem ok_taken {f : Addr} {fd : FuncData} (F : Fun K "taken" "taken" s_taken f fd) (B : Bl mg)  (o_added : Own P w K mg base 2 "added" ["one", "other"] [] sp_added) : FnOk P w K mg base CX0 3 f fd ["one", "other"] sp_taken := by
  refine F.ok (k := 2) sc_taken (fun vs H Q E h => ?_) (fun cdv A outer s H vs Q E hr h => ?_)
  · obtain ⟨p, p', x, y, z, x', y', z', rfl, h1, h2, n1, n2, k1, k2, ⟨b1, b2, b3, b4, b5, b6⟩, q⟩ := h
    rfl
  obtain ⟨p, p', x, y, z, x', y', z', rfl, h1, h2, n1, n2, k1, k2, ⟨b1, b2, b3, b4, b5, b6⟩, q⟩ := h
  refine ⟨_, (pss_one (ps_ret (pe_own o_added hr rfl (pa_cons (pv 0) (pa_cons (pe_tup (pa_cons (pe_un un_neg (pe_ix ix_tup (pv 1) pe_int (fun _ _ => rfl))) (pa_cons (pe_un un_neg (pe_ix ix_tup (pv 1) pe_int (fun _ _ => rfl))) (pa_cons (pe_ix ix_tup (pv 1) pe_int (fun _ _ => rfl)) pa_nil)))) pa_nil))))), ?_⟩
  rw [show start ["one", "other"] [.ref p, .ref p'] = [some (.ref p), some (.ref p')] from rfl]
  repeat walk_at "rd"
  refine i_newT (by simp) fun t H2 s2 e2 => ?_
  repeat walk_at "rd"
  exact c_added (s2 _ _ h1) e2 n1 n2 k1 (by rw [g3_neg]; exact k2) b1 b2 b3 b4.neg b5.neg b6 fun r H' s' e' => q r H' (s2.trans s') e'
set_option maxHeartbeats 4000000 in
theorem ok_is_length {f : Addr} {fd : FuncData} (F : Fun K "is_length" "is_length" s_is_length f fd) (B : Bl mg)  (o_length : Own P w K mg base 2 "length" ["a", "b", "n"] [] sp_length) (o_is_whole : Own P w K mg base 1 "is_whole" ["thing"] [] sp_is_whole) : FnOk P w K mg base CX0 3 f fd ["thing"] sp_is_length := by
  refine F.ok (k := 2) sc_is_length (fun vs H Q E h => ?_) (fun cdv A outer s H vs Q E hr h => ?_)
  · obtain ⟨p, s, rfl, h1, ok, q⟩ := h
    rfl
  obtain ⟨p, s, rfl, h1, ok, q⟩ := h
  refine ⟨_, (pss_cons (ps_if (PW.pt (pw_or (pt_not (pt_val (pe_callB call_isinst rfl B.isinstance bt_isinstance (pa_cons (pv 0) (pa_cons (pe_bltn (v := .ty "tuple") rfl B.tuple bt_tuple rfl) pa_nil))))) (pw_or1 (pt_cmpR op_ne (pe_callB call_lenR rfl B.len PySem.boot_len (pa_cons (pv 0) pa_nil)) pe_int (nomark _))))) (pss_one (ps_ret pe_bl)) pss_nil) (pss_cons (ps_if (PW.pt (pw_or (pt_not (pt_val (pe_callB (call_allL rfl) rfl B.all bt_all (pa_cons (pe_comp ["number"] [] rfl (pi_tup (pv 0)) (fun _ _ _ _ _ => (pg_name (i := 0) (show List.Nodup (α := Str) ["number"] by decide +kernel) rfl (Or.inl rfl))) (fun _ _ _ _ _ => pifs_nil) (fun _ _ _ _ _ => (pe_own o_is_whole hr rfl (pa_cons (pv 0) pa_nil)))) pa_nil)))) (pw_or1 (pt_cmpR op_lt (pe_ix ix_tup (pv 0) pe_int (fun _ _ => rfl)) pe_int (nomark _))))) (pss_one (ps_ret pe_bl)) pss_nil) (pss_one (ps_ret (pe_cmpR (op_eqT hr.units) (pe_own o_length hr rfl (pa_cons (pe_ix ix_tup (pv 0) pe_int (fun _ _ => rfl)) (pa_cons (pe_ix ix_tup (pv 0) pe_int (fun _ _ => rfl)) (pa_cons (pe_ix ix_tup (pv 0) pe_int (fun _ _ => rfl)) pa_nil)))) (pv 0) (nomark _)))))), ?_⟩
  rw [show start ["thing"] [.ref p] = [some (.ref p)] from rfl]
  have z1 := ok.z1
  repeat walk_at "rd"
  refine if_ne (by rfl) ?_
  repeat walk_at "rd"
  refine i_compT ?_
  repeat walk_at "rd"
  refine ⟨p, rfl, ⟨_, SqT.of h1⟩, fun D hD => comp_tup (ys := [V.int s.x, V.int s.y, V.int s.z]) (fun i ys σ' H' => (∃ v, σ' = [v]) ∧ ys = ([V.int s.x, V.int s.y, V.int s.z].take i).map (fun _ => V.bl true) ∧ H' D = some (.lst ys) ∧ SameX D H H') ⟨⟨none, rfl⟩, rfl, upd_same, fun b o e n => by rw [upd_ne n]; exact e⟩ (fun i ys σ' H' _ p => SqT.of (p.2.2.2 _ _ h1 (ne_of_none h1 hD))) ?_ ?_⟩
  · rintro i x ys σ' H' hi ⟨⟨v, rfl⟩, rfl, eD, sx⟩
    obtain ⟨n, rfl⟩ : ∃ n : Int, x = .int n := by
      have := List.mem_of_getElem? hi
      simp only [List.mem_cons, List.not_mem_nil, or_false] at this
      rcases this with rfl | rfl | rfl <;> exact ⟨_, rfl⟩
    have hi3 := (List.getElem?_eq_some_iff.mp hi).1
    repeat walk_at "rd"
    refine i_append eD (by rw [List.length_map, List.length_take]; simp only [List.length_cons, List.length_nil] at hi3 ⊢; omega) fun H3 sx3 e3 => ?_
    refine cnext hi3 ⟨⟨_, rfl⟩, rfl, ?_, sx.trans sx3⟩
    rw [List.take_succ, hi, List.map_append]
    exact e3
  · rintro ys σ' H' ⟨_, rfl, eD, sx⟩
    have s' : Same H H' := fun b o e => sx b o e (ne_of_none e hD)
    have h1' := s' _ _ h1
    have eD' : H' D = some (.lst ([true, true, true].map V.bl)) := eD
    repeat walk_at "rd"
    refine i_allB (SqL.of eD') ?_
    rw [show ([true, true, true] : List Bool).all id = true from rfl]
    repeat walk_at "rd"
    refine if_d (fun c => absurd c (by omega)) (fun _ => ?_)
    repeat walk_at "rd"
    refine c_length rfl ok.ne (ok.bz.mono (by decide)) (fun r H2 s2 e2 => ?_) (ok.bx.mono (by decide)) (ok.by'.mono (by decide))
    repeat walk_at "rd"
    refine i_eq3 e2 (s2 _ _ h1') ?_
    exact bl_q (decide_eq_true (low_self ok.z1 ok.g)) (q H2 (s'.trans s2))
set_option maxHeartbeats 4000000 in
theorem ok_glued_beside {f : Addr} {fd : FuncData} (F : Fun K "glued_beside" "glued_beside" s_glued_beside f fd) (B : Bl mg)  (o_added : Own P w K mg base 2 "added" ["one", "other"] [] sp_added) : FnOk P w K mg base CX0 3 f fd ["one", "other"] sp_glued_beside := by
  refine F.ok (k := 2) sc_glued_beside (fun vs H Q E h => ?_) (fun cdv A outer s H vs Q E hr h => ?_)
  · obtain ⟨c, c', rfl, hc, hc', eh, okw, oks, q⟩ := h
    rfl
  obtain ⟨c, c', rfl, hc, hc', eh, okw, oks, q⟩ := h
  refine ⟨_, (pss_cons (ps_if (pt_cmpR (op_neT hr.units) (pe_ix ix_tup (pv 0) pe_int (fun _ _ => rfl)) (pe_ix ix_tup (pv 1) pe_int (fun _ _ => rfl)) (nomark _)) (pss_one ps_never) pss_nil) (pss_one (ps_ret (pe_tup (pa_cons (pe_own o_added hr rfl (pa_cons (pe_ix ix_tup (pv 0) pe_int (fun _ _ => rfl)) (pa_cons (pe_ix ix_tup (pv 1) pe_int (fun _ _ => rfl)) pa_nil))) (pa_cons (pe_ix ix_tup (pv 0) pe_int (fun _ _ => rfl)) pa_nil)))))), ?_⟩
  rw [show start ["one", "other"] [.ref c.p, .ref c'.p] = [some (.ref c.p), some (.ref c'.p)] from rfl]
  have ct := hc.t
  have ct' := hc'.t
  have cw : H c.pw = some (.tup [.int c.b.w.x, .int c.b.w.y, .int c.b.w.z]) := hc.w
  have cw' : H c'.pw = some (.tup [.int c'.b.w.x, .int c'.b.w.y, .int c'.b.w.z]) := hc'.w
  have ch : H c.ph = some (.tup [.int c.b.h.x, .int c.b.h.y, .int c.b.h.z]) := hc.h
  have ch' : H c'.ph = some (.tup [.int c'.b.h.x, .int c'.b.h.y, .int c'.b.h.z]) := hc'.h
  repeat walk_at "rd"
  refine i_ne3 ch ch' ?_
  rw [eh]
  repeat walk_at "rd"
  refine if_nd (fun c => absurd ⟨rfl, rfl, rfl⟩ c) (fun _ => ?_)
  repeat walk_at "rd"
  refine c_added cw cw' okw.z1 oks.z1 okw.g oks.g (okw.bx.mono (by decide)) (okw.by'.mono (by decide)) (okw.bz.mono (by decide)) (oks.bx.mono (by decide)) (oks.by'.mono (by decide)) (oks.bz.mono (by decide)) fun r2 H2 s2 e2 => ?_
  have ct2 := s2 _ _ ct
  repeat walk_at "rd"
  refine i_newTf (by simp) fun r3 H3 hr3 s3 e3 => ?_
  exact q ⟨r3, r2, c.ph, ⟨adS c.b.w c'.b.w, c.b.h⟩⟩ H3 (s2.trans s3) (Same.nn s2 hr3) ⟨e3, s3 _ _ e2, s3 _ _ (s2 _ _ hc.h)⟩ rfl
set_option maxHeartbeats 4000000 in
theorem ok_stacked {f : Addr} {fd : FuncData} (F : Fun K "stacked" "stacked" s_stacked f fd) (B : Bl mg)  (o_length : Own P w K mg base 2 "length" ["a", "b", "n"] [] sp_length) : FnOk P w K mg base CX0 3 f fd ["one", "many"] sp_stacked := by
  refine F.ok (k := 2) sc_stacked (fun vs H Q E h => ?_) (fun cdv A outer s H vs Q E hr h => ?_)
  · obtain ⟨c, k, rfl, hc, k1, bk, okw, okh, q⟩ := h
    rfl
  obtain ⟨c, k, rfl, hc, k1, bk, okw, okh, q⟩ := h
  refine ⟨_, (pss_cons (ps_set (i := 2) sc_stacked.nd rfl (Or.inl rfl) (pe_ix ix_tup (pv 0) pe_int (fun _ _ => rfl))) (pss_cons (ps_set (i := 3) sc_stacked.nd rfl (Or.inl rfl) (pe_ix ix_tup (pv 0) pe_int (fun _ _ => rfl))) (pss_one (ps_ret (pe_tup (pa_cons (pe_own o_length hr rfl (pa_cons (pe_ix ix_tup (pv 2) pe_int (fun _ _ => rfl)) (pa_cons (pe_ix ix_tup (pv 2) pe_int (fun _ _ => rfl)) (pa_cons (pe_op op_mulB (pe_ix ix_tup (pv 2) pe_int (fun _ _ => rfl)) (pv 1)) pa_nil)))) (pa_cons (pe_own o_length hr rfl (pa_cons (pe_op op_mulB (pe_ix ix_tup (pv 3) pe_int (fun _ _ => rfl)) (pv 1)) (pa_cons (pe_op op_mulB (pe_ix ix_tup (pv 3) pe_int (fun _ _ => rfl)) (pv 1)) (pa_cons (pe_ix ix_tup (pv 3) pe_int (fun _ _ => rfl)) pa_nil)))) pa_nil))))))), ?_⟩
  rw [show start ["one", "many", "width", "height"] [.ref c.p, .int k] = [some (.ref c.p), some (.int k), none, none] from rfl]
  have ct := hc.t
  have cw : H c.pw = some (.tup [.int c.b.w.x, .int c.b.w.y, .int c.b.w.z]) := hc.w
  have ch : H c.ph = some (.tup [.int c.b.h.x, .int c.b.h.y, .int c.b.h.z]) := hc.h
  have m1 : IntMulOk c.b.w.z k := Bd.ok okw.bz bk (by decide +kernel)
  have m2 : IntMulOk c.b.h.x k := Bd.ok okh.bx bk (by decide +kernel)
  have m3 : IntMulOk c.b.h.y k := Bd.ok okh.by' bk (by decide +kernel)
  have bz : Bd 864 (c.b.w.z * k) := okw.bz.mul bk
  have bx : Bd 1364 (c.b.h.x * k) := okh.bx.mul bk
  have by2 : Bd 1364 (c.b.h.y * k) := okh.by'.mul bk
  repeat walk_at "rd"
  refine c_length rfl (Int.mul_ne_zero okw.ne (by omega)) (bz.mono (by decide)) (fun r1 H1 s1 e1 => ?_) (okw.bx.mono (by decide)) (okw.by'.mono (by decide))
  have ch1 := s1 _ _ ch
  repeat walk_at "rd"
  refine c_length rfl okh.ne (okh.bz.mono (by decide)) (fun r2 H2 s2 e2 => ?_) (bx.mono (by decide)) (by2.mono (by decide))
  repeat walk_at "rd"
  refine i_newTf (by simp) fun r3 H3 hr3 s3 e3 => ?_
  refine q ⟨r3, r1, r2, ⟨shS c.b.w 1 k, shS c.b.h k 1⟩⟩ H3 ((s1.trans s2).trans s3) (Same.nn (s1.trans s2) hr3) ⟨e3, ?_, ?_⟩ rfl
  · have := s3 _ _ (s2 _ _ e1)
    simpa only [SdAt, shS, Int.mul_one] using this
  · have := s3 _ _ e2
    simpa only [SdAt, shS, Int.mul_one] using this
set_option maxHeartbeats 4000000 in
theorem ok__law_plus {f : Addr} {fd : FuncData} (F : Fun K "_law_plus" "_law_plus" s__law_plus f fd) (B : Bl mg)  (o__law_lowest : Own P w K mg base 2 "_law_lowest" ["_law_a", "_law_b", "_law_n"] [] sp__law_lowest) : FnOk P w K mg base CX0 3 f fd ["_law_one", "_law_other", "_law_sign_here"] sp__law_plus := by
  refine F.ok (k := 2) sc__law_plus (fun vs H Q E h => ?_) (fun cdv A outer s H vs Q E hr h => ?_)
  · obtain ⟨p, p', s, t, g, rfl, h1, h2, o1, o2, bg, q⟩ := h
    rfl
  obtain ⟨p, p', s, t, g, rfl, h1, h2, o1, o2, bg, q⟩ := h
  refine ⟨_, (pss_cons (ps_set (i := 3) sc__law_plus.nd rfl (Or.inl rfl) (pe_op op_add (pe_op op_mulB (pe_ix ix_tup (pv 0) pe_int (fun _ _ => rfl)) (pe_ix ix_tup (pv 1) pe_int (fun _ _ => rfl))) (pe_op op_mulB (pe_op op_mulB (pv 2) (pe_ix ix_tup (pv 1) pe_int (fun _ _ => rfl))) (pe_ix ix_tup (pv 0) pe_int (fun _ _ => rfl))))) (pss_cons (ps_set (i := 4) sc__law_plus.nd rfl (Or.inl rfl) (pe_op op_add (pe_op op_mulB (pe_ix ix_tup (pv 0) pe_int (fun _ _ => rfl)) (pe_ix ix_tup (pv 1) pe_int (fun _ _ => rfl))) (pe_op op_mulB (pe_op op_mulB (pv 2) (pe_ix ix_tup (pv 1) pe_int (fun _ _ => rfl))) (pe_ix ix_tup (pv 0) pe_int (fun _ _ => rfl))))) (pss_one (ps_ret (pe_own o__law_lowest hr rfl (pa_cons (pv 3) (pa_cons (pv 4) (pa_cons (pe_op op_mulB (pe_ix ix_tup (pv 0) pe_int (fun _ _ => rfl)) (pe_ix ix_tup (pv 1) pe_int (fun _ _ => rfl))) pa_nil)))))))), ?_⟩
  rw [show start ["_law_one", "_law_other", "_law_sign_here", "_law_a", "_law_b"] [.ref p, .ref p', .int g] = [some (.ref p), some (.ref p'), some (.int g), none, none] from rfl]
  have h1' : H p = some (.tup [.int s.x, .int s.y, .int s.z]) := h1
  have h2' : H p' = some (.tup [.int t.x, .int t.y, .int t.z]) := h2
  have b1 := o1.bx
  have b2 := o1.by'
  have b3 := o1.bz
  have c1 := o2.bx
  have c2 := o2.by'
  have c3 := o2.bz
  repeat walk_at "rd"
  exact c__law_lowest (Int.mul_ne_zero o1.ne o2.ne) (Bd.mono (b3.mul c3) (by decide)) fun r H' s' e => q r H' s' e
set_option maxHeartbeats 4000000 in
theorem ok__law_share {f : Addr} {fd : FuncData} (F : Fun K "_law_share" "_law_share" s__law_share f fd) (B : Bl mg)  (o__law_lowest : Own P w K mg base 2 "_law_lowest" ["_law_a", "_law_b", "_law_n"] [] sp__law_lowest) : FnOk P w K mg base CX0 3 f fd ["_law_one", "_law_top", "_law_bottom"] sp__law_share := by
  refine F.ok (k := 2) sc__law_share (fun vs H Q E h => ?_) (fun cdv A outer s H vs Q E hr h => ?_)
  · obtain ⟨p, s, m, k, rfl, h1, ok, bm, k1, bk, q⟩ := h
    rfl
  obtain ⟨p, s, m, k, rfl, h1, ok, bm, k1, bk, q⟩ := h
  refine ⟨_, (pss_one (ps_ret (pe_own o__law_lowest hr rfl (pa_cons (pe_op op_mulB (pe_ix ix_tup (pv 0) pe_int (fun _ _ => rfl)) (pv 1)) (pa_cons (pe_op op_mulB (pe_ix ix_tup (pv 0) pe_int (fun _ _ => rfl)) (pv 1)) (pa_cons (pe_op op_mulB (pe_ix ix_tup (pv 0) pe_int (fun _ _ => rfl)) (pv 2)) pa_nil)))))), ?_⟩
  rw [show start ["_law_one", "_law_top", "_law_bottom"] [.ref p, .int m, .int k] = [some (.ref p), some (.int m), some (.int k)] from rfl]
  have h1' : H p = some (.tup [.int s.x, .int s.y, .int s.z]) := h1
  have b1 := ok.bx
  have b2 := ok.by'
  have b3 := ok.bz
  have hz : s.z * k ≠ 0 := Int.mul_ne_zero ok.ne k1
  repeat walk_at "rd"
  exact c__law_lowest hz (Bd.mono (b3.mul bk) (by decide)) fun r H' s' e => q r H' s' e
theorem i_slFrom {K : PySem.W.Frag} {H : Hp} {Q : VK} {a : Addr} {xs : List V} {i : Nat} (h : H a = some (.lst xs)) (q : ∀ (p : Addr) (H2 : Hp), Same H H2 → H2 p = some (.lst (xs.drop i)) → Q (.ref p) H2) : rSlL K (.ref a) (some (i : Int)) none H Q := by
  refine ⟨a, _, rfl, SqL.of h, fun p hp => ?_⟩
  refine q p _ (same_upd hp _) ?_
  rw [upd_same]
  unfold cutV
  rw [HT.sIx_nat, HT.sIx_none]
  congr 2
  rcases Nat.le_total i xs.length with z | z
  · rw [Nat.min_eq_left z, List.take_of_length_le (by rw [List.length_drop]; omega)]
  · rw [Nat.min_eq_right z, List.drop_of_length_le (Nat.le_refl _), List.drop_of_length_le z, List.take_nil]
theorem bd_in {x : Int} (h0 : -1000000000000 ≤ x) (h1 : x ≤ 1000000000000) : Bd 40 x := by
  show x.natAbs < 2 ^ 40
  have : (2 : Nat) ^ 40 = 1099511627776 := by decide
  omega
set_option maxHeartbeats 4000000 in
theorem ok__law_side {f : Addr} {fd : FuncData} (F : Fun K "_law_side" "_law_side" s__law_side f fd) (B : Bl mg)  (o__law_sign : Own P w K mg base 1 "_law_sign" ["_law_d", "_law_a", "_law_b"] [] sp__law_sign) (o__law_lowest : Own P w K mg base 2 "_law_lowest" ["_law_a", "_law_b", "_law_n"] [] sp__law_lowest) (o__law_digits : Own P w K mg base 2 "_law_digits" ["_law_cell_here", "_law_many"] [] sp__law_digits) : FnOk P w K mg base CX0 3 f fd ["_law_d", "_law_cell_here", "_law_at_here"] sp__law_side := by
  refine F.ok (k := 2) sc__law_side (fun vs H Q E h => ?_) (fun cdv A outer s H vs Q E hr h => ?_)
  · obtain ⟨d, c, k, rfl, hR, hc, hk, q⟩ := h
    rfl
  obtain ⟨d, c, k, rfl, hR, hc, hk, q⟩ := h
  refine ⟨_, (pss_cons (ps_set (i := 3) sc__law_side.nd rfl (Or.inl rfl) (pe_slice sl_list (pe_own o__law_digits hr rfl (pa_cons (pv 1) (pa_cons (pe_op op_add (pv 2) pe_int) pa_nil))) (po_some (pv 2)) po_none)) (pss_cons (ps_set (i := 4) sc__law_side.nd rfl (Or.inl rfl) (pe_op op_sub (pe_op op_add (pe_op op_mulB (pe_ix ix_list (pv 3) pe_int (fun _ _ => rfl)) (pe_op op_powB pe_int pe_int)) (pe_ix ix_list (pv 3) pe_int (fun _ _ => rfl))) (pe_op op_mulB pe_int (pe_op op_powB pe_int pe_int)))) (pss_cons (ps_set (i := 5) sc__law_side.nd rfl (Or.inl rfl) (pe_op op_sub (pe_op op_add (pe_op op_mulB (pe_ix ix_list (pv 3) pe_int (fun _ _ => rfl)) (pe_op op_powB pe_int pe_int)) (pe_ix ix_list (pv 3) pe_int (fun _ _ => rfl))) (pe_op op_mulB pe_int (pe_op op_powB pe_int pe_int)))) (pss_cons (ps_set (i := 6) sc__law_side.nd rfl (Or.inl rfl) (pe_op op_add pe_int (pe_ix ix_list (pv 3) pe_int (fun _ _ => rfl)))) (pss_cons (ps_cut (ps_if (pt_cmpR op_eq (pe_op op_mod (pv 1) pe_int) pe_int (nomark _)) (pss_cons (ps_set (i := 4) sc__law_side.nd rfl (Or.inl rfl) (pe_op op_sub (pe_op op_mod (pe_ix ix_list (pv 3) pe_int (fun _ _ => rfl)) pe_int) pe_int)) (pss_cons (ps_set (i := 5) sc__law_side.nd rfl (Or.inl rfl) (pe_op op_sub (pe_op op_mod (pe_ix ix_list (pv 3) pe_int (fun _ _ => rfl)) pe_int) pe_int)) (pss_one (ps_set (i := 6) sc__law_side.nd rfl (Or.inl rfl) (pe_op op_add pe_int (pe_op op_mod (pe_ix ix_list (pv 3) pe_int (fun _ _ => rfl)) pe_int)))))) pss_nil)) (pss_cons (ps_if (PW.pt (pw_and (pt_cmpR op_eq (pv 4) pe_int (nomark _)) (pw_and1 (pt_cmpR op_eq (pv 5) pe_int (nomark _))))) (pss_one (ps_ret (pe_tup (pa_cons pe_int (pa_cons pe_int (pa_cons pe_int pa_nil)))))) pss_nil) (pss_cons (ps_set (i := 7) sc__law_side.nd rfl (Or.inl rfl) (pe_own o__law_sign hr rfl (pa_cons (pv 0) (pa_cons (pv 4) (pa_cons (pv 5) pa_nil))))) (pss_one (ps_ret (pe_own o__law_lowest hr rfl (pa_cons (pe_op op_mulB (pv 7) (pv 4)) (pa_cons (pe_op op_mulB (pv 7) (pv 5)) (pa_cons (pv 6) pa_nil))))))))))))), ?_⟩
  rw [show start ["_law_d", "_law_cell_here", "_law_at_here", "_law_digits_here", "_law_a", "_law_b", "_law_n", "_law_sign_here"] [.int d, .int c, .int (k : Int)] = [some (.int d), some (.int c), some (.int (k : Int)), none, none, none, none, none] from rfl]
  have e6 : (10 : Int) ^ (6 : Int).toNat = 1000000 := by decide +kernel
  have e11 : (10 : Int) ^ (11 : Int).toNat = 100000000000 := by decide +kernel
  have dlo := hR.lo
  have hd : Bd 64 d := bd_range (B := 99) (by omega) hR.hi (by decide +kernel)
  repeat walk_at "rd"
  refine c__law_digits hc (by omega) (by omega) fun l H1 ds s1 e1 hl hds => ?_
  repeat walk_at "rd"
  refine i_slFrom e1 fun p H2 s2 e2 => ?_
  rw [← List.map_drop] at e2
  have hl5 : ((ds.drop k).length : Int) = 5 := by rw [List.length_drop]; omega
  have hd5 : ∀ x ∈ ds.drop k, 0 ≤ x ∧ x < 1000000 := fun x hx => hds x (List.mem_of_mem_drop hx)
  obtain ⟨x0, g0, a0, b0⟩ := dig hl5 hd5 0 (by decide) (by decide)
  obtain ⟨x1, g1, a1, b1⟩ := dig hl5 hd5 1 (by decide) (by decide)
  obtain ⟨x2, g2, a2, b2⟩ := dig hl5 hd5 2 (by decide) (by decide)
  obtain ⟨x3, g3', a3, b3⟩ := dig hl5 hd5 3 (by decide) (by decide)
  obtain ⟨x4, g4, a4, b4⟩ := dig hl5 hd5 4 (by decide) (by decide)
  have y0 : Bd 20 x0 := bd_range (B := 999999) (by omega) (by omega) (by decide)
  have y1 : Bd 20 x1 := bd_range (B := 999999) (by omega) (by omega) (by decide)
  have y2 : Bd 20 x2 := bd_range (B := 999999) (by omega) (by omega) (by decide)
  have y3 : Bd 20 x3 := bd_range (B := 999999) (by omega) (by omega) (by decide)
  have y4 : Bd 20 x4 := bd_range (B := 999999) (by omega) (by omega) (by decide)
  repeat (first | walk_at "rd" | refine i_ixL e2 g0 ?_ | refine i_ixL e2 g1 ?_ | refine i_ixL e2 g2 ?_ | refine i_ixL e2 g3' ?_ | refine i_ixL e2 g4 ?_ | rw [e6] | rw [e11])
  refine i_cut (T := fun σ' H' => ∃ a b n : Int, σ' = [some (.int d), some (.int c), some (.int (k : Int)), some (.ref p), some (.int a), some (.int b), some (.int n), none] ∧ H' = H2 ∧ Bd 40 a ∧ Bd 40 b ∧ 1 ≤ n ∧ n ≤ 1000000) ?_ ?_
  · repeat (first | walk_at "rd" | refine i_ixL e2 g0 ?_ | refine i_ixL e2 g1 ?_ | refine i_ixL e2 g2 ?_ | refine i_ixL e2 g3' ?_ | refine i_ixL e2 g4 ?_ | rw [e6] | rw [e11])
    refine if_d (fun c1 => ?_) (fun c1 => ?_)
    · repeat (first | walk_at "rd" | refine i_ixL e2 g0 ?_ | refine i_ixL e2 g1 ?_ | refine i_ixL e2 g2 ?_ | refine i_ixL e2 g3' ?_ | refine i_ixL e2 g4 ?_ | rw [e6] | rw [e11])
      exact ⟨_, _, _, rfl, rfl, bd_in (by omega) (by omega), bd_in (by omega) (by omega), by omega, by omega⟩
    · repeat (first | walk_at "rd" | refine i_ixL e2 g0 ?_ | refine i_ixL e2 g1 ?_ | refine i_ixL e2 g2 ?_ | refine i_ixL e2 g3' ?_ | refine i_ixL e2 g4 ?_ | rw [e6] | rw [e11])
      exact ⟨_, _, _, rfl, rfl, bd_in (by omega) (by omega), bd_in (by omega) (by omega), by omega, by omega⟩
  rintro σ' H' ⟨a, b, n, rfl, rfl, ba, bb, n1, n2⟩
  have s12 := s1.trans s2
  repeat walk_at "rd"
  refine if_d3 (q := b = 0) (fun c0 => ?_) (fun c1 hB => ?_)
  · repeat walk_at "rd"
    refine c__law_sign hd (ba.mono (by decide)) (bb.mono (by decide)) fun H3 s3 => ?_
    have ba := ba
    have bs : Bd 2 (sgn d a b) := by
      rcases sgn_tri hR a b with h | h | ⟨h1, h2⟩
      · rw [h]; decide
      · rw [h]; decide
      · rw [h1, h2, sgn_zero]; decide
    repeat walk_at "rd"
    refine c__law_lowest (by omega) (bd_range (k := 8000) (B := 1000000) (by omega) n2 (Nat.lt_of_lt_of_le (show (1000000 : Int).natAbs < 2 ^ 20 by decide) (Nat.pow_le_pow_right (by decide) (by decide)))) fun r H4 s4 e4 => ?_
    refine q r H4 ⟨lA (sgn d a b * a) (sgn d a b * b) n, lB (sgn d a b * a) (sgn d a b * b) n, lN (sgn d a b * a) (sgn d a b * b) n⟩ ((s12.trans s3).trans s4) e4 ?_
    rcases sgn_tri hR a b with h | h | h
    · rw [h, Int.one_mul, Int.one_mul]
      exact Dw.low hR ba bb n1 n2 h
    · rw [h, show (-1 : Int) * a = -a by omega, show (-1 : Int) * b = -b by omega]
      exact Dw.low hR ba.neg bb.neg n1 n2 (by rw [sgn_neg hR, h]; rfl)
    · exact absurd h (by omega)
  · repeat walk_at "rd"
    refine if_d (fun c2 => ?_) (fun c2 => hB (fun z => c2 z.2))
    repeat walk_at "rd"
    refine i_newT (by simp) fun r H4 s4 e4 => ?_
    exact q r H4 ⟨1, 0, 1⟩ (s12.trans s4) e4 ⟨by decide, by decide, by rw [sgn_nn (by decide) (by decide)]; rfl, by decide, by decide, by decide⟩
set_option maxHeartbeats 4000000 in
theorem ok__law_is_heap {f : Addr} {fd : FuncData} (F : Fun K "_law_is_heap" "_law_is_heap" s__law_is_heap f fd) (B : Bl mg)  (o__law_is_length : Own P w K mg base 2 "_law_is_length" ["_law_found"] [] sp__law_is_length) : FnOk P w K mg base CX0 3 f fd ["_law_found", "_law_due"] sp__law_is_heap := by
  refine F.ok (k := 2) sc__law_is_heap (fun vs H Q E h => ?_) (fun cdv A outer s H vs Q E hr h => ?_)
  · obtain ⟨a, b, C, D, rfl, ha, hb, hC, hD, eq, q⟩ := h
    rfl
  obtain ⟨a, b, C, D, rfl, ha, hb, hC, hD, eq, q⟩ := h
  refine ⟨_, (pss_cons (ps_if (PW.pt (pw_or (pt_not (pt_val (pe_callB call_isinst rfl B.isinstance bt_isinstance (pa_cons (pv 0) (pa_cons (pe_bltn (v := .ty "list") rfl B.list bt_list rfl) pa_nil))))) (pw_or1 (pt_cmpR (op_neL hr.units) (pv 0) (pv 1) (nomark _))))) (pss_one (ps_ret pe_bl)) pss_nil) (pss_cons (ps_for PassesOwn.never rfl (pi_list (pv 0)) (pg_name (i := 2) sc__law_is_heap.nd rfl (Or.inl rfl)) (pss_one (ps_if (PW.pt (pw_or (pt_not (pt_val (pe_callB call_isinst rfl B.isinstance bt_isinstance (pa_cons (pv 2) (pa_cons (pe_bltn (v := .ty "tuple") rfl B.tuple bt_tuple rfl) pa_nil))))) (pw_or (pt_cmpR op_ne (pe_callB call_lenR rfl B.len PySem.boot_len (pa_cons (pv 2) pa_nil)) pe_int (nomark _)) (pw_or (pt_not (pt_val (pe_own o__law_is_length hr rfl (pa_cons (pe_ix ix_tup (pv 2) pe_int (fun _ _ => rfl)) pa_nil)))) (pw_or1 (pt_not (pt_val (pe_own o__law_is_length hr rfl (pa_cons (pe_ix ix_tup (pv 2) pe_int (fun _ _ => rfl)) pa_nil))))))))) (pss_one (ps_ret pe_bl)) pss_nil))) (pss_one (ps_ret pe_bl)))), ?_⟩
  rw [show start ["_law_found", "_law_due", "_law_one"] [.ref a, .ref b] = [some (.ref a), some (.ref b), none] from rfl]
  repeat walk_at "rd"
  refine i_isK (.lst ha) rfl ?_
  repeat walk_at "rd"
  refine i_neLB ha hb hC hD eq ?_
  repeat walk_at "rd"
  refine i_forL ?_
  repeat walk_at "rd"
  refine ⟨a, rfl, ⟨_, SqL.of ha⟩, for_list (K := K) (a := a) (xs := C.map Cell.v) (fun i σ H' => ∃ v, σ = [some (.ref a), some (.ref b), v] ∧ H' = H) ⟨_, rfl, rfl⟩ (fun i σ H' _ z => by obtain ⟨_, _, rfl⟩ := z; exact SqL.of ha) ?_ ?_⟩
  · rintro i y σ H' hi ⟨v, rfl, rfl⟩
    obtain ⟨c, rfl, hc, hic⟩ := at_cells hi
    have ct := (hC c hc).t
    repeat walk_at "rd"
    refine if_ne (by rfl) ?_
    repeat walk_at "rd"
    refine c__law_is_length (hC c hc).w ?_
    repeat walk_at "rd"
    refine c__law_is_length (hC c hc).h ?_
    repeat walk_at "rd"
    exact ⟨_, rfl, rfl⟩
  rintro σ H' ⟨v, rfl, rfl⟩
  repeat walk_at "rd"
  exact q
set_option maxHeartbeats 4000000 in
theorem ok_is_deed {f : Addr} {fd : FuncData} (F : Fun K "is_deed" "is_deed" s_is_deed f fd) (B : Bl mg) (g_CUTS : TopT K mg "CUTS" [.str "across", .str "along"]) (g_SHIFTS : TopT K mg "SHIFTS" [.str "stack", .str "spread"]) (g_GLUINGS : TopT K mg "GLUINGS" [.str "beside", .str "atop"]) (g_TURN : TopS mg "TURN" (Str.ofString "turn")) (o_is_length : Own P w K mg base 3 "is_length" ["thing"] [] sp_is_length) (o_is_whole : Own P w K mg base 1 "is_whole" ["thing"] [] sp_is_whole) : FnOk P w K mg base CX0 4 f fd ["thing"] sp_is_deed := by
  obtain ⟨a_CUTS, m_CUTS, q_CUTS⟩ := g_CUTS
  obtain ⟨a_SHIFTS, m_SHIFTS, q_SHIFTS⟩ := g_SHIFTS
  obtain ⟨a_GLUINGS, m_GLUINGS, q_GLUINGS⟩ := g_GLUINGS
  obtain ⟨u_TURN, m_TURN, r_TURN⟩ := g_TURN
  refine F.ok (k := 3) sc_is_deed (fun vs H Q E h => ?_) (fun cdv A outer s H vs Q E hr h => ?_)
  · obtain ⟨p, e, rfl, he, ok, q⟩ := h
    rfl
  obtain ⟨p, e, rfl, he, ok, q⟩ := h
  refine ⟨_, (pss_cons (ps_if (PW.pt (pw_or (pt_not (pt_val (pe_callB call_isinst rfl B.isinstance bt_isinstance (pa_cons (pv 0) (pa_cons (pe_bltn (v := .ty "tuple") rfl B.tuple bt_tuple rfl) pa_nil))))) (pw_or (pt_cmpR op_lt (pe_callB call_lenR rfl B.len PySem.boot_len (pa_cons (pv 0) pa_nil)) pe_int (nomark _)) (pw_or1 (pt_not (pt_val (pe_callB call_isinst rfl B.isinstance bt_isinstance (pa_cons (pe_ix ix_tup (pv 0) pe_int (fun _ _ => rfl)) (pa_cons (pe_bltn (v := .ty "str") rfl B.str bt_str rfl) pa_nil))))))))) (pss_one (ps_ret pe_bl)) pss_nil) (pss_cons (ps_if (pt_cmpR op_eq (pe_callB call_lenR rfl B.len PySem.boot_len (pa_cons (pv 0) pa_nil)) pe_int (nomark _)) (pss_one (ps_ret (pe_cmpR op_eq (pe_ix ix_tup (pv 0) pe_int (fun _ _ => rfl)) (pe_glob (v := .str (Str.ofString "turn")) rfl m_TURN r_TURN) (nomark _)))) pss_nil) (pss_cons (ps_if (pt_cmpR op_ne (pe_callB call_lenR rfl B.len PySem.boot_len (pa_cons (pv 0) pa_nil)) pe_int (nomark _)) (pss_one (ps_ret pe_bl)) pss_nil) (pss_cons (ps_if (pt_cmpR op_in_seq (pe_ix ix_tup (pv 0) pe_int (fun _ _ => rfl)) (pe_glob (v := .ref a_CUTS) rfl m_CUTS rfl) (by with_unfolding_all rfl)) (pss_one (ps_ret (pe_own o_is_length hr rfl (pa_cons (pe_ix ix_tup (pv 0) pe_int (fun _ _ => rfl)) pa_nil)))) pss_nil) (pss_cons (ps_if (pt_cmpR op_in_seq (pe_ix ix_tup (pv 0) pe_int (fun _ _ => rfl)) (pe_glob (v := .ref a_SHIFTS) rfl m_SHIFTS rfl) (by with_unfolding_all rfl)) (pss_one (ps_ret (pe_and (pe_own o_is_whole hr rfl (pa_cons (pe_ix ix_tup (pv 0) pe_int (fun _ _ => rfl)) pa_nil)) (pe_one (pe_cmpR op_ge (pe_ix ix_tup (pv 0) pe_int (fun _ _ => rfl)) pe_int (nomark _)))))) pss_nil) (pss_one (ps_ret (pe_cmpR op_in_seq (pe_ix ix_tup (pv 0) pe_int (fun _ _ => rfl)) (pe_glob (v := .ref a_GLUINGS) rfl m_GLUINGS rfl) (by with_unfolding_all rfl))))))))), ?_⟩
  rw [show start ["thing"] [.ref p] = [some (.ref p)] from rfl]
  cases e with
  | cut al n s =>
    obtain ⟨pq, h0, hs⟩ := he
    cases al with
    | false =>
      have h0 : H p = some (.tup [.str (Str.ofString "across"), .int n, .ref pq]) := h0
      repeat walk_at "rd"
      refine if_d (fun c => absurd c (by simp)) (fun _ => ?_)
      repeat walk_at "rd"
      refine if_d (fun c => absurd c (by simp)) (fun _ => ?_)
      repeat walk_at "rd"
      refine if_ne (by simp) ?_
      repeat walk_at "rd"
      refine ⟨_, _, rfl, .inr (q_CUTS H), rfl, rfl, ?_⟩
      rw [show (if false = true then !inV _ _ else inV _ _) = true from by decide +kernel]
      repeat walk_at "rd"
      exact c_is_length hs ok fun H' s1 => q H' s1
    | true =>
      have h0 : H p = some (.tup [.str (Str.ofString "along"), .int n, .ref pq]) := h0
      repeat walk_at "rd"
      refine if_d (fun c => absurd c (by simp)) (fun _ => ?_)
      repeat walk_at "rd"
      refine if_d (fun c => absurd c (by simp)) (fun _ => ?_)
      repeat walk_at "rd"
      refine if_ne (by simp) ?_
      repeat walk_at "rd"
      refine ⟨_, _, rfl, .inr (q_CUTS H), rfl, rfl, ?_⟩
      rw [show (if false = true then !inV _ _ else inV _ _) = true from by decide +kernel]
      repeat walk_at "rd"
      exact c_is_length hs ok fun H' s1 => q H' s1
  | glue al n m =>
    have h0 := he
    cases al with
    | false =>
      have h0 : H p = some (.tup [.str (Str.ofString "beside"), .int n, .int m]) := h0
      repeat walk_at "rd"
      refine if_d (fun c => absurd c (by simp)) (fun _ => ?_)
      repeat walk_at "rd"
      refine if_d (fun c => absurd c (by simp)) (fun _ => ?_)
      repeat walk_at "rd"
      refine if_ne (by simp) ?_
      repeat walk_at "rd"
      refine ⟨_, _, rfl, .inr (q_CUTS H), rfl, rfl, ?_⟩
      rw [show (if false = true then !inV _ _ else inV _ _) = false from by decide +kernel]
      repeat walk_at "rd"
      refine ⟨_, _, rfl, .inr (q_SHIFTS H), rfl, rfl, ?_⟩
      rw [show (if false = true then !inV _ _ else inV _ _) = false from by decide +kernel]
      repeat walk_at "rd"
      refine ⟨_, _, rfl, .inr (q_GLUINGS H), rfl, rfl, ?_⟩
      rw [show (if false = true then !inV _ _ else inV _ _) = true from by decide +kernel]
      repeat walk_at "rd"
      exact q H (Same.refl H)
    | true =>
      have h0 : H p = some (.tup [.str (Str.ofString "atop"), .int n, .int m]) := h0
      repeat walk_at "rd"
      refine if_d (fun c => absurd c (by simp)) (fun _ => ?_)
      repeat walk_at "rd"
      refine if_d (fun c => absurd c (by simp)) (fun _ => ?_)
      repeat walk_at "rd"
      refine if_ne (by simp) ?_
      repeat walk_at "rd"
      refine ⟨_, _, rfl, .inr (q_CUTS H), rfl, rfl, ?_⟩
      rw [show (if false = true then !inV _ _ else inV _ _) = false from by decide +kernel]
      repeat walk_at "rd"
      refine ⟨_, _, rfl, .inr (q_SHIFTS H), rfl, rfl, ?_⟩
      rw [show (if false = true then !inV _ _ else inV _ _) = false from by decide +kernel]
      repeat walk_at "rd"
      refine ⟨_, _, rfl, .inr (q_GLUINGS H), rfl, rfl, ?_⟩
      rw [show (if false = true then !inV _ _ else inV _ _) = true from by decide +kernel]
      repeat walk_at "rd"
      exact q H (Same.refl H)
  | shift al n k =>
    have h0 := he
    cases al with
    | false =>
      have h0 : H p = some (.tup [.str (Str.ofString "stack"), .int n, .int k]) := h0
      repeat walk_at "rd"
      refine if_d (fun c => absurd c (by simp)) (fun _ => ?_)
      repeat walk_at "rd"
      refine if_d (fun c => absurd c (by simp)) (fun _ => ?_)
      repeat walk_at "rd"
      refine if_ne (by simp) ?_
      repeat walk_at "rd"
      refine ⟨_, _, rfl, .inr (q_CUTS H), rfl, rfl, ?_⟩
      rw [show (if false = true then !inV _ _ else inV _ _) = false from by decide +kernel]
      repeat walk_at "rd"
      refine ⟨_, _, rfl, .inr (q_SHIFTS H), rfl, rfl, ?_⟩
      rw [show (if false = true then !inV _ _ else inV _ _) = true from by decide +kernel]
      repeat walk_at "rd"
      exact bl_q (decide_eq_true ok.1) (q H (Same.refl H))
    | true =>
      have h0 : H p = some (.tup [.str (Str.ofString "spread"), .int n, .int k]) := h0
      repeat walk_at "rd"
      refine if_d (fun c => absurd c (by simp)) (fun _ => ?_)
      repeat walk_at "rd"
      refine if_d (fun c => absurd c (by simp)) (fun _ => ?_)
      repeat walk_at "rd"
      refine if_ne (by simp) ?_
      repeat walk_at "rd"
      refine ⟨_, _, rfl, .inr (q_CUTS H), rfl, rfl, ?_⟩
      rw [show (if false = true then !inV _ _ else inV _ _) = false from by decide +kernel]
      repeat walk_at "rd"
      refine ⟨_, _, rfl, .inr (q_SHIFTS H), rfl, rfl, ?_⟩
      rw [show (if false = true then !inV _ _ else inV _ _) = true from by decide +kernel]
      repeat walk_at "rd"
      exact bl_q (decide_eq_true ok.1) (q H (Same.refl H))
  | turn n =>
    have h0 := he
    have h0 : H p = some (.tup [.str (Str.ofString "turn"), .int n]) := h0
    repeat walk_at "rd"
    refine if_d (fun c => absurd c (by simp)) (fun _ => ?_)
    repeat walk_at "rd"
    refine if_d (fun _ => ?_) (fun c => absurd (by simp) c)
    repeat walk_at "rd"
    exact bl_q (by decide +kernel) (q H (Same.refl H))
set_option maxHeartbeats 4000000 in
theorem ok_cut_across {f : Addr} {fd : FuncData} (F : Fun K "cut_across" "cut_across" s_cut_across f fd) (B : Bl mg) (g_NOUGHT : TopT K mg "NOUGHT" [.int 0, .int 0, .int 1]) (o_under : Own P w K mg base 2 "under" ["d", "one", "other"] [] (sp_under K)) (o_taken : Own P w K mg base 3 "taken" ["one", "other"] [] sp_taken) : FnOk P w K mg base CX0 4 f fd ["d", "one", "at"] sp_cut_across := by
  obtain ⟨a_NOUGHT, m_NOUGHT, q_NOUGHT⟩ := g_NOUGHT
  refine F.ok (k := 3) sc_cut_across (fun vs H Q E h => ?_) (fun cdv A outer s H vs Q E hr h => ?_)
  · obtain ⟨d, c, p, s, rfl, hc, hs, hd, okw, oks, up, un, q⟩ := h
    rfl
  obtain ⟨d, c, p, s, rfl, hc, hs, hd, okw, oks, up, un, q⟩ := h
  refine ⟨_, (pss_cons (ps_if (pt_not (PW.pt (pw_and (pt_val (pe_own o_under hr rfl (pa_cons (pv 0) (pa_cons (pe_glob (v := .ref a_NOUGHT) rfl m_NOUGHT rfl) (pa_cons (pv 2) pa_nil))))) (pw_and1 (pt_val (pe_own o_under hr rfl (pa_cons (pv 0) (pa_cons (pv 2) (pa_cons (pe_ix ix_tup (pv 1) pe_int (fun _ _ => rfl)) pa_nil))))))))) (pss_one ps_never) pss_nil) (pss_one (ps_ret (pe_lst (pa_cons (pe_tup (pa_cons (pv 2) (pa_cons (pe_ix ix_tup (pv 1) pe_int (fun _ _ => rfl)) pa_nil))) (pa_cons (pe_tup (pa_cons (pe_own o_taken hr rfl (pa_cons (pe_ix ix_tup (pv 1) pe_int (fun _ _ => rfl)) (pa_cons (pv 2) pa_nil))) (pa_cons (pe_ix ix_tup (pv 1) pe_int (fun _ _ => rfl)) pa_nil))) pa_nil)))))), ?_⟩
  rw [show start ["d", "one", "at"] [.int d, .ref c.p, .ref p] = [some (.int d), some (.ref c.p), some (.ref p)] from rfl]
  have ct := hc.t
  have cw := hc.w
  have hs' : H p = some (.tup [.int s.x, .int s.y, .int s.z]) := hs
  have cw' : H c.pw = some (.tup [.int c.b.w.x, .int c.b.w.y, .int c.b.w.z]) := cw
  repeat walk_at "rd"
  refine c_under (q_NOUGHT H) hs' hd (by decide +kernel) (by decide +kernel) (by decide +kernel) (oks.bx.mono (by decide)) (oks.by'.mono (by decide)) (oks.bz.mono (by decide)) ?_
  rw [show decide (0 < sgn d (s.x * 1 - 0 * s.z) (s.y * 1 - 0 * s.z)) = true from decide_eq_true (by simpa only [Int.mul_one, Int.zero_mul, Int.sub_zero] using up)]
  repeat walk_at "rd"
  refine c_under (SqT.of hs') cw' hd (oks.bx.mono (by decide)) (oks.by'.mono (by decide)) (oks.bz.mono (by decide)) (okw.bx.mono (by decide)) (okw.by'.mono (by decide)) (okw.bz.mono (by decide)) ?_
  rw [show decide (0 < sgn d (c.b.w.x * s.z - s.x * c.b.w.z) (c.b.w.y * s.z - s.y * c.b.w.z)) = true from decide_eq_true un]
  repeat walk_at "rd"
  refine i_newTf (by simp) fun r1 H1 hr1 s1 e1 => ?_
  have ct1 := s1 _ _ ct
  repeat walk_at "rd"
  refine c_taken (s1 _ _ cw') (s1 _ _ hs') okw.z1 oks.z1 okw.g oks.g (okw.bx.mono (by decide)) (okw.by'.mono (by decide)) (okw.bz.mono (by decide)) (oks.bx.mono (by decide)) (oks.by'.mono (by decide)) (oks.bz.mono (by decide)) fun r2 H2 s2 e2 => ?_
  have ct2 := s2 _ _ ct1
  repeat walk_at "rd"
  refine i_newTf (by simp) fun r3 H3 hr3 s3 e3 => ?_
  repeat walk_at "rd"
  refine i_newLf (by simp) fun r H4 hr s4 e4 => ?_
  have t4 := ((s1.trans s2).trans s3).trans s4
  exact q r ⟨r1, p, c.ph, ⟨s, c.b.h⟩⟩ ⟨r3, r2, c.ph, ⟨tkS c.b.w s, c.b.h⟩⟩ H4 t4 (Same.nn ((s1.trans s2).trans s3) hr) e4 ⟨s4 _ _ (s3 _ _ (s2 _ _ e1)), t4 _ _ hs, t4 _ _ hc.h⟩ ⟨s4 _ _ e3, s4 _ _ (s3 _ _ e2), t4 _ _ hc.h⟩ rfl rfl
theorem i_slT2 {K : PySem.W.Frag} {H : Hp} {Q : VK} {a : Addr} {x y z : V} (h : H a = some (.tup [x, y, z])) (q : ∀ (p : Addr) (H2 : Hp), Same H H2 → H2 p = some (.tup [x, y]) → Q (.ref p) H2) : rSlT K (.ref a) none (some 2) H Q :=
  ⟨a, _, rfl, SqT.of h, by simp only [List.length_cons, List.length_nil]; decide, fun p hp => q p _ (same_upd hp _) upd_same⟩
set_option maxHeartbeats 4000000 in
theorem ok__law_below {f : Addr} {fd : FuncData} (F : Fun K "_law_below" "_law_below" s__law_below f fd) (B : Bl mg)  (o__law_plus : Own P w K mg base 3 "_law_plus" ["_law_one", "_law_other", "_law_sign_here"] [] sp__law_plus) (o__law_sign : Own P w K mg base 1 "_law_sign" ["_law_d", "_law_a", "_law_b"] [] sp__law_sign) : FnOk P w K mg base CX0 4 f fd ["_law_d", "_law_one", "_law_other"] sp__law_below := by
  refine F.ok (k := 3) sc__law_below (fun vs H Q E h => ?_) (fun cdv A outer s H vs Q E hr h => ?_)
  · obtain ⟨d, p, p', s, t, rfl, h1, h2, o1, o2, hd, q⟩ := h
    rfl
  obtain ⟨d, p, p', s, t, rfl, h1, h2, o1, o2, hd, q⟩ := h
  refine ⟨_, (pss_cons (ps_set (i := 3) sc__law_below.nd rfl (Or.inl rfl) (pe_own o__law_plus hr rfl (pa_cons (pv 1) (pa_cons (pv 2) (pa_cons (pe_un un_neg pe_int) pa_nil))))) (pss_one (ps_ret (pe_and (pe_cmpR (op_neT hr.units) (pe_slice sl_tup (pv 3) po_none (po_some pe_int)) (pe_tup (pa_cons pe_int (pa_cons pe_int pa_nil))) (nomark _)) (pe_one (pe_cmpR op_lt (pe_own o__law_sign hr rfl (pa_cons (pv 0) (pa_cons (pe_ix ix_tup (pv 3) pe_int (fun _ _ => rfl)) (pa_cons (pe_ix ix_tup (pv 3) pe_int (fun _ _ => rfl)) pa_nil)))) pe_int (nomark _))))))), ?_⟩
  rw [show start ["_law_d", "_law_one", "_law_other", "_law_left"] [.int d, .ref p, .ref p'] = [some (.int d), some (.ref p), some (.ref p'), none] from rfl]
  repeat walk_at "rd"
  refine c__law_plus h1 h2 o1 o2 (by decide +kernel) fun r H1 s1 e1 => ?_
  rw [plS_neg] at e1
  have e1' : H1 r = some (.tup [.int (tkS s t).x, .int (tkS s t).y, .int (tkS s t).z]) := e1
  have bx : Bd 2101 (tkS s t).x := Bd.fdiv (Bd.add (Bd.mul o1.bx (o2.bz)) (Bd.mul o2.bx.neg o1.bz)) _
  have by' : Bd 2101 (tkS s t).y := Bd.fdiv (Bd.add (Bd.mul o1.by' (o2.bz)) (Bd.mul o2.by'.neg o1.bz)) _
  repeat walk_at "rd"
  refine i_slT2 e1' fun p2 H2 s2 e2 => ?_
  have e1' := s2 _ _ e1'
  repeat walk_at "rd"
  refine i_newT (by simp) fun p3 H3 s3 e3 => ?_
  have e1' := s3 _ _ e1'
  refine i_ne2 (s3 _ _ e2) e3 ?_
  repeat walk_at "rd"
  refine if_nd (fun c => ?_) (fun c => ?_)
  · repeat walk_at "rd"
    refine c__law_sign hd (bx.mono (by decide)) (by'.mono (by decide)) fun H4 s4 => ?_
    repeat walk_at "rd"
    exact q H4 (((s1.trans s2).trans s3).trans s4)
  · repeat walk_at "rd"
    refine bl_q ?_ (q H3 ((s1.trans s2).trans s3))
    rw [c.1, c.2, sgn_zero]
    rfl
set_option maxHeartbeats 4000000 in
theorem ok__law_heap {f : Addr} {fd : FuncData} (F : Fun K "_law_heap" "_law_heap" s__law_heap f fd) (B : Bl mg)  (o__law_side : Own P w K mg base 3 "_law_side" ["_law_d", "_law_cell_here", "_law_at_here"] [] sp__law_side) (o__law_cell : Own P w K mg base 1 "_law_cell" ["_law_script", "_law_k"] [] (sp__law_cell K)) (o__law_digits : Own P w K mg base 2 "_law_digits" ["_law_cell_here", "_law_many"] [] sp__law_digits) : FnOk P w K mg base CX0 4 f fd ["_law_script", "_law_d", "_law_first"] (sp__law_heap K) := by
  refine F.ok (k := 3) sc__law_heap (fun vs H Q E h => ?_) (fun cdv A outer s H vs Q E hr h => ?_)
  · obtain ⟨p, ns, d, rfl, hS, hb, hR, q⟩ := h
    rfl
  obtain ⟨p, ns, d, rfl, hS, hb, hR, q⟩ := h
  refine ⟨_, (pss_cons (ps_setC (i := 3) sc__law_heap.nd rfl rfl ["_law_k"] [0, 1, 2] rfl (pi_range1 rfl B.range (pa_cons pe_int pa_nil)) (fun _ _ _ _ _ => (pg_name (i := 0) (show List.Nodup (α := Str) ["_law_k", "_law_script", "_law_d", "_law_first"] by decide +kernel) rfl (Or.inl rfl))) (fun _ _ _ _ _ => pifs_nil) (fun _ _ _ _ _ => (pe_own o__law_side hr rfl (pa_cons (pv 2) (pa_cons (pe_own o__law_cell hr rfl (pa_cons (pv 1) (pa_cons (pe_op op_add (pv 3) (pv 0)) pa_nil))) (pa_cons pe_int pa_nil)))))) (pss_cons (ps_set (i := 4) sc__law_heap.nd rfl (Or.inl rfl) (pe_lst pa_nil)) (pss_cons (ps_for PassesOwn.never rfl (pi_range1 rfl B.range (pa_cons (pe_op op_add pe_int (pe_op op_mod (pe_ix ix_list (pe_own o__law_digits hr rfl (pa_cons (pe_own o__law_cell hr rfl (pa_cons (pv 0) (pa_cons (pe_op op_add (pv 2) pe_int) pa_nil))) (pa_cons pe_int pa_nil))) pe_int (fun _ _ => rfl)) pe_int)) pa_nil)) (pg_name (i := 5) sc__law_heap.nd rfl (Or.inl rfl)) (pss_cons (ps_set (i := 6) sc__law_heap.nd rfl (Or.inl rfl) (pe_own o__law_cell hr rfl (pa_cons (pv 0) (pa_cons (pe_op op_add (pe_op op_add (pv 2) pe_int) (pv 5)) pa_nil)))) (pss_cons (ps_set (i := 7) sc__law_heap.nd rfl (Or.inl rfl) (pe_own o__law_digits hr rfl (pa_cons (pv 6) (pa_cons pe_int pa_nil)))) (pss_cons (ps_set (i := 8) sc__law_heap.nd rfl (Or.inl rfl) (pe_ix ix_list (pv 3) (pe_op op_mod (pe_ix ix_list (pv 7) pe_int (fun _ _ => rfl)) pe_int) (fun _ _ => rfl))) (pss_cons (ps_set (i := 9) sc__law_heap.nd rfl (Or.inl rfl) (pe_ix ix_list (pv 3) (pe_op op_mod (pe_ix ix_list (pv 7) pe_int (fun _ _ => rfl)) pe_int) (fun _ _ => rfl))) (pss_cons (ps_cut (ps_if (pt_cmpR op_eq (pe_op op_mod (pe_op op_fdivP (pe_ix ix_list (pv 7) pe_int (fun _ _ => rfl)) pe_int) pe_int) pe_int (nomark _)) (pss_one (ps_set (i := 8) sc__law_heap.nd rfl (Or.inl rfl) (pe_own o__law_side hr rfl (pa_cons (pv 1) (pa_cons (pv 6) (pa_cons pe_int pa_nil)))))) pss_nil)) (pss_cons (ps_cut (ps_if (pt_cmpR op_eq (pe_op op_mod (pe_op op_fdivP (pe_ix ix_list (pv 7) pe_int (fun _ _ => rfl)) pe_int) pe_int) pe_int (nomark _)) (pss_one (ps_set (i := 9) sc__law_heap.nd rfl (Or.inl rfl) (pe_own o__law_side hr rfl (pa_cons (pv 1) (pa_cons (pv 6) (pa_cons pe_int pa_nil)))))) pss_nil)) (pss_one (ps_expr (pe_bm PySem.F.plainAttrs_list PySem.F.slot_list_append PySem.F.type_list_append mt_append (pv 4) (pa_cons (pe_tup (pa_cons (pv 8) (pa_cons (pv 9) pa_nil))) pa_nil))))))))))) (pss_one (ps_ret (pe_tup (pa_cons (pv 3) (pa_cons (pv 4) pa_nil)))))))), ?_⟩
  rw [show start ["_law_script", "_law_d", "_law_first", "_law_pool", "_law_heap_here", "_law_k", "_law_cell_here", "_law_digits_here", "_law_width", "_law_height"] [.ref p, .int d, .int 1] = [some (.ref p), some (.int d), some (.int 1), none, none, none, none, none, none, none] from rfl]
  repeat walk_at "rd"
  refine i_compR1 ?_
  repeat walk_at "rd"
  refine ⟨3, rfl, by decide, by decide, fun D hD => comp_range (lo := 0) (n := (3 : Int).toNat) (fun i xs σ' H' => ∃ (v : Option V) (P : PL), σ' = [v, some (.ref p), some (.int d), some (.int 1)] ∧ xs = P.map (fun x => V.ref x.1) ∧ P.length = i ∧ H' D = some (.lst xs) ∧ SameX D H H' ∧ (∀ x ∈ P, SdAt H' x.1 x.2) ∧ ∀ x ∈ P, Dw d x.2) ⟨none, [], rfl, rfl, rfl, upd_same, fun b o e n => by rw [upd_ne n]; exact e, fun x hx => absurd hx (by simp), fun x hx => absurd hx (by simp)⟩ ?_ ?_⟩
  · rintro i xs σ' H' hi ⟨v, P, rfl, rfl, hPl, eD, sx, hPa, hPd⟩
    have hi3 : i < 3 := hi
    have s' : Same H H' := fun b o e => sx b o e (ne_of_none e hD)
    repeat walk_at "rd"
    refine c__law_cell (s'.seq hS) (by omega) hb fun c0 hc0 => ?_
    repeat walk_at "rd"
    refine c__law_side (k := 0) hR hc0 (by decide) fun r1 H1 s s1 e1 o1 => ?_
    repeat walk_at "rd"
    have eD1 := s1 _ _ eD
    refine i_append eD1 (by rw [List.length_map]; omega) fun H2 x2 e2 => ?_
    refine cnext hi ⟨_, P ++ [(r1, s)], rfl, rfl, by rw [List.length_append, hPl]; rfl, by rw [List.map_append]; exact e2, (sx.trans (s1.sameX D)).trans x2, fun x hx => ?_, fun x hx => ?_⟩
    · rcases List.mem_append.mp hx with hx | hx
      · exact x2.tup (s1 _ _ (hPa x hx)) eD1
      · rw [List.mem_singleton.mp hx]; exact x2.tup e1 eD1
    · rcases List.mem_append.mp hx with hx | hx
      · exact hPd x hx
      · rw [List.mem_singleton.mp hx]; exact o1
  rintro xs σ' H2 ⟨v, P, rfl, rfl, hPl, eD, sx, hPa, hPd⟩
  have s2 : Same H H2 := fun b o e => sx b o e (ne_of_none e hD)
  have hP : Pl H2 D P := ⟨eD, hPa, hPl⟩
  have hS2 := s2.seq hS
  clear sx hPa hPl hD
  repeat walk_at "rd"
  refine i_newLf (by simp) fun l H3 hl s3 e3 => ?_
  repeat walk_at "rd"
  refine i_forR1 ?_
  repeat walk_at "rd"
  refine c__law_cell (s3.seq hS2) (by omega) hb fun c0 hc0 => ?_
  repeat walk_at "rd"
  refine c__law_digits hc0 (by decide) (by decide) fun l4 H4 ds s4 e4 hl4 hds => ?_
  obtain ⟨x5, g5, a5, b5⟩ := dig hl4 hds 5 (by decide) (by decide)
  repeat walk_at "rd"
  refine i_ixL e4 g5 ?_
  repeat walk_at "rd"
  have s34 := s3.trans s4
  refine ⟨1 + x5 % 6, rfl, by omega, by omega, for_range (lo := 0) (n := (1 + x5 % 6).toNat) (fun i σ H' => ∃ (v1 v2 v3 v4 v5 : Option V) (L : List Cell), σ = [some (.ref p), some (.int d), some (.int 1), some (.ref D), some (.ref l), v1, v2, v3, v4, v5] ∧ SameX l H4 H' ∧ H' l = some (.lst (L.map Cell.v)) ∧ L.length = i ∧ (∀ c ∈ L, c.At H') ∧ ∀ c ∈ L, Dw d c.b.w ∧ Dw d c.b.h) ⟨_, _, _, _, _, [], rfl, fun b o e _ => e, s4 _ _ e3, rfl, fun c hc => absurd hc (by simp), fun c hc => absurd hc (by simp)⟩ ?_ ?_⟩
  · rintro i σ H' hi ⟨v1, v2, v3, v4, v5, L, rfl, sx, el, hLl, hLa, hLd⟩
    have sH : Same H2 H' := fun b o e => sx b o (s34 b o e) (ne_of_none e hl)
    repeat walk_at "rd"
    refine c__law_cell (sH.seq hS2) (by omega) hb fun c1 hc1 => ?_
    repeat walk_at "rd"
    refine c__law_digits hc1 (by decide) (by decide) fun l5 H5 es s5 e5 hl5 hes => ?_
    obtain ⟨y0, k0, u0, w0⟩ := dig hl5 hes 0 (by decide) (by decide)
    obtain ⟨y1, k1, u1, w1⟩ := dig hl5 hes 1 (by decide) (by decide)
    have hP5 := (hP.same sH).same s5
    obtain ⟨z0, hz0, gz0, ez0⟩ := hP5.get (i := y0 % 3) (by omega) (by omega)
    obtain ⟨z1, hz1, gz1, ez1⟩ := hP5.get (i := y1 % 3) (by omega) (by omega)
    repeat (first | walk_at "rd" | refine i_ixL e5 k0 ?_ | refine i_ixL e5 k1 ?_ | refine i_ixL hP5.l gz0 ?_ | refine i_ixL hP5.l gz1 ?_)
    refine i_cut (T := fun σ' H6 => ∃ (pw : Addr) (sw : Sd), σ' = [some (.ref p), some (.int d), some (.int 1), some (.ref D), some (.ref l), some (.int (0 + (i : Int))), some (.int c1), some (.ref l5), some (.ref pw), some (.ref z1.1)] ∧ Same H5 H6 ∧ SdAt H6 pw sw ∧ Dw d sw) ?_ ?_
    · repeat (first | walk_at "rd" | refine i_ixL e5 k0 ?_)
      refine if_d (fun _ => ?_) (fun _ => ?_)
      · repeat walk_at "rd"
        refine c__law_side (k := 2) hR hc1 (by decide) fun r1 H6 s s6 e6 o6 => ?_
        repeat walk_at "rd"
        exact ⟨r1, s, rfl, s6, e6, o6⟩
      · repeat walk_at "rd"
        exact ⟨_, _, rfl, Same.refl _, ez0, hPd z0 hz0⟩
    rintro σ' H6 ⟨pw, sw, rfl, s6, ew, ow⟩
    have e5 := s6 _ _ e5
    repeat walk_at "rd"
    refine i_cut (T := fun σ' H7 => ∃ (ph : Addr) (sh : Sd), σ' = [some (.ref p), some (.int d), some (.int 1), some (.ref D), some (.ref l), some (.int (0 + (i : Int))), some (.int c1), some (.ref l5), some (.ref pw), some (.ref ph)] ∧ Same H6 H7 ∧ SdAt H7 ph sh ∧ Dw d sh) ?_ ?_
    · repeat (first | walk_at "rd" | refine i_ixL e5 k1 ?_)
      refine if_d (fun _ => ?_) (fun _ => ?_)
      · repeat walk_at "rd"
        refine c__law_side (k := 7) hR hc1 (by decide) fun r1 H7 s s7 e7 o7 => ?_
        repeat walk_at "rd"
        exact ⟨r1, s, rfl, s7, e7, o7⟩
      · repeat walk_at "rd"
        exact ⟨_, _, rfl, Same.refl _, s6 _ _ ez1, hPd z1 hz1⟩
    rintro σ' H7 ⟨ph, sh, rfl, s7, eh, oh⟩
    have el0 := s7 _ _ (s6 _ _ (s5 _ _ el))
    repeat walk_at "rd"
    refine i_newTf (by simp) fun r8 H8 n8 s8 e8 => ?_
    have st := ((s5.trans s6).trans s7).trans s8
    have el8 := st _ _ el
    repeat walk_at "rd"
    refine i_append el8 (by rw [List.length_map]; omega) fun H9 x9 e9 => ?_
    repeat walk_at "rd"
    refine ⟨_, _, _, _, _, L ++ [⟨r8, pw, ph, ⟨sw, sh⟩⟩], rfl, (sx.trans (st.sameX l)).trans x9, by rw [List.map_append]; exact e9, by rw [List.length_append, hLl]; rfl, fun x hx => ?_, fun x hx => ?_⟩
    · rcases List.mem_append.mp hx with hx | hx
      · exact ((hLa x hx).same st).sameX x9 el8
      · rw [List.mem_singleton.mp hx]
        exact Cell.At.sameX ⟨e8, s8 _ _ (s7 _ _ ew), s8 _ _ eh⟩ x9 el8
    · rcases List.mem_append.mp hx with hx | hx
      · exact hLd x hx
      · rw [List.mem_singleton.mp hx]; exact ⟨ow, oh⟩
  rintro σ H5 ⟨v1, v2, v3, v4, v5, L, rfl, sx, el, hLl, hLa, hLd⟩
  have sH : Same H2 H5 := fun b o e => sx b o (s34 b o e) (ne_of_none e hl)
  repeat walk_at "rd"
  refine i_newTf (by simp) fun r H6 n6 s6 e6 => ?_
  exact q r D l H6 P L ((s2.trans sH).trans s6) e6 ((hP.same sH).same s6) (s6 _ _ el) (fun c hc => (hLa c hc).same s6) hPd hLd (by omega) (by omega)
set_option maxHeartbeats 4000000 in
theorem ok__law_new {f : Addr} {fd : FuncData} (F : Fun K "_law_new" "_law_new" s__law_new f fd) (B : Bl mg)  (o__law_plus : Own P w K mg base 3 "_law_plus" ["_law_one", "_law_other", "_law_sign_here"] [] sp__law_plus) (o__law_share : Own P w K mg base 3 "_law_share" ["_law_one", "_law_top", "_law_bottom"] [] sp__law_share) : FnOk P w K mg base CX0 4 f fd ["_law_deed_here", "_law_some"] sp__law_new := by
  refine F.ok (k := 3) sc__law_new (fun vs H Q E h => ?_) (fun cdv A outer s H vs Q E hr h => ?_)
  · obtain ⟨p, a, d, e, c, c', rfl, he, ha, hc, hc', hf, q⟩ := h
    rfl
  obtain ⟨p, a, d, e, c, c', rfl, he, ha, hc, hc', hf, q⟩ := h
  refine ⟨_, (pss_cons (ps_asg (pe_ix ix_list (pv 1) pe_int (fun _ _ => rfl)) (pg_tup (n := 2) rfl (pgs_cons (pg_name (i := 2) sc__law_new.nd rfl (Or.inl rfl)) (pgs_cons (pg_name (i := 3) sc__law_new.nd rfl (Or.inl rfl)) pgs_nil)))) (pss_cons (ps_if (pt_cmpR op_eq (pe_ix ix_tup (pv 0) pe_int (fun _ _ => rfl)) pe_str (nomark _)) (pss_one (ps_ret (WE.w (we_lst (wa_cons (we_tup (wa_cons (we_of (pe_ix ix_tup (pv 0) pe_int (fun _ _ => rfl))) (wa_cons (we_of (pv 3)) wa_nil))) (wa_cons (we_tup (wa_cons (we_of (pe_own o__law_plus hr rfl (pa_cons (pv 2) (pa_cons (pe_ix ix_tup (pv 0) pe_int (fun _ _ => rfl)) (pa_cons (pe_un un_neg pe_int) pa_nil))))) (wa_cons (we_of (pv 3)) wa_nil))) wa_nil)))))) pss_nil) (pss_cons (ps_if (pt_cmpR op_eq (pe_ix ix_tup (pv 0) pe_int (fun _ _ => rfl)) pe_str (nomark _)) (pss_one (ps_ret (WE.w (we_lst (wa_cons (we_tup (wa_cons (we_of (pv 2)) (wa_cons (we_of (pe_ix ix_tup (pv 0) pe_int (fun _ _ => rfl))) wa_nil))) (wa_cons (we_tup (wa_cons (we_of (pv 2)) (wa_cons (we_of (pe_own o__law_plus hr rfl (pa_cons (pv 3) (pa_cons (pe_ix ix_tup (pv 0) pe_int (fun _ _ => rfl)) (pa_cons (pe_un un_neg pe_int) pa_nil))))) wa_nil))) wa_nil)))))) pss_nil) (pss_cons (ps_if (pt_cmpR op_eq (pe_ix ix_tup (pv 0) pe_int (fun _ _ => rfl)) pe_str (nomark _)) (pss_one (ps_ret (WE.w (we_lst (wa_cons (we_tup (wa_cons (we_of (pe_own o__law_plus hr rfl (pa_cons (pv 2) (pa_cons (pe_ix ix_tup (pe_ix ix_list (pv 1) pe_int (fun _ _ => rfl)) pe_int (fun _ _ => rfl)) (pa_cons pe_int pa_nil))))) (wa_cons (we_of (pv 3)) wa_nil))) wa_nil))))) pss_nil) (pss_cons (ps_if (pt_cmpR op_eq (pe_ix ix_tup (pv 0) pe_int (fun _ _ => rfl)) pe_str (nomark _)) (pss_one (ps_ret (WE.w (we_lst (wa_cons (we_tup (wa_cons (we_of (pv 2)) (wa_cons (we_of (pe_own o__law_plus hr rfl (pa_cons (pv 3) (pa_cons (pe_ix ix_tup (pe_ix ix_list (pv 1) pe_int (fun _ _ => rfl)) pe_int (fun _ _ => rfl)) (pa_cons pe_int pa_nil))))) wa_nil))) wa_nil))))) pss_nil) (pss_cons (ps_if (pt_cmpR op_eq (pe_ix ix_tup (pv 0) pe_int (fun _ _ => rfl)) pe_str (nomark _)) (pss_one (ps_ret (WE.w (we_lst (wa_cons (we_tup (wa_cons (we_of (pe_own o__law_share hr rfl (pa_cons (pv 2) (pa_cons pe_int (pa_cons (pe_ix ix_tup (pv 0) pe_int (fun _ _ => rfl)) pa_nil))))) (wa_cons (we_of (pe_own o__law_share hr rfl (pa_cons (pv 3) (pa_cons (pe_ix ix_tup (pv 0) pe_int (fun _ _ => rfl)) (pa_cons pe_int pa_nil))))) wa_nil))) wa_nil))))) pss_nil) (pss_cons (ps_if (pt_cmpR op_eq (pe_ix ix_tup (pv 0) pe_int (fun _ _ => rfl)) pe_str (nomark _)) (pss_one (ps_ret (WE.w (we_lst (wa_cons (we_tup (wa_cons (we_of (pe_own o__law_share hr rfl (pa_cons (pv 2) (pa_cons (pe_ix ix_tup (pv 0) pe_int (fun _ _ => rfl)) (pa_cons pe_int pa_nil))))) (wa_cons (we_of (pe_own o__law_share hr rfl (pa_cons (pv 3) (pa_cons pe_int (pa_cons (pe_ix ix_tup (pv 0) pe_int (fun _ _ => rfl)) pa_nil))))) wa_nil))) wa_nil))))) pss_nil) (pss_one (ps_ret (WE.w (we_lst (wa_cons (we_tup (wa_cons (we_of (pv 3)) (wa_cons (we_of (pv 2)) wa_nil))) wa_nil)))))))))))), ?_⟩
  rw [show start ["_law_deed_here", "_law_some", "_law_width", "_law_height"] [.ref p, .ref a] = [some (.ref p), some (.ref a), none, none] from rfl]
  cases e with
  | cut al n s =>
    obtain ⟨pq, h0, hs⟩ := he
    cases al with
    | false =>
      have h0 : H p = some (.tup [.str (Str.ofString "across"), .int n, .ref pq]) := h0
      have ha : H a = some (.lst [.ref c.p]) := ha
      have ct := hc.t
      have ct' := hc'.t
      repeat walk_at "rd"
      refine if_d (fun _ => ?_) (fun c => absurd rfl c)
      repeat walk_at "rd"
      obtain ⟨f1, f2, f3, f4⟩ := hf
      refine i_newTf (by simp) fun r1 H1 hr1 s1 e1 => ?_
      have h0 := s1 _ _ h0
      repeat walk_at "rd"
      refine c__law_plus (s1 _ _ hc.w) (s1 _ _ hs) f1 f2 (by decide +kernel) fun r2 H2 s2 e2 => ?_
      rw [plS_neg] at e2
      repeat walk_at "rd"
      refine i_newTf (by simp) fun r3 H3 hr3 s3 e3 => ?_
      repeat walk_at "rd"
      refine i_newLf (by simp) fun r HL nr sL eL => ?_
      have t4 := ((s1.trans s2).trans s3).trans sL
      refine q r [⟨r1, pq, c.ph, ⟨s, c.b.h⟩⟩, ⟨r3, r2, c.ph, ⟨tkS c.b.w s, c.b.h⟩⟩] HL t4 (Same.nn ((s1.trans s2).trans s3) nr) eL (fun x hx => ?_) rfl
      rcases List.mem_cons.mp hx with rfl | hx
      · exact ⟨sL _ _ (s3 _ _ (s2 _ _ e1)), t4 _ _ hs, t4 _ _ hc.h⟩
      · rw [List.mem_singleton.mp hx]; exact ⟨sL _ _ e3, sL _ _ (s3 _ _ e2), t4 _ _ hc.h⟩
    | true =>
      have h0 : H p = some (.tup [.str (Str.ofString "along"), .int n, .ref pq]) := h0
      have ha : H a = some (.lst [.ref c.p]) := ha
      have ct := hc.t
      have ct' := hc'.t
      repeat walk_at "rd"
      refine if_d (fun c => absurd c (by decide +kernel)) (fun _ => ?_)
      repeat walk_at "rd"
      refine if_d (fun _ => ?_) (fun c => absurd rfl c)
      repeat walk_at "rd"
      obtain ⟨f1, f2, f3, f4⟩ := hf
      refine i_newTf (by simp) fun r1 H1 hr1 s1 e1 => ?_
      have h0 := s1 _ _ h0
      repeat walk_at "rd"
      refine c__law_plus (s1 _ _ hc.h) (s1 _ _ hs) f1 f2 (by decide +kernel) fun r2 H2 s2 e2 => ?_
      rw [plS_neg] at e2
      repeat walk_at "rd"
      refine i_newTf (by simp) fun r3 H3 hr3 s3 e3 => ?_
      repeat walk_at "rd"
      refine i_newLf (by simp) fun r HL nr sL eL => ?_
      have t4 := ((s1.trans s2).trans s3).trans sL
      refine q r [⟨r1, c.pw, pq, ⟨c.b.w, s⟩⟩, ⟨r3, c.pw, r2, ⟨c.b.w, tkS c.b.h s⟩⟩] HL t4 (Same.nn ((s1.trans s2).trans s3) nr) eL (fun x hx => ?_) rfl
      rcases List.mem_cons.mp hx with rfl | hx
      · exact ⟨sL _ _ (s3 _ _ (s2 _ _ e1)), t4 _ _ hc.w, t4 _ _ hs⟩
      · rw [List.mem_singleton.mp hx]; exact ⟨sL _ _ e3, t4 _ _ hc.w, sL _ _ (s3 _ _ e2)⟩
  | glue al n m =>
    have h0 := he
    cases al with
    | false =>
      have h0 : H p = some (.tup [.str (Str.ofString "beside"), .int n, .int m]) := h0
      have ha : H a = some (.lst [.ref c.p, .ref c'.p]) := ha
      have ct := hc.t
      have ct' := hc'.t
      repeat walk_at "rd"
      refine if_d (fun c => absurd c (by decide +kernel)) (fun _ => ?_)
      repeat walk_at "rd"
      refine if_d (fun c => absurd c (by decide +kernel)) (fun _ => ?_)
      repeat walk_at "rd"
      refine if_d (fun _ => ?_) (fun c => absurd rfl c)
      repeat walk_at "rd"
      refine c__law_plus hc.w hc'.w hf.2.1 hf.2.2 (by decide +kernel) fun r2 H2 s2 e2 => ?_
      rw [plS_one] at e2
      repeat walk_at "rd"
      refine i_newTf (by simp) fun rc HC nc sC eC => ?_
      repeat walk_at "rd"
      refine i_newLf (by simp) fun r HL nr sL eL => ?_
      refine q r [⟨rc, r2, c.ph, ⟨adS c.b.w c'.b.w, c.b.h⟩⟩] HL ((s2.trans sC).trans sL) (Same.nn (s2.trans sC) nr) eL (fun x hx => ?_) rfl
      rw [List.mem_singleton.mp hx]
      exact ⟨sL _ _ eC, sL _ _ (sC _ _ e2), sL _ _ (sC _ _ (s2 _ _ hc.h))⟩
    | true =>
      have h0 : H p = some (.tup [.str (Str.ofString "atop"), .int n, .int m]) := h0
      have ha : H a = some (.lst [.ref c.p, .ref c'.p]) := ha
      have ct := hc.t
      have ct' := hc'.t
      repeat walk_at "rd"
      refine if_d (fun c => absurd c (by decide +kernel)) (fun _ => ?_)
      repeat walk_at "rd"
      refine if_d (fun c => absurd c (by decide +kernel)) (fun _ => ?_)
      repeat walk_at "rd"
      refine if_d (fun c => absurd c (by decide +kernel)) (fun _ => ?_)
      repeat walk_at "rd"
      refine if_d (fun _ => ?_) (fun c => absurd rfl c)
      repeat walk_at "rd"
      refine c__law_plus hc.h hc'.h hf.2.1 hf.2.2 (by decide +kernel) fun r2 H2 s2 e2 => ?_
      rw [plS_one] at e2
      repeat walk_at "rd"
      refine i_newTf (by simp) fun rc HC nc sC eC => ?_
      repeat walk_at "rd"
      refine i_newLf (by simp) fun r HL nr sL eL => ?_
      refine q r [⟨rc, c.pw, r2, ⟨c.b.w, adS c.b.h c'.b.h⟩⟩] HL ((s2.trans sC).trans sL) (Same.nn (s2.trans sC) nr) eL (fun x hx => ?_) rfl
      rw [List.mem_singleton.mp hx]
      exact ⟨sL _ _ eC, sL _ _ (sC _ _ (s2 _ _ hc.w)), sL _ _ (sC _ _ e2)⟩
  | shift al n k =>
    have h0 := he
    cases al with
    | false =>
      have h0 : H p = some (.tup [.str (Str.ofString "stack"), .int n, .int k]) := h0
      have ha : H a = some (.lst [.ref c.p]) := ha
      have ct := hc.t
      have ct' := hc'.t
      repeat walk_at "rd"
      refine if_d (fun c => absurd c (by decide +kernel)) (fun _ => ?_)
      repeat walk_at "rd"
      refine if_d (fun c => absurd c (by decide +kernel)) (fun _ => ?_)
      repeat walk_at "rd"
      refine if_d (fun c => absurd c (by decide +kernel)) (fun _ => ?_)
      repeat walk_at "rd"
      refine if_d (fun c => absurd c (by decide +kernel)) (fun _ => ?_)
      repeat walk_at "rd"
      refine if_d (fun _ => ?_) (fun c => absurd rfl c)
      repeat walk_at "rd"
      refine c__law_share hc.w hf.2.2.1 (by decide +kernel) (by have := hf.1; omega) (hf.2.1) fun r1 H1 s1 e1 => ?_
      have h0 := s1 _ _ h0
      repeat walk_at "rd"
      refine c__law_share (s1 _ _ hc.h) hf.2.2.2 (hf.2.1) (by decide) (by decide +kernel) fun r2 H2 s2 e2 => ?_
      repeat walk_at "rd"
      refine i_newTf (by simp) fun rc HC nc sC eC => ?_
      repeat walk_at "rd"
      refine i_newLf (by simp) fun r HL nr sL eL => ?_
      refine q r [⟨rc, r1, r2, ⟨shS c.b.w 1 k, shS c.b.h k 1⟩⟩] HL (((s1.trans s2).trans sC).trans sL) (Same.nn ((s1.trans s2).trans sC) nr) eL (fun x hx => ?_) rfl
      rw [List.mem_singleton.mp hx]
      exact ⟨sL _ _ eC, sL _ _ (sC _ _ (s2 _ _ e1)), sL _ _ (sC _ _ e2)⟩
    | true =>
      have h0 : H p = some (.tup [.str (Str.ofString "spread"), .int n, .int k]) := h0
      have ha : H a = some (.lst [.ref c.p]) := ha
      have ct := hc.t
      have ct' := hc'.t
      repeat walk_at "rd"
      refine if_d (fun c => absurd c (by decide +kernel)) (fun _ => ?_)
      repeat walk_at "rd"
      refine if_d (fun c => absurd c (by decide +kernel)) (fun _ => ?_)
      repeat walk_at "rd"
      refine if_d (fun c => absurd c (by decide +kernel)) (fun _ => ?_)
      repeat walk_at "rd"
      refine if_d (fun c => absurd c (by decide +kernel)) (fun _ => ?_)
      repeat walk_at "rd"
      refine if_d (fun c => absurd c (by decide +kernel)) (fun _ => ?_)
      repeat walk_at "rd"
      refine if_d (fun _ => ?_) (fun c => absurd rfl c)
      repeat walk_at "rd"
      refine c__law_share hc.w hf.2.2.1 (hf.2.1) (by decide) (by decide +kernel) fun r1 H1 s1 e1 => ?_
      have h0 := s1 _ _ h0
      repeat walk_at "rd"
      refine c__law_share (s1 _ _ hc.h) hf.2.2.2 (by decide +kernel) (by have := hf.1; omega) (hf.2.1) fun r2 H2 s2 e2 => ?_
      repeat walk_at "rd"
      refine i_newTf (by simp) fun rc HC nc sC eC => ?_
      repeat walk_at "rd"
      refine i_newLf (by simp) fun r HL nr sL eL => ?_
      refine q r [⟨rc, r1, r2, ⟨shS c.b.w k 1, shS c.b.h 1 k⟩⟩] HL (((s1.trans s2).trans sC).trans sL) (Same.nn ((s1.trans s2).trans sC) nr) eL (fun x hx => ?_) rfl
      rw [List.mem_singleton.mp hx]
      exact ⟨sL _ _ eC, sL _ _ (sC _ _ (s2 _ _ e1)), sL _ _ (sC _ _ e2)⟩
  | turn n =>
    have h0 := he
    have h0 : H p = some (.tup [.str (Str.ofString "turn"), .int n]) := h0
    have ha : H a = some (.lst [.ref c.p]) := ha
    have ct := hc.t
    have ct' := hc'.t
    repeat walk_at "rd"
    refine if_d (fun c => absurd c (by decide +kernel)) (fun _ => ?_)
    repeat walk_at "rd"
    refine if_d (fun c => absurd c (by decide +kernel)) (fun _ => ?_)
    repeat walk_at "rd"
    refine if_d (fun c => absurd c (by decide +kernel)) (fun _ => ?_)
    repeat walk_at "rd"
    refine if_d (fun c => absurd c (by decide +kernel)) (fun _ => ?_)
    repeat walk_at "rd"
    refine if_d (fun c => absurd c (by decide +kernel)) (fun _ => ?_)
    repeat walk_at "rd"
    refine if_d (fun c => absurd c (by decide +kernel)) (fun _ => ?_)
    repeat walk_at "rd"
    refine i_newTf (by simp) fun rc HC nc sC eC => ?_
    repeat walk_at "rd"
    refine i_newLf (by simp) fun r HL nr sL eL => ?_
    refine q r [⟨rc, c.ph, c.pw, ⟨c.b.h, c.b.w⟩⟩] HL (((Same.refl H).trans sC).trans sL) (Same.nn ((Same.refl H).trans sC) nr) eL (fun x hx => ?_) rfl
    rw [List.mem_singleton.mp hx]
    exact ⟨sL _ _ eC, sL _ _ (sC _ _ hc.h), sL _ _ (sC _ _ hc.w)⟩
set_option maxHeartbeats 4000000 in
theorem ok__law_right {f : Addr} {fd : FuncData} (F : Fun K "_law_right" "_law_right" s__law_right f fd) (B : Bl mg)  (o_Yard_boards : OwnM P w K mg base CX0 cs.Yard 1 "boards" ["self"] [] (sp_Yard_boards cs)) (o__law_is_heap : Own P w K mg base 3 "_law_is_heap" ["_law_found", "_law_due"] [] sp__law_is_heap) (o_Yard_log : OwnM P w K mg base CX0 cs.Yard 1 "log" ["self"] [] (sp_Yard_log cs)) (o_Yard_heap : OwnM P w K mg base CX0 cs.Yard 1 "heap" ["self"] [] (sp_Yard_heap cs)) (o__law_whole : Own P w K mg base 1 "_law_whole" ["_law_found"] [] sp__law_whole) : FnOk P w K mg base CX0 4 f fd ["_law_yard", "_law_lying", "_law_log"] (sp__law_right cs) := by
  refine F.ok (k := 3) sc__law_right (fun vs H Q E h => ?_) (fun cdv A outer s H vs Q E hr h => ?_)
  · obtain ⟨y, d, tn, cl, ns, lg, a, lo, f, rfl, hy, hL, hlo, rel, lgr, nl, q⟩ := h
    rfl
  obtain ⟨y, d, tn, cl, ns, lg, a, lo, f, rfl, hy, hL, hlo, rel, lgr, nl, q⟩ := h
  refine ⟨_, (pss_cons (ps_set (i := 3) sc__law_right.nd rfl (Or.inl rfl) (pe_mown0 o_Yard_boards pass0 hr (pv 0))) (pss_cons (ps_set (i := 4) sc__law_right.nd rfl (Or.inl rfl) (pe_callB (call_sortD rfl) rfl B.sorted bt_sorted (pa_cons (pv 1) pa_nil))) (pss_cons (ps_if (PW.pt (pw_or (pt_not (pt_val (pe_callB call_isinst rfl B.isinstance bt_isinstance (pa_cons (pv 3) (pa_cons (pe_bltn (v := .ty "list") rfl B.list bt_list rfl) pa_nil))))) (pw_or1 (pt_cmpR op_ne (pe_callB call_lenR rfl B.len PySem.boot_len (pa_cons (pv 3) pa_nil)) (pe_callB call_lenR rfl B.len PySem.boot_len (pa_cons (pv 4) pa_nil)) (nomark _))))) (pss_one (ps_ret pe_bl)) pss_nil) (pss_cons (ps_for PassesOwn.never rfl (pi_zip rfl B.zip bt_zip (pa_cons (pv 3) (pa_cons (pv 4) pa_nil))) (pg_tup (n := 2) rfl (pgs_cons (pg_name (i := 5) sc__law_right.nd rfl (Or.inl rfl)) (pgs_cons (pg_name (i := 6) sc__law_right.nd rfl (Or.inl rfl)) pgs_nil))) (pss_cons (ps_if (PW.pt (pw_or (pt_not (pt_val (pe_callB call_isinst rfl B.isinstance bt_isinstance (pa_cons (pv 5) (pa_cons (pe_bltn (v := .ty "tuple") rfl B.tuple bt_tuple rfl) pa_nil))))) (pw_or (pt_cmpR op_ne (pe_callB call_lenR rfl B.len PySem.boot_len (pa_cons (pv 5) pa_nil)) pe_int (nomark _)) (pw_or (pt_not (pt_val (pe_own o__law_whole hr rfl (pa_cons (pe_ix ix_tup (pv 5) pe_int (fun _ _ => rfl)) pa_nil)))) (pw_or1 (pt_cmpR op_ne (pe_ix ix_tup (pv 5) pe_int (fun _ _ => rfl)) (pv 6) (nomark _))))))) (pss_one (ps_ret pe_bl)) pss_nil) (pss_one (ps_if (pt_not (pt_val (pe_own o__law_is_heap hr rfl (pa_cons (pe_lst (pa_cons (pe_ix ix_tup (pv 5) pe_int (fun _ _ => rfl)) pa_nil)) (pa_cons (pe_lst (pa_cons (pe_dget (hu_of hr) (pv 1) (pv 6) (fun _ _ => rfl)) pa_nil)) pa_nil))))) (pss_one (ps_ret pe_bl)) pss_nil)))) (pss_cons (ps_if (PW.pt (pw_or (pt_not (pt_val (pe_own o__law_is_heap hr rfl (pa_cons (pe_mown0 o_Yard_heap pass0 hr (pv 0)) (pa_cons (pe_comp ["_law_name"] [1] rfl (pi_list (pv 4)) (fun _ _ _ _ _ => (pg_name (i := 0) (show List.Nodup (α := Str) ["_law_name", "_law_lying"] by decide +kernel) rfl (Or.inl rfl))) (fun _ _ _ _ _ => pifs_nil) (fun _ _ _ _ _ => (pe_dget (hu_of hr) (pv 1) (pv 0) (fun _ _ => rfl)))) pa_nil))))) (pw_or1 (pt_cmpR (op_neS hr.units) (pe_mown0 o_Yard_log pass0 hr (pv 0)) (pv 2) (nomark _))))) (pss_one (ps_ret pe_bl)) pss_nil) (pss_cons (ps_expr (pe_bm0 PySem.F.plainAttrs_list PySem.F.slot_list_clear PySem.F.type_list_clear mt_clear (pv 3))) (pss_cons (ps_expr (pe_bm PySem.F.plainAttrs_list PySem.F.slot_list_append PySem.F.type_list_append mt_append (pe_mown0 o_Yard_heap pass0 hr (pv 0)) (pa_cons pe_non pa_nil))) (pss_cons (ps_expr (pe_bm PySem.F.plainAttrs_list PySem.F.slot_list_append PySem.F.type_list_append mt_append (pe_mown0 o_Yard_log pass0 hr (pv 0)) (pa_cons pe_non pa_nil))) (pss_one (ps_ret (pe_cmpR (op_eqL hr.units) (pe_comp ["_law_one"] [] rfl (pi_list (pe_mown0 o_Yard_boards pass0 hr (pv 0))) (fun _ _ _ _ _ => (pg_name (i := 0) (show List.Nodup (α := Str) ["_law_one"] by decide +kernel) rfl (Or.inl rfl))) (fun _ _ _ _ _ => pifs_nil) (fun _ _ _ _ _ => (pe_ix (r := rIxT K) ix_tup (pv 0) pe_int (fun _ _ => rfl)))) (pv 4) (nomark _)))))))))))), ?_⟩
  rw [show start ["_law_yard", "_law_lying", "_law_log", "_law_found", "_law_names", "_law_one", "_law_name"] [.ref y.p, .ref a, .ref lo] = [some (.ref y.p), some (.ref a), some (.ref lo), none, none, none, none] from rfl]
  repeat walk_at "rd"
  refine ⟨_, _, _, rfl, hy.o, rfl, ?_⟩
  repeat walk_at "rd"
  refine c_Yard_boards hy fun r H1 ps s1 nr e1 hps => ?_
  repeat walk_at "rd"
  refine i_sortD (s1 _ _ hL.l) hy.up nl fun p2 H2 n2 s2 e2 => ?_
  have r2 : r ≠ p2 := ne_of_none e1 n2
  have e1 := s2 _ _ e1
  have t2 := s1.trans s2
  have hlen : (ps.map V.ref).length = ((ns.map fun n : Nat => (n : Int)).map V.int).length := by simp only [List.length_map]; exact hps.1
  repeat walk_at "rd"
  refine i_isK (.lst e1) rfl ?_
  repeat walk_at "rd"
  refine if_ne (by rw [hlen]) ?_
  repeat walk_at "rd"
  refine i_forZ ?_
  repeat walk_at "rd"
  refine ⟨r, p2, _, _, rfl, SqL.of e1, SqL.of e2, for_zip (K := K) (a := r) (b := p2) hlen (fun i σ H' => ∃ v v', σ = [some (.ref y.p), some (.ref a), some (.ref lo), some (.ref r), some (.ref p2), v, v'] ∧ Same H2 H') ⟨_, _, rfl, Same.refl _⟩ (fun i σ H' _ z => by obtain ⟨_, _, _, z⟩ := z; exact ⟨SqL.of (z _ _ e1), SqL.of (z _ _ e2)⟩) ?_ ?_⟩
  · rintro i x y' T σ H0 hi hi2 hT ⟨v, v', rfl, s'⟩
    rw [List.getElem?_map] at hi
    obtain ⟨p, hp, rfl⟩ := Option.map_eq_some_iff.mp hi
    obtain ⟨n, c, hn, hc, hpt⟩ := hps.2 i p hp
    have hy2 : y' = .int (n : Int) := by
      rw [List.getElem?_map, List.getElem?_map, hn] at hi2
      exact (Option.some.inj hi2).symm
    subst hy2
    have eT : upd H0 T (.tup [.ref p, .int (n : Int)]) T = some (.tup [.ref p, .int (n : Int)]) := upd_same
    replace s' : Same H2 (upd H0 T (.tup [.ref p, .int (n : Int)])) := s'.trans (same_upd hT _)
    generalize upd H0 T (.tup [.ref p, .int (n : Int)]) = H' at eT s' ⊢
    have hn' := List.mem_of_getElem? hn
    obtain ⟨c2, hc2, hb⟩ := rel n hn'
    have : c2 = c := Option.some.inj (hc2.symm.trans hc)
    subst this
    have hpt := s' _ _ (s2 _ _ hpt)
    have t' := t2.trans s'
    have hL' := hL.same t'
    have hc' := (hy.at' c2 (List.mem_of_getElem? hc)).same t'
    repeat walk_at "rd"
    refine if_ne (by rfl) ?_
    repeat walk_at "rd"
    refine if_ne rfl ?_
    repeat walk_at "rd"
    refine i_newLf (by simp) fun q3 H3 n3 s3 e3 => ?_
    have hL3 := hL'.same s3
    repeat walk_at "rd"
    refine ⟨a, _, rfl, DGet.k (k := .inl (n : Int)) hL3.l |> (fun z => by rw [valV_cdK hn'] at z; exact z), ?_⟩
    repeat walk_at "rd"
    refine i_newLf (by simp) fun q4 H4 n4 s4 e4 => ?_
    repeat walk_at "rd"
    refine c__law_is_heap (C := [c2]) (D := [f n]) (s4 _ _ e3) e4 (fun x hx => by rw [List.mem_singleton.mp hx]; exact (hc'.same s3).same s4) (fun x hx => by rw [List.mem_singleton.mp hx]; exact (hL3.at' n hn').same s4) (by simp only [List.map_cons, List.map_nil, hb]) ?_
    repeat walk_at "rd"
    exact ⟨_, _, rfl, (s'.trans s3).trans s4⟩
  rintro σ H3 ⟨v, v', rfl, s3⟩
  have t3 := t2.trans s3
  have hy3 := hy.same t3
  have e2 := s3 _ _ e2
  repeat walk_at "rd"
  refine ⟨_, _, _, rfl, hy3.o, rfl, ?_⟩
  repeat walk_at "rd"
  refine c_Yard_heap hy3 fun r4 H4 s4 n4 e4 => ?_
  have e2 := s4 _ _ e2
  have t4 := t3.trans s4
  repeat walk_at "rd"
  refine i_compL ?_
  repeat walk_at "rd"
  refine ⟨p2, rfl, ⟨_, SqL.of e2⟩, fun O hO => comp_list (K := K) (a := p2) (ys := (ns.map fun n : Nat => (n : Int)).map V.int) (fun i xs σ' H' => ∃ v : Option V, σ' = [v, some (.ref a)] ∧ xs = ((ns.take i).map f).map Cell.v ∧ H' O = some (.lst xs) ∧ SameX O H4 H') ⟨none, rfl, rfl, upd_same, fun b o e n => by rw [upd_ne n]; exact e⟩ (fun i xs σ' H' _ z => by obtain ⟨v, _, _, _, z⟩ := z; exact SqL.of (z _ _ e2 (ne_of_none e2 hO))) ?_ ?_⟩
  · rintro i x xs σ' H' hi ⟨v, rfl, rfl, eO, sx⟩
    have hi' := (List.getElem?_eq_some_iff.mp hi).1
    rw [List.getElem?_map, List.getElem?_map] at hi
    obtain ⟨z, hz, rfl⟩ := Option.map_eq_some_iff.mp hi
    obtain ⟨n, hn, rfl⟩ := Option.map_eq_some_iff.mp hz
    have s' : Same H4 H' := fun b o e => sx b o e (ne_of_none e hO)
    have hL' := hL.same (t4.trans s')
    have hn' := List.mem_of_getElem? hn
    repeat walk_at "rd"
    refine ⟨a, _, rfl, DGet.k (k := .inl (n : Int)) hL'.l |> (fun z => by rw [valV_cdK hn'] at z; exact z), ?_⟩
    repeat walk_at "rd"
    refine i_append eO (by simp only [List.length_map, List.length_take] at hi' ⊢; omega) fun H5 x5 e5 => ?_
    refine cnext hi' ⟨_, rfl, rfl, ?_, sx.trans x5⟩
    rw [List.take_succ, hn, List.map_append, List.map_append]
    exact e5
  rintro xs σ' H5 ⟨v, rfl, rfl, eO, sx⟩
  have s5 : Same H4 H5 := fun b o e => sx b o e (ne_of_none e hO)
  rw [List.length_map, List.length_map, List.take_length] at eO
  have t5 := t4.trans s5
  have hy5 := hy.same t5
  have e2 := s5 _ _ e2
  repeat walk_at "rd"
  refine c__law_is_heap (s5 _ _ e4) eO (fun c hc => hy5.at' c (pick_mem hc)) (fun c hc => by
    obtain ⟨n, hn, rfl⟩ := List.mem_map.mp hc
    exact (hL.same t5).at' n hn) (pick_rel rel) ?_
  repeat walk_at "rd"
  refine ⟨_, _, _, rfl, hy5.o, rfl, ?_⟩
  repeat walk_at "rd"
  refine c_Yard_log hy5 fun r6 H6 s6 n6 e6 => ?_
  have t6 := t5.trans s6
  have e2 := s6 _ _ e2
  repeat walk_at "rd"
  refine ⟨r6, lo, lg, rfl, rfl, SqL.of e6, SqL.of (t6 _ _ hlo), lgr, ?_⟩
  have e1 := s6 _ _ (s5 _ _ (s4 _ _ (s3 _ _ e1)))
  repeat walk_at "rd"
  refine i_clear e1 fun H7 x7 => ?_
  have e2 := x7 _ _ e2 (Ne.symm r2)
  have t7 : Same H H7 := fun b o e => x7 b o (t6 b o e) (ne_of_none e nr)
  have hy7 := hy.same t7
  repeat walk_at "rd"
  refine ⟨_, _, _, rfl, hy7.o, rfl, ?_⟩
  repeat walk_at "rd"
  refine c_Yard_heap hy7 fun r8 H8 s8 n8 e8 => ?_
  have z8 : p2 ≠ r8 := ne_of_none e2 n8
  have e2 := s8 _ _ e2
  have l1 := up_len hy.up hy.lt
  have l2 := hy.lc
  have l3 := pick_len (cl := cl) (ns := ns)
  repeat walk_at "rd"
  refine i_append e8 (by rw [List.length_map]; omega) fun H9 x9 e9 => ?_
  have t9 : Same H H9 := fun b o e => x9 b o (s8 b o (t7 b o e)) (ne_of_none (t7 b o e) n8)
  have hy9 := hy.same t9
  have e2 := x9 _ _ e2 z8
  repeat walk_at "rd"
  refine ⟨_, _, _, rfl, hy9.o, rfl, ?_⟩
  repeat walk_at "rd"
  refine c_Yard_log hy9 fun ra Ha sa na ea => ?_
  have z9 : p2 ≠ ra := ne_of_none e2 na
  have e2 := sa _ _ e2
  have l4 := hy.ll
  repeat walk_at "rd"
  refine i_append ea (by omega) fun Hb xb eb => ?_
  have tb : Same H Hb := fun b o e => xb b o (sa b o (t9 b o e)) (ne_of_none (t9 b o e) na)
  have hyb := hy.same tb
  have e2 := xb _ _ e2 z9
  repeat walk_at "rd"
  refine i_compL ?_
  repeat walk_at "rd"
  refine ⟨_, _, _, rfl, hyb.o, rfl, ?_⟩
  repeat walk_at "rd"
  refine c_Yard_boards hyb fun rc Hc qs sc nc ec hqs => ?_
  have e2 := sc _ _ e2
  repeat walk_at "rd"
  refine ⟨rc, rfl, ⟨_, SqL.of ec⟩, fun O' hO' => comp_list (K := K) (a := rc) (ys := qs.map V.ref) (fun i xs σ' H' => ∃ v : Option V, σ' = [v] ∧ xs = ((ns.take i).map fun n : Nat => (n : Int)).map V.int ∧ H' O' = some (.lst xs) ∧ SameX O' Hc H') ⟨none, rfl, rfl, upd_same, fun b o e n => by rw [upd_ne n]; exact e⟩ (fun i xs σ' H' _ z => by obtain ⟨v, _, _, _, z⟩ := z; exact SqL.of (z _ _ ec (ne_of_none ec hO'))) ?_ ?_⟩
  · rintro i x xs σ' H' hi ⟨v, rfl, rfl, eO, sx⟩
    have hi' := (List.getElem?_eq_some_iff.mp hi).1
    rw [List.getElem?_map] at hi
    obtain ⟨p, hp, rfl⟩ := Option.map_eq_some_iff.mp hi
    obtain ⟨n, c, hn, hc, hpt⟩ := hqs.2 i p hp
    have hpt := sx _ _ hpt (ne_of_none hpt hO')
    have hi3 := (List.getElem?_eq_some_iff.mp hn).1
    repeat walk_at "rd"
    refine i_append eO (by simp only [List.length_map, List.length_take]; omega) fun H5 x5 e5 => ?_
    refine cnext hi' ⟨_, rfl, rfl, ?_, sx.trans x5⟩
    rw [List.take_succ, hn, List.map_append, List.map_append]
    exact e5
  rintro xs σ' Hd ⟨v, rfl, rfl, eO', sx⟩
  have sd : Same Hc Hd := fun b o e => sx b o e (ne_of_none e hO')
  rw [List.length_map, hqs.1, List.take_length] at eO'
  repeat walk_at "rd"
  refine i_eqLI eO' (sd _ _ e2) ?_
  exact q Hd ((tb.trans sc).trans sd)
set_option maxHeartbeats 4000000 in
theorem ok__law_at {f : Addr} {fd : FuncData} (F : Fun K "_law_at" "_law_at" s__law_at f fd) (B : Bl mg)  (o__law_share : Own P w K mg base 3 "_law_share" ["_law_one", "_law_top", "_law_bottom"] [] sp__law_share) (o__law_below : Own P w K mg base 4 "_law_below" ["_law_d", "_law_one", "_law_other"] [] sp__law_below) : FnOk P w K mg base CX0 5 f fd ["_law_d", "_law_digits_here", "_law_side_here", "_law_pool"] sp__law_at := by
  refine F.ok (k := 4) sc__law_at (fun vs H Q E h => ?_) (fun cdv A outer s H vs Q E hr h => ?_)
  · obtain ⟨d, l, p, qa, ds, s, P, D, M, K', rfl, hl, n8, hds, h1, so, hP, oP, zz, hR, q⟩ := h
    rfl
  obtain ⟨d, l, p, qa, ds, s, P, D, M, K', rfl, hl, n8, hds, h1, so, hP, oP, zz, hR, q⟩ := h
  refine ⟨_, (pss_cons (ps_set (i := 4) sc__law_at.nd rfl (Or.inl rfl) (pe_ix ix_list (pv 3) (pe_op op_mod (pe_ix ix_list (pv 1) pe_int (fun _ _ => rfl)) pe_int) (fun _ _ => rfl))) (pss_cons (ps_if (PW.pt (pw_and (pt_cmpR op_eq (pe_op op_mod (pe_ix ix_list (pv 1) pe_int (fun _ _ => rfl)) pe_int) pe_int (nomark _)) (pw_and1 (pt_val (pe_own o__law_below hr rfl (pa_cons (pv 0) (pa_cons (pv 4) (pa_cons (pv 2) pa_nil)))))))) (pss_one (ps_ret (pv 4))) pss_nil) (pss_cons (ps_set (i := 5) sc__law_at.nd rfl (Or.inl rfl) (pe_op op_add pe_int (pe_op op_mod (pe_ix ix_list (pv 1) pe_int (fun _ _ => rfl)) pe_int))) (pss_one (ps_ret (pe_own o__law_share hr rfl (pa_cons (pv 2) (pa_cons (pe_op op_add pe_int (pe_op op_mod (pe_ix ix_list (pv 1) pe_int (fun _ _ => rfl)) (pe_op op_sub (pv 5) pe_int))) (pa_cons (pv 5) pa_nil))))))))), ?_⟩
  rw [show start ["_law_d", "_law_digits_here", "_law_side_here", "_law_pool", "_law_at_here", "_law_bottom"] [.int d, .ref l, .ref p, .ref qa] = [some (.int d), some (.ref l), some (.ref p), some (.ref qa), none, none] from rfl]
  have dlo := hR.lo
  have hd : Bd 64 d := bd_range (B := 99) (by omega) hR.hi (by decide +kernel)
  have sk : SY s := zz.sy so
  obtain ⟨x3, g3', a3, b3⟩ := dig n8 hds 3 (by decide) (by decide)
  obtain ⟨x4, g4, a4, b4⟩ := dig n8 hds 4 (by decide) (by decide)
  obtain ⟨x5, g5, a5, b5⟩ := dig n8 hds 5 (by decide) (by decide)
  obtain ⟨x6, g6, a6, b6⟩ := dig n8 hds 6 (by decide) (by decide)
  obtain ⟨y, hy, gy, ey⟩ := hP.get (i := x3 % 3) (by omega) (by omega)
  have oy := oP y hy
  have hPl := hP.l
  have fin : ∀ (r : Addr) (H' : Hp), Same H H' → SdAt H' r (shS s (1 + x6 % (2 + x5 % 1000 - 1)) (2 + x5 % 1000)) → Q (.ref r) H' := fun r H' s' e => by
    have h4 := Int.emod_nonneg x6 (show 2 + x5 % 1000 - 1 ≠ 0 by omega)
    have h5 := Int.emod_lt_of_pos x6 (show 0 < 2 + x5 % 1000 - 1 by omega)
    generalize x6 % (2 + x5 % 1000 - 1) = t at *
    have hk : 2 ≤ 2 + x5 % 1000 ∧ 2 + x5 % 1000 ≤ 1001 := by omega
    generalize 2 + x5 % 1000 = k at *
    exact q r H' _ k s' e (by omega) (bd_range (B := 1001) (by omega) (by omega) (by decide)) ((sh_so hR so (by omega) (by omega) (bd_range (k := 10) (B := 1001) (by omega) (by omega) (by decide))).mono (by omega)) (tk_sh hR so.z1 so.up (by omega) (by omega))
  repeat (first | walk_at "rd" | refine i_ixL hl g3' ?_ | refine i_ixL hl g4 ?_ | refine i_ixL hPl gy ?_)
  refine if_d (fun c1 => ?_) (fun c1 => ?_)
  · repeat walk_at "rd"
    refine c__law_below ey h1 (zz.sy oy) sk hd fun H1 s1 => ?_
    have hl := s1 _ _ hl
    repeat walk_at "rd"
    refine if_d (fun c2 => ?_) (fun c2 => ?_)
    · repeat walk_at "rd"
      exact q y.1 H1 y.2 1 s1 (s1 _ _ ey) (by decide) (by decide) (by rw [Int.mul_one]; exact oy.mono (by omega)) (tk_lt hR so.z1 oy.z1 c2)
    · repeat (first | walk_at "rd" | refine i_ixL hl g5 ?_ | refine i_ixL hl g6 ?_)
      have h4 := Int.emod_nonneg x6 (show 2 + x5 % 1000 - 1 ≠ 0 by omega)
      have h5 := Int.emod_lt_of_pos x6 (show 0 < 2 + x5 % 1000 - 1 by omega)
      repeat (first | walk_at "rd" | refine i_ixL hl g5 ?_ | refine i_ixL hl g6 ?_)
      refine c__law_share (s1 _ _ h1) sk (bd_small 64 (by omega) (by omega) (by decide)) (by omega) (bd_small 64 (by omega) (by omega) (by decide)) fun r Hz sz ez => ?_
      exact fin r Hz (s1.trans sz) ez
  · repeat (first | walk_at "rd" | refine i_ixL hl g5 ?_ | refine i_ixL hl g6 ?_)
    have h4 := Int.emod_nonneg x6 (show 2 + x5 % 1000 - 1 ≠ 0 by omega)
    have h5 := Int.emod_lt_of_pos x6 (show 0 < 2 + x5 % 1000 - 1 by omega)
    repeat (first | walk_at "rd" | refine i_ixL hl g5 ?_ | refine i_ixL hl g6 ?_)
    refine c__law_share h1 sk (bd_small 64 (by omega) (by omega) (by decide)) (by omega) (bd_small 64 (by omega) (by omega) (by decide)) fun r Hz sz ez => ?_
    exact fin r Hz (sz) ez
theorem ndrop_len : ∀ {ms : List Int} {ns : List Nat}, (ndrop ns ms).length ≤ ns.length
  | [], _ => Nat.le_refl _
  | _ :: ms, ns => Nat.le_trans (ndrop_len (ms := ms)) (List.length_filter_le ..)
set_option maxHeartbeats 4000000 in
theorem ok__law_done {f : Addr} {fd : FuncData} (F : Fun K "_law_done" "_law_done" s__law_done f fd) (B : Bl mg)  (o__law_new : Own P w K mg base 4 "_law_new" ["_law_deed_here", "_law_some"] [] sp__law_new) : FnOk P w K mg base CX0 5 f fd ["_law_lying", "_law_used", "_law_deed_here"] sp__law_done := by
  refine F.ok (k := 4) sc__law_done (fun vs H Q E h => ?_) (fun cdv A outer s H vs Q E hr h => ?_)
  · obtain ⟨a, p, ns, f, k, d, D, M, e, n, m, rfl, hL, lt, nl, he, gd, q⟩ := h
    rfl
  obtain ⟨a, p, ns, f, k, d, D, M, e, n, m, rfl, hL, lt, nl, he, gd, q⟩ := h
  refine ⟨_, (pss_cons (ps_set (i := 3) sc__law_done.nd rfl (Or.inl rfl) (pe_lst (pa_cons (pe_ix ix_tup (pv 2) pe_int (fun _ _ => rfl)) pa_nil))) (pss_cons (ps_cut (ps_if (pt_cmpR op_in_seq (pe_ix ix_tup (pv 2) pe_int (fun _ _ => rfl)) (pe_tup (pa_cons pe_str (pa_cons pe_str pa_nil))) (by with_unfolding_all rfl)) (pss_one (ps_expr (pe_bm PySem.F.plainAttrs_list PySem.F.slot_list_append PySem.F.type_list_append mt_append (pv 3) (pa_cons (pe_ix ix_tup (pv 2) pe_int (fun _ _ => rfl)) pa_nil)))) pss_nil)) (pss_cons (ps_set (i := 4) sc__law_done.nd rfl (Or.inl rfl) (pe_own o__law_new hr rfl (pa_cons (pv 2) (pa_cons (pe_comp ["_law_name"] [0] rfl (pi_list (pv 3)) (fun _ _ _ _ _ => (pg_name (i := 0) (show List.Nodup (α := Str) ["_law_name", "_law_lying"] by decide +kernel) rfl (Or.inl rfl))) (fun _ _ _ _ _ => pifs_nil) (fun _ _ _ _ _ => (pe_dget (hu_of hr) (pv 1) (pv 0) (fun _ _ => rfl)))) pa_nil)))) (pss_cons (ps_set (i := 5) sc__law_done.nd rfl (Or.inl rfl) (pe_callTy call_dictC rfl B.dict bt_dict (pa_cons (pv 0) pa_nil))) (pss_cons (ps_for PassesOwn.never rfl (pi_list (pv 3)) (pg_name (i := 6) sc__law_done.nd rfl (Or.inl rfl)) (pss_one (ps_expr (pe_dpop1 (pv 5) (pv 6) ⟨rfl, rfl, rfl, rfl⟩)))) (pss_cons (ps_for PassesOwn.never rfl (pi_range1 rfl B.range (pa_cons (pe_callB call_lenR rfl B.len PySem.boot_len (pa_cons (pv 4) pa_nil)) pa_nil)) (pg_name (i := 7) sc__law_done.nd rfl (Or.inl rfl)) (pss_one (ps_dput (hu_of hr) (pv 5) (pe_op op_add (pv 1) (pv 7)) (pe_ix ix_list (pv 4) (pv 7) (fun _ _ => rfl)) rfl))) (pss_one (ps_ret (pe_tup (pa_cons (pv 5) (pa_cons (pe_op op_add (pv 1) (pe_callB call_lenR rfl B.len PySem.boot_len (pa_cons (pv 4) pa_nil))) pa_nil))))))))))), ?_⟩
  rw [show start ["_law_lying", "_law_used", "_law_deed_here", "_law_names", "_law_new_here", "_law_left", "_law_name", "_law_k"] [.ref a, .int (k : Int), .ref p] = [some (.ref a), some (.int (k : Int)), some (.ref p), none, none, none, none, none] from rfl]
  obtain ⟨rs, hp⟩ := he.tup
  have hcn := hL.at' n gd.hn
  have hcm := hL.at' m gd.hm
  repeat walk_at "rd"
  refine i_ixT hp (atI_nat (j := 1) rfl) ?_
  repeat walk_at "rd"
  refine i_newLf (by simp) fun l H1 nl1 s1 e1 => ?_
  repeat walk_at "rd"
  refine i_cut (T := fun σ' H' => σ' = [some (.ref a), some (.int (k : Int)), some (.ref p), some (.ref l), none, none, none, none] ∧ SameX l H1 H' ∧ H' l = some (.lst (e.names.map V.int))) ?_ ?_
  · clear gd q hp
    cases e with
    | cut al n' s' =>
      obtain ⟨pq, h0, hs⟩ := he
      cases al with
      | false =>
        have h0 : H p = some (.tup [.str (Str.ofString "across"), .int n', .ref pq]) := h0
        have h0 := s1 _ _ h0
        repeat walk_at "rd"
        refine i_newT (by simp) fun q2 H2 s2 e2 => ?_
        refine i_inTt (b := false) e2 rfl rfl (by decide +kernel) ?_
        have h0 := s2 _ _ h0
        have e1 := s2 _ _ e1
        repeat walk_at "rd"
        exact ⟨rfl, s2.sameX l, e1⟩
      | true =>
        have h0 : H p = some (.tup [.str (Str.ofString "along"), .int n', .ref pq]) := h0
        have h0 := s1 _ _ h0
        repeat walk_at "rd"
        refine i_newT (by simp) fun q2 H2 s2 e2 => ?_
        refine i_inTt (b := false) e2 rfl rfl (by decide +kernel) ?_
        have h0 := s2 _ _ h0
        have e1 := s2 _ _ e1
        repeat walk_at "rd"
        exact ⟨rfl, s2.sameX l, e1⟩
    | glue al n' m' =>
      have h0 := he
      cases al with
      | false =>
        have h0 : H p = some (.tup [.str (Str.ofString "beside"), .int n', .int m']) := h0
        have h0 := s1 _ _ h0
        repeat walk_at "rd"
        refine i_newT (by simp) fun q2 H2 s2 e2 => ?_
        refine i_inTt (b := true) e2 rfl rfl (by decide +kernel) ?_
        have h0 := s2 _ _ h0
        have e1 := s2 _ _ e1
        repeat walk_at "rd"
        refine i_append e1 (by simp) fun H3 x3 e3 => ?_
        repeat walk_at "rd"
        exact ⟨rfl, (s2.sameX l).trans x3, e3⟩
      | true =>
        have h0 : H p = some (.tup [.str (Str.ofString "atop"), .int n', .int m']) := h0
        have h0 := s1 _ _ h0
        repeat walk_at "rd"
        refine i_newT (by simp) fun q2 H2 s2 e2 => ?_
        refine i_inTt (b := true) e2 rfl rfl (by decide +kernel) ?_
        have h0 := s2 _ _ h0
        have e1 := s2 _ _ e1
        repeat walk_at "rd"
        refine i_append e1 (by simp) fun H3 x3 e3 => ?_
        repeat walk_at "rd"
        exact ⟨rfl, (s2.sameX l).trans x3, e3⟩
    | shift al n' k' =>
      have h0 := he
      cases al with
      | false =>
        have h0 : H p = some (.tup [.str (Str.ofString "stack"), .int n', .int k']) := h0
        have h0 := s1 _ _ h0
        repeat walk_at "rd"
        refine i_newT (by simp) fun q2 H2 s2 e2 => ?_
        refine i_inTt (b := false) e2 rfl rfl (by decide +kernel) ?_
        have h0 := s2 _ _ h0
        have e1 := s2 _ _ e1
        repeat walk_at "rd"
        exact ⟨rfl, s2.sameX l, e1⟩
      | true =>
        have h0 : H p = some (.tup [.str (Str.ofString "spread"), .int n', .int k']) := h0
        have h0 := s1 _ _ h0
        repeat walk_at "rd"
        refine i_newT (by simp) fun q2 H2 s2 e2 => ?_
        refine i_inTt (b := false) e2 rfl rfl (by decide +kernel) ?_
        have h0 := s2 _ _ h0
        have e1 := s2 _ _ e1
        repeat walk_at "rd"
        exact ⟨rfl, s2.sameX l, e1⟩
    | turn n' =>
      have h0 := he
      have h0 : H p = some (.tup [.str (Str.ofString "turn"), .int n']) := h0
      have h0 := s1 _ _ h0
      repeat walk_at "rd"
      refine i_newT (by simp) fun q2 H2 s2 e2 => ?_
      refine i_inTt (b := false) e2 rfl rfl (by decide +kernel) ?_
      have h0 := s2 _ _ h0
      have e1 := s2 _ _ e1
      repeat walk_at "rd"
      exact ⟨rfl, s2.sameX l, e1⟩
  rintro σ' H2 ⟨rfl, sx2, e2⟩
  have s2 : Same H H2 := fun b o e => sx2 b o (s1 b o e) (ne_of_none e nl1)
  have hL2 := hL.same s2
  clear sx2 e1 s1
  repeat walk_at "rd"
  refine i_compL ?_
  repeat walk_at "rd"
  refine ⟨l, rfl, ⟨_, SqL.of e2⟩, fun O hO => comp_list (K := K) (a := l) (ys := e.names.map V.int) (fun i xs σ' H' => ∃ v : Option V, σ' = [v, some (.ref a)] ∧ xs = ((e.cells (f n) (f m)).take i).map Cell.v ∧ H' O = some (.lst xs) ∧ SameX O H2 H') ⟨none, rfl, rfl, upd_same, fun b o e n => by rw [upd_ne n]; exact e⟩ (fun i xs σ' H' _ z => by obtain ⟨v, _, _, _, z⟩ := z; exact SqL.of (z _ _ e2 (ne_of_none e2 hO))) ?_ ?_⟩
  · rintro i x xs σ' H' hi ⟨v, rfl, rfl, eO, sx⟩
    rw [List.getElem?_map] at hi
    obtain ⟨z, hz, rfl⟩ := Option.map_eq_some_iff.mp hi
    obtain ⟨j, hj, rfl, hcx⟩ := good_at gd hz
    have hi3 := (List.getElem?_eq_some_iff.mp hz).1
    have hn2 := e.names_len
    have s' : Same H2 H' := fun b o e => sx b o e (ne_of_none e hO)
    have hL' := hL2.same s'
    repeat walk_at "rd"
    refine ⟨a, _, rfl, DGet.k (k := .inl (j : Int)) hL'.l |> (fun z => by rw [valV_cdK hj] at z; exact z), ?_⟩
    repeat walk_at "rd"
    refine i_append eO (by rw [List.length_map, List.length_take]; omega) fun H3 x3 e3 => ?_
    refine cnext (by rw [List.length_map]; exact hi3) ⟨_, rfl, rfl, ?_, sx.trans x3⟩
    rw [List.take_succ, hcx, List.map_append]
    exact e3
  rintro xs σ' H3 ⟨v, rfl, rfl, eO, sx⟩
  have s3 : Same H2 H3 := fun b o e => sx b o e (ne_of_none e hO)
  rw [List.length_map, ← e.cells_len (f n) (f m), List.take_length] at eO
  clear sx
  have t3 := s2.trans s3
  repeat walk_at "rd"
  refine c__law_new (he.same t3) (by rw [eO]; unfold Dd.cells; cases e.two <;> rfl) (hcn.same t3) (hcm.same t3) gd.fit fun r4 N H4 s4 n4 e4 hN hNb => ?_
  have t4 := t3.trans s4
  have hL4 := hL.same t4
  have hNl : N.length ≤ 2 := by rw [← List.length_map (f := Cell.b), hNb]; exact new_len e _ _
  have e2 := s4 _ _ (s3 _ _ e2)
  repeat walk_at "rd"
  refine i_dictCf hL4.l fun A H5 n5 s5 e5 => ?_
  have lA : l ≠ A := ne_of_none e2 n5
  have e2 := s5 _ _ e2
  repeat walk_at "rd"
  refine i_forL ?_
  repeat walk_at "rd"
  refine ⟨l, rfl, ⟨_, SqL.of e2⟩, for_list (K := K) (a := l) (xs := e.names.map V.int) (fun i σ H' => ∃ v, σ = [some (.ref a), some (.int (k : Int)), some (.ref p), some (.ref l), some (.ref r4), some (.ref A), v, none] ∧ H' A = some (.dK (cdK (ndrop ns (e.names.take i)) f)) ∧ SameX A H5 H') ⟨_, rfl, e5, fun b o e _ => e⟩ (fun i σ H' _ ⟨_, _, _, x⟩ => SqL.of (x _ _ e2 lA)) ?_ ?_⟩
  · rintro i x σ H' hi ⟨v, rfl, el, sx⟩
    rw [List.getElem?_map] at hi
    obtain ⟨z, hz, rfl⟩ := Option.map_eq_some_iff.mp hi
    obtain ⟨j, hj, rfl, hcx⟩ := good_at gd hz
    have hni : (j : Int) ∉ e.names.take i := by
      intro hh
      obtain ⟨j', hj'⟩ := List.getElem?_of_mem hh
      have hj1 := (List.getElem?_eq_some_iff.mp hj').1
      rw [List.length_take] at hj1
      rw [List.getElem?_take_of_lt (by omega)] at hj'
      have := (List.getElem?_inj (i := j') (by omega) gd.nodup).mp (hj'.trans hz.symm)
      omega
    repeat walk_at "rd"
    refine ⟨A, rfl, .inl ⟨_, .inl el⟩, ?_⟩
    repeat walk_at "rd"
    refine ⟨_, .inl (j : Int), _, el, rfl, valV_cdK (mem_ndrop.mpr ⟨hj, hni⟩), ?_⟩
    refine ⟨_, rfl, ?_, fun b o e n => by rw [upd_ne n]; exact sx b o e n⟩
    rw [upd_same, dropK_cdK, List.take_succ, hz, show ((some (j : Int)).toList) = [(j : Int)] from rfl, ndrop_snoc]
  rintro σ H6 ⟨v, rfl, el6, sx6⟩
  rw [List.length_map, List.take_length, cdK_congr (g := fN f k N) (fun j hj => (fN_lt (lt j (mem_ndrop.mp hj).1)).symm)] at el6
  have rA : r4 ≠ A := ne_of_none e4 n5
  have e4 := sx6 _ _ (s5 _ _ e4) rA
  have dl : (ndrop ns e.names).length ≤ ns.length := ndrop_len
  repeat walk_at "rd"
  refine i_forR1 ?_
  repeat walk_at "rd"
  rw [List.length_map]
  refine ⟨(N.length : Int), rfl, by omega, by omega, for_range (lo := 0) (n := (N.length : Int).toNat) (fun i σ H' => ∃ v v', σ = [some (.ref a), some (.int (k : Int)), some (.ref p), some (.ref l), some (.ref r4), some (.ref A), v, v'] ∧ H' A = some (.dK (cdK (ndrop ns e.names ++ List.range' k i) (fN f k N))) ∧ SameX A H6 H') ⟨_, _, rfl, by simpa using el6, fun b o e _ => e⟩ ?_ ?_⟩
  · rintro i σ H' hi ⟨v, v', rfl, el, sx⟩
    have hi' : i < N.length := by omega
    have e4' := sx _ _ e4 rA
    obtain ⟨cx, hcx⟩ : ∃ c, N[i]? = some c := ⟨_, List.getElem?_eq_getElem hi'⟩
    repeat walk_at "rd"
    refine i_ixL e4' (v := cx.v) (by rw [show (0 : Int) + (i : Int) = ((i : Nat) : Int) by omega]; exact atI_nat (by rw [List.getElem?_map, hcx]; rfl)) ?_
    repeat walk_at "rd"
    rw [show (k : Int) + (0 + (i : Int)) = ((k + i : Nat) : Int) by omega]
    refine ⟨A, _, rfl, DPut.k (k := .inl ((k + i : Nat) : Int)) el (by rw [cdK_len, List.length_append, List.length_range']; exact Nat.lt_of_lt_of_le (show _ < 1000 by omega) (by decide +kernel)), ?_⟩
    refine ⟨_, _, rfl, ?_, fun b o e n => by rw [upd_ne n]; exact sx b o e n⟩
    rw [upd_same, putK_new _ (valV_cfresh (fun j hj => ?_)), List.range'_concat, ← List.append_assoc, cdK_snoc, Nat.one_mul, fN_ge, fL_get hcx]
    rcases List.mem_append.mp hj with hj | hj
    · have := lt j (mem_ndrop.mp hj).1
      omega
    · have := List.mem_range'_1.mp hj
      omega
  rintro σ H7 ⟨v, v', rfl, el7, sx7⟩
  have sE : Same H4 H7 := fun b o e => sx7 _ _ (sx6 _ _ (s5 _ _ e) (ne_of_none e n5)) (ne_of_none e n5)
  rw [Int.toNat_natCast] at el7
  have e4 := sx7 _ _ e4 rA
  repeat walk_at "rd"
  rw [List.length_map]
  repeat walk_at "rd"
  refine i_newTf (by simp) fun r H8 n8 s8 e8 => ?_
  refine q r A N H8 ((t4.trans sE).trans s8) (Same.nn t4 n5) (by rw [Int.natCast_add]; exact e8) hNb ⟨s8 _ _ el7, fun j hj => ?_⟩
  rcases List.mem_append.mp hj with hj | hj
  · have hj := (mem_ndrop.mp hj).1
    rw [fN_lt (lt j hj)]
    exact ((hL4.at' j hj).same sE).same s8
  · have hj := List.mem_range'_1.mp hj
    obtain ⟨i, rfl⟩ : ∃ i, j = k + i := ⟨j - k, by omega⟩
    have hi : i < N.length := by omega
    rw [fN_ge, fL_get (List.getElem?_eq_getElem hi)]
    exact ((hN _ (List.getElem_mem hi)).same sE).same s8
set_option maxHeartbeats 4000000 in
theorem ok_Yard_put_by {f : Addr} {fd : FuncData} (F : Fun K "put_by" "Yard.put_by" s_Yard_put_by f fd) (B : Bl mg) (X : Xs K mg cs) (o_cut_across : Own P w K mg base 4 "cut_across" ["d", "one", "at"] [] sp_cut_across) (o_turned : Own P w K mg base 1 "turned" ["one"] [] sp_turned) (o_glued_beside : Own P w K mg base 3 "glued_beside" ["one", "other"] [] sp_glued_beside) (o_stacked : Own P w K mg base 3 "stacked" ["one", "many"] [] sp_stacked) : FnOk P w K mg base CX0 5 f fd ["self", "deed", "boards"] (sp_Yard_put_by cs) := by
  refine F.ok (k := 4) sc_Yard_put_by (fun vs H Q E h => ?_) (fun cdv A outer s H vs Q E hr h => ?_)
  · obtain ⟨y, d, tn, cl, ns, lg, p, a, e, c, c', rfl, hy, he, ha, hc, hc', hd, hf, q⟩ := h
    rfl
  obtain ⟨y, d, tn, cl, ns, lg, p, a, e, c, c', rfl, hy, he, ha, hc, hc', hd, hf, q⟩ := h
  refine ⟨_, (pss_cons (ps_set (i := 3) sc_Yard_put_by.nd rfl (Or.inl rfl) (pe_ix ix_tup (pv 1) pe_int (fun _ _ => rfl))) (pss_cons (ps_if (pt_cmpR op_eq (pv 3) pe_str (nomark _)) (pss_one (ps_ret (pe_own o_cut_across hr rfl (pa_cons (pe_fldK (K := K) rfl (pv 0) rfl) (pa_cons (pe_ix ix_list (pv 2) pe_int (fun _ _ => rfl)) (pa_cons (pe_ix ix_tup (pv 1) pe_int (fun _ _ => rfl)) pa_nil)))))) pss_nil) (pss_cons (ps_if (pt_cmpR op_eq (pv 3) pe_str (nomark _)) (pss_one (ps_ret (pe_comp ["one"] [] rfl (pi_list (pe_own o_cut_across hr rfl (pa_cons (pe_fldK (K := K) rfl (pv 0) rfl) (pa_cons (pe_own o_turned hr rfl (pa_cons (pe_ix ix_list (pv 2) pe_int (fun _ _ => rfl)) pa_nil)) (pa_cons (pe_ix ix_tup (pv 1) pe_int (fun _ _ => rfl)) pa_nil))))) (fun _ _ _ _ _ => (pg_name (i := 0) (show List.Nodup (α := Str) ["one"] by decide +kernel) rfl (Or.inl rfl))) (fun _ _ _ _ _ => pifs_nil) (fun _ _ _ _ _ => (pe_own o_turned hr rfl (pa_cons (pv 0) pa_nil)))))) pss_nil) (pss_cons (ps_if (pt_cmpR op_eq (pv 3) pe_str (nomark _)) (pss_one (ps_ret (pe_lst (pa_cons (pe_own o_glued_beside hr rfl (pa_cons (pe_ix ix_list (pv 2) pe_int (fun _ _ => rfl)) (pa_cons (pe_ix ix_list (pv 2) pe_int (fun _ _ => rfl)) pa_nil))) pa_nil)))) pss_nil) (pss_cons (ps_if (pt_cmpR op_eq (pv 3) pe_str (nomark _)) (pss_one (ps_ret (pe_lst (pa_cons (pe_own o_turned hr rfl (pa_cons (pe_own o_glued_beside hr rfl (pa_cons (pe_own o_turned hr rfl (pa_cons (pe_ix ix_list (pv 2) pe_int (fun _ _ => rfl)) pa_nil)) (pa_cons (pe_own o_turned hr rfl (pa_cons (pe_ix ix_list (pv 2) pe_int (fun _ _ => rfl)) pa_nil)) pa_nil))) pa_nil)) pa_nil)))) pss_nil) (pss_cons (ps_if (pt_cmpR op_eq (pv 3) pe_str (nomark _)) (pss_one (ps_ret (pe_lst (pa_cons (pe_own o_stacked hr rfl (pa_cons (pe_ix ix_list (pv 2) pe_int (fun _ _ => rfl)) (pa_cons (pe_ix ix_tup (pv 1) pe_int (fun _ _ => rfl)) pa_nil))) pa_nil)))) pss_nil) (pss_cons (ps_if (pt_cmpR op_eq (pv 3) pe_str (nomark _)) (pss_one (ps_ret (pe_lst (pa_cons (pe_own o_turned hr rfl (pa_cons (pe_own o_stacked hr rfl (pa_cons (pe_own o_turned hr rfl (pa_cons (pe_ix ix_list (pv 2) pe_int (fun _ _ => rfl)) pa_nil)) (pa_cons (pe_ix ix_tup (pv 1) pe_int (fun _ _ => rfl)) pa_nil))) pa_nil)) pa_nil)))) pss_nil) (pss_one (ps_ret (pe_lst (pa_cons (pe_own o_turned hr rfl (pa_cons (pe_ix ix_list (pv 2) pe_int (fun _ _ => rfl)) pa_nil)) pa_nil))))))))))), ?_⟩
  rw [show start ["self", "deed", "boards", "word"] [.ref y.p, .ref p, .ref a] = [some (.ref y.p), some (.ref p), some (.ref a), none] from rfl]
  cases e with
  | cut al n s =>
    obtain ⟨pq, h0, hs⟩ := he
    cases al with
    | false =>
      have h0 : H p = some (.tup [.str (Str.ofString "across"), .int n, .ref pq]) := h0
      have ha : H a = some (.lst [.ref c.p]) := ha
      repeat walk_at "rd"
      refine if_d (fun _ => ?_) (fun c => absurd rfl c)
      repeat walk_at "rd"
      obtain ⟨f1, f2, f3, f4⟩ := hf
      refine ⟨_, _, _, _, _, rfl, hy.o, X.c_Yard, X.n_Yard_root, rfl, ?_⟩
      repeat walk_at "rd"
      refine c_cut_across hc hs hd f1 f2 f3 f4 fun r c1 c2 H1 s1 hr e1 a1 a2 b1 b2 => ?_
      refine q r [c1, c2] H1 s1 hr e1 (fun x hx => ?_) ?_
      · rcases List.mem_cons.mp hx with rfl | hx
        · exact a1
        · rw [List.mem_singleton.mp hx]; exact a2
      · show [c1.b, c2.b] = _
        rw [b1, b2]
        rfl
    | true =>
      have h0 : H p = some (.tup [.str (Str.ofString "along"), .int n, .ref pq]) := h0
      have ha : H a = some (.lst [.ref c.p]) := ha
      repeat walk_at "rd"
      refine if_d (fun c => absurd c (by decide +kernel)) (fun _ => ?_)
      repeat walk_at "rd"
      refine if_d (fun _ => ?_) (fun c => absurd rfl c)
      repeat walk_at "rd"
      obtain ⟨f1, f2, f3, f4⟩ := hf
      refine i_compL ?_
      repeat walk_at "rd"
      refine ⟨_, _, _, _, _, rfl, hy.o, X.c_Yard, X.n_Yard_root, rfl, ?_⟩
      repeat walk_at "rd"
      refine c_turned hc fun r1 H1 s1 nr1 a1 => ?_
      have h01 := s1 _ _ h0
      repeat walk_at "rd"
      refine c_cut_across a1 (s1 _ _ hs) hd f1 f2 f3 f4 fun r c1 c2 H2 s2 hr e2 a2 a3 b1 b2 => ?_
      have t2 := s1.trans s2
      have hat : ∀ x ∈ [c1, c2], x.At H2 := fun x hx => by
        rcases List.mem_cons.mp hx with rfl | hx
        · exact a2
        · rw [List.mem_singleton.mp hx]; exact a3
      refine ⟨r, rfl, ⟨_, SqL.of e2⟩, fun D hD => comp_list (K := K) (a := r) (ys := [c1, c2].map Cell.v) (fun i xs σ' H' => ∃ (v : Option V) (N : List Cell), σ' = [v] ∧ xs = N.map Cell.v ∧ H' D = some (.lst xs) ∧ SameX D H2 H' ∧ (∀ x ∈ N, x.At H') ∧ N.length = i ∧ N.map Cell.b = ([c1, c2].take i).map (fun x => ⟨x.b.h, x.b.w⟩)) ⟨none, [], rfl, rfl, upd_same, fun b o e n => by rw [upd_ne n]; exact e, fun x hx => absurd hx (by simp), rfl, rfl⟩ (fun i xs σ' H' _ z => by obtain ⟨v, N, _, _, _, z, _⟩ := z; exact SqL.of (z _ _ e2 (ne_of_none e2 hD))) ?_ ?_⟩
      · rintro i x xs σ' H' hi ⟨v, N, rfl, rfl, eD, sx, hN, hl, hb⟩
        rw [List.getElem?_map] at hi
        obtain ⟨cx, hcx, rfl⟩ := Option.map_eq_some_iff.mp hi
        have hi3 := (List.getElem?_eq_some_iff.mp hcx).1
        have s' : Same H2 H' := fun b o e => sx b o e (ne_of_none e hD)
        repeat walk_at "rd"
        refine c_turned ((hat cx (List.mem_of_getElem? hcx)).same s') fun r3 H3 s3 nr3 a3 => ?_
        repeat walk_at "rd"
        refine i_append (s3 _ _ eD) (by rw [List.length_map, hl]; simp only [List.length_cons, List.length_nil] at hi3; omega) fun H4 x4 e4 => ?_
        refine cnext hi3 ⟨_, N ++ [⟨r3, cx.ph, cx.pw, ⟨cx.b.h, cx.b.w⟩⟩], rfl, rfl, by rw [List.map_append]; exact e4, sx.trans ((SameX.of s3).trans x4), fun x hx => ?_, by rw [List.length_append, hl]; rfl, ?_⟩
        · rcases List.mem_append.mp hx with hx | hx
          · exact ((hN x hx).same s3).sameX x4 (s3 _ _ eD)
          · rw [List.mem_singleton.mp hx]; exact a3.sameX x4 (s3 _ _ eD)
        · rw [List.take_succ, hcx, List.map_append, List.map_append, hb]
          rfl
      · rintro xs σ' H' ⟨v, N, rfl, rfl, eD, sx, hN, hl, hb⟩
        have s' : Same H2 H' := fun b o e => sx b o e (ne_of_none e hD)
        repeat walk_at "rd"
        refine q D N H' (t2.trans s') (Same.nn t2 hD) eD hN ?_
        rw [hb]
        show [(⟨c1.b.h, c1.b.w⟩ : Bo), ⟨c2.b.h, c2.b.w⟩] = _
        rw [b1, b2]
        rfl
  | glue al n m =>
    have h0 := he
    cases al with
    | false =>
      have h0 : H p = some (.tup [.str (Str.ofString "beside"), .int n, .int m]) := h0
      have ha : H a = some (.lst [.ref c.p, .ref c'.p]) := ha
      repeat walk_at "rd"
      refine if_d (fun c => absurd c (by decide +kernel)) (fun _ => ?_)
      repeat walk_at "rd"
      refine if_d (fun c => absurd c (by decide +kernel)) (fun _ => ?_)
      repeat walk_at "rd"
      refine if_d (fun _ => ?_) (fun c => absurd rfl c)
      repeat walk_at "rd"
      refine c_glued_beside hc hc' hf.1 hf.2.1 hf.2.2 fun c1 H1 s1 n1 a1 hb => ?_
      repeat walk_at "rd"
      refine i_newLf (by simp) fun r HL nr sL eL => ?_
      refine q r [c1] HL (Same.trans s1 sL) (Same.nn s1 nr) eL (fun x hx => ?_) ?_
      · rw [List.mem_singleton.mp hx]
        exact a1.same sL
      · exact congrArg (fun z => [z]) hb
    | true =>
      have h0 : H p = some (.tup [.str (Str.ofString "atop"), .int n, .int m]) := h0
      have ha : H a = some (.lst [.ref c.p, .ref c'.p]) := ha
      repeat walk_at "rd"
      refine if_d (fun c => absurd c (by decide +kernel)) (fun _ => ?_)
      repeat walk_at "rd"
      refine if_d (fun c => absurd c (by decide +kernel)) (fun _ => ?_)
      repeat walk_at "rd"
      refine if_d (fun c => absurd c (by decide +kernel)) (fun _ => ?_)
      repeat walk_at "rd"
      refine if_d (fun _ => ?_) (fun c => absurd rfl c)
      repeat walk_at "rd"
      refine c_turned hc fun r1 H1 s1 nr1 a1 => ?_
      have ha1 := s1 _ _ ha
      repeat walk_at "rd"
      refine c_turned (hc'.same s1) fun r2 H2 s2 nr2 a2 => ?_
      repeat walk_at "rd"
      refine c_glued_beside (a1.same s2) a2 hf.1 hf.2.1 hf.2.2 fun c1 H3 s3 n3 a3 hb => ?_
      repeat walk_at "rd"
      refine c_turned a3 fun r4 H4 s4 nr4 a4 => ?_
      replace hb : (⟨c1.b.h, c1.b.w⟩ : Bo) = ⟨c.b.w, adS c.b.h c'.b.h⟩ := by rw [hb]
      repeat walk_at "rd"
      refine i_newLf (by simp) fun r HL nr sL eL => ?_
      refine q r [⟨r4, c1.ph, c1.pw, ⟨c1.b.h, c1.b.w⟩⟩] HL (Same.trans (((s1.trans s2).trans s3).trans s4) sL) (Same.nn (((s1.trans s2).trans s3).trans s4) nr) eL (fun x hx => ?_) ?_
      · rw [List.mem_singleton.mp hx]
        exact a4.same sL
      · exact congrArg (fun z => [z]) hb
  | shift al n k =>
    have h0 := he
    cases al with
    | false =>
      have h0 : H p = some (.tup [.str (Str.ofString "stack"), .int n, .int k]) := h0
      have ha : H a = some (.lst [.ref c.p]) := ha
      repeat walk_at "rd"
      refine if_d (fun c => absurd c (by decide +kernel)) (fun _ => ?_)
      repeat walk_at "rd"
      refine if_d (fun c => absurd c (by decide +kernel)) (fun _ => ?_)
      repeat walk_at "rd"
      refine if_d (fun c => absurd c (by decide +kernel)) (fun _ => ?_)
      repeat walk_at "rd"
      refine if_d (fun c => absurd c (by decide +kernel)) (fun _ => ?_)
      repeat walk_at "rd"
      refine if_d (fun _ => ?_) (fun c => absurd rfl c)
      repeat walk_at "rd"
      refine c_stacked hc hf.1 hf.2.1 hf.2.2.1 hf.2.2.2 fun c1 H1 s1 n1 a1 hb => ?_
      repeat walk_at "rd"
      refine i_newLf (by simp) fun r HL nr sL eL => ?_
      refine q r [c1] HL (Same.trans s1 sL) (Same.nn s1 nr) eL (fun x hx => ?_) ?_
      · rw [List.mem_singleton.mp hx]
        exact a1.same sL
      · exact congrArg (fun z => [z]) hb
    | true =>
      have h0 : H p = some (.tup [.str (Str.ofString "spread"), .int n, .int k]) := h0
      have ha : H a = some (.lst [.ref c.p]) := ha
      repeat walk_at "rd"
      refine if_d (fun c => absurd c (by decide +kernel)) (fun _ => ?_)
      repeat walk_at "rd"
      refine if_d (fun c => absurd c (by decide +kernel)) (fun _ => ?_)
      repeat walk_at "rd"
      refine if_d (fun c => absurd c (by decide +kernel)) (fun _ => ?_)
      repeat walk_at "rd"
      refine if_d (fun c => absurd c (by decide +kernel)) (fun _ => ?_)
      repeat walk_at "rd"
      refine if_d (fun c => absurd c (by decide +kernel)) (fun _ => ?_)
      repeat walk_at "rd"
      refine if_d (fun _ => ?_) (fun c => absurd rfl c)
      repeat walk_at "rd"
      refine c_turned hc fun r1 H1 s1 nr1 a1 => ?_
      have h01 := s1 _ _ h0
      repeat walk_at "rd"
      refine c_stacked a1 hf.1 hf.2.1 hf.2.2.2 hf.2.2.1 fun c1 H3 s3 n3 a3 hb => ?_
      repeat walk_at "rd"
      refine c_turned a3 fun r4 H4 s4 nr4 a4 => ?_
      replace hb : (⟨c1.b.h, c1.b.w⟩ : Bo) = ⟨shS c.b.w k 1, shS c.b.h 1 k⟩ := by rw [hb]
      repeat walk_at "rd"
      refine i_newLf (by simp) fun r HL nr sL eL => ?_
      refine q r [⟨r4, c1.ph, c1.pw, ⟨c1.b.h, c1.b.w⟩⟩] HL (Same.trans ((s1.trans s3).trans s4) sL) (Same.nn ((s1.trans s3).trans s4) nr) eL (fun x hx => ?_) ?_
      · rw [List.mem_singleton.mp hx]
        exact a4.same sL
      · exact congrArg (fun z => [z]) hb
  | turn n =>
    have h0 := he
    have h0 : H p = some (.tup [.str (Str.ofString "turn"), .int n]) := h0
    have ha : H a = some (.lst [.ref c.p]) := ha
    repeat walk_at "rd"
    refine if_d (fun c => absurd c (by decide +kernel)) (fun _ => ?_)
    repeat walk_at "rd"
    refine if_d (fun c => absurd c (by decide +kernel)) (fun _ => ?_)
    repeat walk_at "rd"
    refine if_d (fun c => absurd c (by decide +kernel)) (fun _ => ?_)
    repeat walk_at "rd"
    refine if_d (fun c => absurd c (by decide +kernel)) (fun _ => ?_)
    repeat walk_at "rd"
    refine if_d (fun c => absurd c (by decide +kernel)) (fun _ => ?_)
    repeat walk_at "rd"
    refine if_d (fun c => absurd c (by decide +kernel)) (fun _ => ?_)
    repeat walk_at "rd"
    refine c_turned hc fun r1 H1 s1 nr1 a1 => ?_
    have hb : (⟨c.b.h, c.b.w⟩ : Bo) = ⟨c.b.h, c.b.w⟩ := rfl
    repeat walk_at "rd"
    refine i_newLf (by simp) fun r HL nr sL eL => ?_
    refine q r [⟨r1, c.ph, c.pw, ⟨c.b.h, c.b.w⟩⟩] HL (Same.trans s1 sL) (Same.nn s1 nr) eL (fun x hx => ?_) ?_
    · rw [List.mem_singleton.mp hx]
      exact a1.same sL
    · exact congrArg (fun z => [z]) hb
theorem nat_in {ns : List Nat} {i : Int} (h : ns ≠ []) : ∃ n ∈ ns, atI ((ns.map fun n : Nat => (n : Int)).map V.int) (i % ((((ns.map fun n : Nat => (n : Int)).map V.int).length : Nat) : Int)) = some (.int (n : Int)) := by
  have hp : 0 < ns.length := List.length_pos_iff.mpr h
  have e : ((((ns.map fun n : Nat => (n : Int)).map V.int).length : Nat) : Int) = (ns.length : Int) := by simp
  rw [e]
  have h0 := Int.emod_nonneg i (show (ns.length : Int) ≠ 0 by omega)
  have h1 := Int.emod_lt_of_pos i (show (0 : Int) < ns.length by omega)
  obtain ⟨x, hx, g⟩ := atI_in (xs := ns.map fun n : Nat => (n : Int)) (i := i % (ns.length : Int)) h0 (by rw [List.length_map]; exact h1)
  obtain ⟨n, hn, rfl⟩ := List.mem_map.mp hx
  exact ⟨n, hn, g⟩
set_option maxHeartbeats 4000000 in
theorem ok__law_deed {f : Addr} {fd : FuncData} (F : Fun K "_law_deed" "_law_deed" s__law_deed f fd) (B : Bl mg)  (o__law_digits : Own P w K mg base 2 "_law_digits" ["_law_cell_here", "_law_many"] [] sp__law_digits) (o__law_at : Own P w K mg base 5 "_law_at" ["_law_d", "_law_digits_here", "_law_side_here", "_law_pool"] [] sp__law_at) : FnOk P w K mg base CX0 6 f fd ["_law_d", "_law_cell_here", "_law_lying", "_law_pool"] (sp__law_deed K) := by
  refine F.ok (k := 5) sc__law_deed (fun vs H Q E h => ?_) (fun cdv A outer s H vs Q E hr h => ?_)
  · obtain ⟨d, c, a, qa, ns, f, P, D, M, K', rfl, hc, hL, up, nl, ne, ob, hP, oP, zz, hR, q⟩ := h
    rfl
  obtain ⟨d, c, a, qa, ns, f, P, D, M, K', rfl, hc, hL, up, nl, ne, ob, hP, oP, zz, hR, q⟩ := h
  refine ⟨_, (pss_cons (ps_set (i := 4) sc__law_deed.nd rfl (Or.inl rfl) (pe_own o__law_digits hr rfl (pa_cons (pv 1) (pa_cons pe_int pa_nil)))) (pss_cons (ps_set (i := 5) sc__law_deed.nd rfl (Or.inl rfl) (pe_callB (call_sortD rfl) rfl B.sorted bt_sorted (pa_cons (pv 2) pa_nil))) (pss_cons (ps_set (i := 6) sc__law_deed.nd rfl (Or.inr rfl) (pe_ix ix_list (pv 5) (pe_op op_mod (pe_ix ix_list (pv 4) pe_int (fun _ _ => rfl)) (pe_callB call_lenR rfl B.len PySem.boot_len (pa_cons (pv 5) pa_nil))) (fun _ _ => rfl))) (pss_cons (ps_set (i := 7) sc__law_deed.nd rfl (Or.inl rfl) (pe_op op_mod (pe_ix ix_list (pv 4) pe_int (fun _ _ => rfl)) pe_int)) (pss_cons (ps_if (pt_cmpR op_lt (pv 7) pe_int (nomark _)) (pss_one (ps_ret (pe_tup (pa_cons (pe_ix ix_list (pe_lst (pa_cons pe_str (pa_cons pe_str pa_nil))) (pv 7) (fun _ _ => rfl)) (pa_cons (pv 6) (pa_cons (pe_own o__law_at hr rfl (pa_cons (pv 0) (pa_cons (pv 4) (pa_cons (pe_ix ix_tup (pe_dget (hu_of hr) (pv 2) (pv 6) (fun _ _ => rfl)) (pv 7) (fun _ _ => rfl)) (pa_cons (pv 3) pa_nil))))) pa_nil)))))) pss_nil) (pss_cons (ps_cut (ps_if (pt_cmpR op_lt (pv 7) pe_int (nomark _)) (pss_cons (ps_set (i := 8) sc__law_deed.nd rfl (Or.inr rfl) (pe_op op_sub pe_int (pv 7))) (pss_cons (ps_setC (i := 9) sc__law_deed.nd rfl rfl ["_law_other"] [2, 6, 8] rfl (pi_list (pv 5)) (fun _ _ _ _ _ => (pg_name (i := 0) (show List.Nodup (α := Str) ["_law_other", "_law_lying", "_law_name", "_law_side_here"] by decide +kernel) rfl (Or.inl rfl))) (fun _ _ _ _ _ => (pifs_one (PW.pt (pw_and (pt_cmpR op_ne (pv 0) (pv 2) (nomark _)) (pw_and1 (pt_cmpR (r := rEq3 K) (op_eq3 hr.units rfl) (pe_ix (r := rIxT K) ix_tup (pe_dget (hu_of hr) (pv 1) (pv 0) (fun _ _ => rfl)) (pv 3) (fun _ _ => rfl)) (pe_ix (r := rIxT K) ix_tup (pe_dget (hu_of hr) (pv 1) (pv 2) (fun _ _ => rfl)) (pv 3) (fun _ _ => rfl)) (nomark _))))))) (fun _ _ _ _ _ => (pv 0))) (pss_one (ps_if (pt_cmpR (op_neE hr.units) (pv 9) (pe_lst pa_nil) (nomark _)) (pss_one (ps_ret (pe_tup (pa_cons (pe_ix ix_list (pe_lst (pa_cons pe_str (pa_cons pe_str pa_nil))) (pe_op op_sub (pv 7) pe_int) (fun _ _ => rfl)) (pa_cons (pv 6) (pa_cons (pe_ix ix_list (pv 9) (pe_op op_mod (pe_ix ix_list (pv 4) pe_int (fun _ _ => rfl)) (pe_callB call_lenR rfl B.len PySem.boot_len (pa_cons (pv 9) pa_nil))) (fun _ _ => rfl)) pa_nil)))))) pss_nil)))) pss_nil)) (pss_one (ps_ret (pe_tup (pa_cons (pe_ix ix_list (pe_lst (pa_cons pe_str (pa_cons pe_str pa_nil))) (pe_op op_mod (pv 7) pe_int) (fun _ _ => rfl)) (pa_cons (pv 6) (pa_cons (pe_op op_add pe_int (pe_op op_mod (pe_ix ix_list (pv 4) pe_int (fun _ _ => rfl)) (pe_ix ix_list (pe_lst (pa_cons (pe_op op_powB pe_int pe_int) (pa_cons pe_int pa_nil))) (pe_op op_mod (pv 1) pe_int) (fun _ _ => rfl)))) pa_nil)))))))))))), ?_⟩
  rw [show start ["_law_d", "_law_cell_here", "_law_lying", "_law_pool", "_law_digits_here", "_law_names", "_law_name", "_law_way", "_law_side_here", "_law_others"] [.int d, .int c, .ref a, .ref qa] = [some (.int d), some (.int c), some (.ref a), some (.ref qa), none, none, none, none, none, none] from rfl]
  have hpos : 0 < ns.length := List.length_pos_iff.mpr ne
  repeat walk_at "rd"
  refine c__law_digits hc (by decide) (by decide) fun l H1 ds s1 e1 hl hds => ?_
  obtain ⟨x0, k0, a0, b0⟩ := dig hl hds 0 (by decide) (by decide)
  obtain ⟨x1, k1, a1, b1⟩ := dig hl hds 1 (by decide) (by decide)
  obtain ⟨x2, k2, a2, b2⟩ := dig hl hds 2 (by decide) (by decide)
  obtain ⟨x7, k7, a7, b7⟩ := dig hl hds 7 (by decide) (by decide)
  repeat walk_at "rd"
  refine i_sortD (s1 _ _ hL.l) up nl fun p2 H2 np2 s2 e2 => ?_
  have e1' := s2 _ _ e1
  have hpm : (0 : Int) < (((ns.map fun n : Nat => (n : Int)).map V.int).length : Nat) := by simp only [List.length_map]; omega
  obtain ⟨n, hn, gn⟩ := nat_in (ns := ns) (i := x0) ne
  repeat (first | walk_at "rd" | refine i_ixL e1' k0 ?_ | refine i_ixL e1' k1 ?_ | refine i_ixL e2 gn ?_)
  have w6 : 0 ≤ x1 % 6 ∧ x1 % 6 < 6 := by omega
  generalize hway : x1 % 6 = way at w6 ⊢
  by_cases w2 : way < 2
  · have hw : way = 0 ∨ way = 1 := by omega
    rcases hw with hw | hw
    · rw [hw]
      refine if_d (fun _ => ?_) (fun c => absurd (by decide) c)
      repeat walk_at "rd"
      refine i_newLf (by simp) fun q3 H3 n3 s3 e3 => ?_
      have e1 := s3 _ _ (s2 _ _ e1)
      have hL3 := hL.same ((s1.trans s2).trans s3)
      have hc3 := hL3.at' n hn
      have ct3 := hc3.t
      have hP3 := hP.same ((s1.trans s2).trans s3)
      repeat (first | walk_at "rd" | refine i_ixL e3 (atI_nat (j := 0) rfl) ?_)
      refine ⟨a, _, rfl, DGet.k (k := .inl (n : Int)) hL3.l |> (fun z => by rw [valV_cdK hn] at z; exact z), ?_⟩
      repeat walk_at "rd"
      refine i_ixT ct3 (atI_nat (j := 0) rfl) ?_
      repeat walk_at "rd"
      refine c__law_at e1 hl hds hc3.w (ob n hn).1 hP3 oP zz hR fun r H4 g k s4 e4 k1 bk og ug => ?_
      repeat walk_at "rd"
      refine i_newTf (by simp) fun p5 H5 n5 s5 e5 => ?_
      exact q p5 (.cut false n g) n n H5 ((((s1.trans s2).trans s3).trans s4).trans s5) ⟨r, e5, s5 _ _ e4⟩ (good_cut hR zz hn (ob n hn) k1 bk og ug) rfl
    · rw [hw]
      refine if_d (fun _ => ?_) (fun c => absurd (by decide) c)
      repeat walk_at "rd"
      refine i_newLf (by simp) fun q3 H3 n3 s3 e3 => ?_
      have e1 := s3 _ _ (s2 _ _ e1)
      have hL3 := hL.same ((s1.trans s2).trans s3)
      have hc3 := hL3.at' n hn
      have ct3 := hc3.t
      have hP3 := hP.same ((s1.trans s2).trans s3)
      repeat (first | walk_at "rd" | refine i_ixL e3 (atI_nat (j := 1) rfl) ?_)
      refine ⟨a, _, rfl, DGet.k (k := .inl (n : Int)) hL3.l |> (fun z => by rw [valV_cdK hn] at z; exact z), ?_⟩
      repeat walk_at "rd"
      refine i_ixT ct3 (atI_nat (j := 1) rfl) ?_
      repeat walk_at "rd"
      refine c__law_at e1 hl hds hc3.h (ob n hn).2 hP3 oP zz hR fun r H4 g k s4 e4 k1 bk og ug => ?_
      repeat walk_at "rd"
      refine i_newTf (by simp) fun p5 H5 n5 s5 e5 => ?_
      exact q p5 (.cut true n g) n n H5 ((((s1.trans s2).trans s3).trans s4).trans s5) ⟨r, e5, s5 _ _ e4⟩ (good_cut hR zz hn (ob n hn) k1 bk og ug) rfl
  refine if_d (fun c => absurd c w2) (fun _ => ?_)
  repeat walk_at "rd"
  refine i_cut (T := fun σ' H3 => ∃ v v' : Option V, σ' = [some (.int d), some (.int c), some (.ref a), some (.ref qa), some (.ref l), some (.ref p2), some (.int (n : Int)), some (.int way), v, v'] ∧ Same H2 H3) ?_ ?_
  · repeat walk_at "rd"
    by_cases w4 : way < 4
    · have hw : way = 2 ∨ way = 3 := by omega
      rcases hw with hw | hw
      · rw [hw]
        refine if_d (fun _ => ?_) (fun c => absurd (by decide) c)
        repeat walk_at "rd"
        refine i_compL ?_
        repeat walk_at "rd"
        refine ⟨p2, rfl, ⟨_, SqL.of e2⟩, fun O hO => comp_list (K := K) (a := p2) (ys := (ns.map fun n : Nat => (n : Int)).map V.int) (fun i xs σ' H' => ∃ (v : Option V) (os : List Nat), σ' = [v, some (.ref a), some (.int (n : Int)), some (.int 1)] ∧ xs = (os.map fun n : Nat => (n : Int)).map V.int ∧ os.length ≤ i ∧ H' O = some (.lst xs) ∧ SameX O H2 H' ∧ ∀ m ∈ os, m ∈ ns ∧ n ≠ m ∧ (f n).b.h = (f m).b.h) ⟨none, [], rfl, rfl, Nat.le_refl _, upd_same, fun b o e n => by rw [upd_ne n]; exact e, fun m hm => absurd hm (by simp)⟩ (fun i xs σ' H' _ z => by obtain ⟨v, os, _, _, _, _, z, _⟩ := z; exact SqL.of (z _ _ e2 (ne_of_none e2 hO))) ?_ ?_⟩
        · rintro i x xs σ' H' hi ⟨v, os, rfl, rfl, hol, eO, sx, hos⟩
          have hi' := (List.getElem?_eq_some_iff.mp hi).1
          have hil : i < ns.length := by simpa using hi'
          obtain ⟨m, hm, rfl⟩ : ∃ m ∈ ns, x = .int (m : Int) := by
            obtain ⟨y, hy, rfl⟩ := List.mem_map.mp (List.mem_of_getElem? hi)
            obtain ⟨m, hm, rfl⟩ := List.mem_map.mp hy
            exact ⟨m, hm, rfl⟩
          have s' : Same H2 H' := fun b o e => sx b o e (ne_of_none e hO)
          have hL' := hL.same ((s1.trans s2).trans s')
          have cm := hL'.at' m hm
          have cn := hL'.at' n hn
          have ctm := cm.t
          have ctn := cn.t
          repeat walk_at "rd"
          refine if_nd (fun c1 => ?_) (fun c1 => ?_)
          · repeat walk_at "rd"
            refine ⟨a, _, rfl, DGet.k (k := .inl (m : Int)) hL'.l |> (fun z => by rw [valV_cdK hm] at z; exact z), ?_⟩
            repeat walk_at "rd"
            refine i_ixT ctm (atI_nat (j := 1) rfl) ?_
            repeat walk_at "rd"
            refine ⟨a, _, rfl, DGet.k (k := .inl (n : Int)) hL'.l |> (fun z => by rw [valV_cdK hn] at z; exact z), ?_⟩
            repeat walk_at "rd"
            refine i_ixT ctn (atI_nat (j := 1) rfl) ?_
            repeat walk_at "rd"
            refine ⟨_, _, _, _, _, _, _, _, rfl, rfl, SqT.of cm.h, SqT.of cn.h, ?_⟩
            repeat walk_at "rd"
            refine if_d (fun c2 => ?_) (fun c2 => ?_)
            · repeat walk_at "rd"
              refine i_append eO (by simp only [List.length_map]; omega) fun H3 x3 e3 => ?_
              refine cnext hi' ⟨_, os ++ [m], rfl, rfl, by rw [List.length_append]; simp only [List.length_cons, List.length_nil]; omega, by rw [List.map_append, List.map_append]; exact e3, sx.trans x3, fun k hk => ?_⟩
              rcases List.mem_append.mp hk with hk | hk
              · exact hos k hk
              · rw [List.mem_singleton.mp hk]
                refine ⟨hm, fun z => c1 (by rw [z]), ?_⟩
                have z1 : (f m).b.h = ⟨(f m).b.h.x, (f m).b.h.y, (f m).b.h.z⟩ := rfl
                rw [z1, c2.1, c2.2.1, c2.2.2]
            · repeat walk_at "rd"
              exact cnext hi' ⟨_, os, rfl, rfl, Nat.le_succ_of_le hol, eO, sx, hos⟩
          · repeat walk_at "rd"
            exact cnext hi' ⟨_, os, rfl, rfl, Nat.le_succ_of_le hol, eO, sx, hos⟩
        rintro xs σ' H3 ⟨v, os, rfl, rfl, hol, eO, sx, hos⟩
        have s3 : Same H2 H3 := fun b o e => sx b o e (ne_of_none e hO)
        have e1 := s3 _ _ (s2 _ _ e1)
        repeat walk_at "rd"
        refine i_newLf (by simp) fun q4 H4 n4 s4 e4 => ?_
        have e1 := s4 _ _ e1
        have eO := s4 _ _ eO
        refine ⟨O, q4, _, rfl, rfl, SqL.of eO, SqL.of e4, ?_⟩
        cases os with
        | nil =>
          repeat walk_at "rd"
          exact ⟨_, _, rfl, s3.trans s4⟩
        | cons o os =>
          rw [show (!(List.map V.int (List.map (fun n : Nat => (n : Int)) (o :: os))).isEmpty) = true from rfl]
          repeat walk_at "rd"
          refine i_newLf (by simp) fun q5 H5 n5 s5 e5 => ?_
          have e1 := s5 _ _ e1
          have eO := s5 _ _ eO
          have hp2 : (0 : Int) < ((List.map V.int (List.map (fun n : Nat => (n : Int)) (o :: os))).length : Nat) := by simp only [List.length_map, List.length_cons]; omega
          repeat (first | walk_at "rd" | refine i_ixL e5 (atI_nat (j := 0) rfl) ?_ | refine i_ixL e1 k2 ?_)
          repeat (first | walk_at "rd" | refine i_ixL e5 (atI_nat (j := 0) rfl) ?_ | refine i_ixL e1 k2 ?_)
          obtain ⟨m, hm, gm⟩ := nat_in (ns := o :: os) (i := x2) (by simp)
          refine i_ixL eO gm ?_
          repeat walk_at "rd"
          refine i_newTf (by simp) fun p6 H6 n6 s6 e6 => ?_
          obtain ⟨h1, h2, h3⟩ := hos m hm
          exact q p6 (.glue false n m) n m H6 (((((s1.trans s2).trans s3).trans s4).trans s5).trans s6) e6 (good_glue hR zz hn h1 h2 (ob n hn) (ob m h1) h3) rfl
      · rw [hw]
        refine if_d (fun _ => ?_) (fun c => absurd (by decide) c)
        repeat walk_at "rd"
        refine i_compL ?_
        repeat walk_at "rd"
        refine ⟨p2, rfl, ⟨_, SqL.of e2⟩, fun O hO => comp_list (K := K) (a := p2) (ys := (ns.map fun n : Nat => (n : Int)).map V.int) (fun i xs σ' H' => ∃ (v : Option V) (os : List Nat), σ' = [v, some (.ref a), some (.int (n : Int)), some (.int 0)] ∧ xs = (os.map fun n : Nat => (n : Int)).map V.int ∧ os.length ≤ i ∧ H' O = some (.lst xs) ∧ SameX O H2 H' ∧ ∀ m ∈ os, m ∈ ns ∧ n ≠ m ∧ (f n).b.w = (f m).b.w) ⟨none, [], rfl, rfl, Nat.le_refl _, upd_same, fun b o e n => by rw [upd_ne n]; exact e, fun m hm => absurd hm (by simp)⟩ (fun i xs σ' H' _ z => by obtain ⟨v, os, _, _, _, _, z, _⟩ := z; exact SqL.of (z _ _ e2 (ne_of_none e2 hO))) ?_ ?_⟩
        · rintro i x xs σ' H' hi ⟨v, os, rfl, rfl, hol, eO, sx, hos⟩
          have hi' := (List.getElem?_eq_some_iff.mp hi).1
          have hil : i < ns.length := by simpa using hi'
          obtain ⟨m, hm, rfl⟩ : ∃ m ∈ ns, x = .int (m : Int) := by
            obtain ⟨y, hy, rfl⟩ := List.mem_map.mp (List.mem_of_getElem? hi)
            obtain ⟨m, hm, rfl⟩ := List.mem_map.mp hy
            exact ⟨m, hm, rfl⟩
          have s' : Same H2 H' := fun b o e => sx b o e (ne_of_none e hO)
          have hL' := hL.same ((s1.trans s2).trans s')
          have cm := hL'.at' m hm
          have cn := hL'.at' n hn
          have ctm := cm.t
          have ctn := cn.t
          repeat walk_at "rd"
          refine if_nd (fun c1 => ?_) (fun c1 => ?_)
          · repeat walk_at "rd"
            refine ⟨a, _, rfl, DGet.k (k := .inl (m : Int)) hL'.l |> (fun z => by rw [valV_cdK hm] at z; exact z), ?_⟩
            repeat walk_at "rd"
            refine i_ixT ctm (atI_nat (j := 0) rfl) ?_
            repeat walk_at "rd"
            refine ⟨a, _, rfl, DGet.k (k := .inl (n : Int)) hL'.l |> (fun z => by rw [valV_cdK hn] at z; exact z), ?_⟩
            repeat walk_at "rd"
            refine i_ixT ctn (atI_nat (j := 0) rfl) ?_
            repeat walk_at "rd"
            refine ⟨_, _, _, _, _, _, _, _, rfl, rfl, SqT.of cm.w, SqT.of cn.w, ?_⟩
            repeat walk_at "rd"
            refine if_d (fun c2 => ?_) (fun c2 => ?_)
            · repeat walk_at "rd"
              refine i_append eO (by simp only [List.length_map]; omega) fun H3 x3 e3 => ?_
              refine cnext hi' ⟨_, os ++ [m], rfl, rfl, by rw [List.length_append]; simp only [List.length_cons, List.length_nil]; omega, by rw [List.map_append, List.map_append]; exact e3, sx.trans x3, fun k hk => ?_⟩
              rcases List.mem_append.mp hk with hk | hk
              · exact hos k hk
              · rw [List.mem_singleton.mp hk]
                refine ⟨hm, fun z => c1 (by rw [z]), ?_⟩
                have z1 : (f m).b.w = ⟨(f m).b.w.x, (f m).b.w.y, (f m).b.w.z⟩ := rfl
                rw [z1, c2.1, c2.2.1, c2.2.2]
            · repeat walk_at "rd"
              exact cnext hi' ⟨_, os, rfl, rfl, Nat.le_succ_of_le hol, eO, sx, hos⟩
          · repeat walk_at "rd"
            exact cnext hi' ⟨_, os, rfl, rfl, Nat.le_succ_of_le hol, eO, sx, hos⟩
        rintro xs σ' H3 ⟨v, os, rfl, rfl, hol, eO, sx, hos⟩
        have s3 : Same H2 H3 := fun b o e => sx b o e (ne_of_none e hO)
        have e1 := s3 _ _ (s2 _ _ e1)
        repeat walk_at "rd"
        refine i_newLf (by simp) fun q4 H4 n4 s4 e4 => ?_
        have e1 := s4 _ _ e1
        have eO := s4 _ _ eO
        refine ⟨O, q4, _, rfl, rfl, SqL.of eO, SqL.of e4, ?_⟩
        cases os with
        | nil =>
          repeat walk_at "rd"
          exact ⟨_, _, rfl, s3.trans s4⟩
        | cons o os =>
          rw [show (!(List.map V.int (List.map (fun n : Nat => (n : Int)) (o :: os))).isEmpty) = true from rfl]
          repeat walk_at "rd"
          refine i_newLf (by simp) fun q5 H5 n5 s5 e5 => ?_
          have e1 := s5 _ _ e1
          have eO := s5 _ _ eO
          have hp2 : (0 : Int) < ((List.map V.int (List.map (fun n : Nat => (n : Int)) (o :: os))).length : Nat) := by simp only [List.length_map, List.length_cons]; omega
          repeat (first | walk_at "rd" | refine i_ixL e5 (atI_nat (j := 1) rfl) ?_ | refine i_ixL e1 k2 ?_)
          repeat (first | walk_at "rd" | refine i_ixL e5 (atI_nat (j := 1) rfl) ?_ | refine i_ixL e1 k2 ?_)
          obtain ⟨m, hm, gm⟩ := nat_in (ns := o :: os) (i := x2) (by simp)
          refine i_ixL eO gm ?_
          repeat walk_at "rd"
          refine i_newTf (by simp) fun p6 H6 n6 s6 e6 => ?_
          obtain ⟨h1, h2, h3⟩ := hos m hm
          exact q p6 (.glue true n m) n m H6 (((((s1.trans s2).trans s3).trans s4).trans s5).trans s6) e6 (good_glue hR zz hn h1 h2 (ob n hn) (ob m h1) h3) rfl
    · refine if_d (fun c => absurd c w4) (fun _ => ?_)
      repeat walk_at "rd"
      exact ⟨_, _, rfl, Same.refl _⟩
  rintro σ' H3 ⟨v, v', rfl, s3⟩
  have e1' := s3 _ _ e1'
  repeat walk_at "rd"
  refine i_newLf (by simp) fun q4 H4 n4 s4 e4 => ?_
  have e1' := s4 _ _ e1'
  repeat walk_at "rd"
  obtain ⟨al, gal⟩ : ∃ al : Bool, atI [V.str (Str.ofString "stack"), V.str (Str.ofString "spread")] (way % 2) = some (.str (Dd.shift al n 1).wd) := by
    have : way % 2 = 0 ∨ way % 2 = 1 := by omega
    rcases this with h | h
    · exact ⟨false, by rw [h]; rfl⟩
    · exact ⟨true, by rw [h]; rfl⟩
  refine i_ixL e4 gal ?_
  repeat (first | walk_at "rd" | refine i_ixL e1' k7 ?_)
  refine i_newLf (by simp) fun q5 H5 n5 s5 e5 => ?_
  repeat walk_at "rd"
  obtain ⟨t, gt, t1, t2⟩ : ∃ t : Int, atI [V.int ((10 : Int) ^ (4 : Int).toNat), V.int 6] (c % 2) = some (.int t) ∧ 1 ≤ t ∧ t ≤ 10000 := by
    have : c % 2 = 0 ∨ c % 2 = 1 := by omega
    rcases this with h | h
    · exact ⟨(10 : Int) ^ (4 : Int).toNat, by rw [h]; rfl, by decide, by decide⟩
    · exact ⟨6, by rw [h]; rfl, by decide, by decide⟩
  refine i_ixL e5 gt ?_
  have h4 := Int.emod_nonneg x7 (show t ≠ 0 by omega)
  have h5 := Int.emod_lt_of_pos x7 (show 0 < t by omega)
  repeat walk_at "rd"
  refine i_newTf (by simp) fun p6 H6 n6 s6 e6 => ?_
  exact q p6 (.shift al n (1 + x7 % t)) n n H6 (((((s1.trans s2).trans s3).trans s4).trans s5).trans s6) e6 (good_shift hR zz hn (ob n hn) (by omega) (bd_range (B := 10000) (by omega) (by omega) (by decide))) rfl
set_option maxHeartbeats 4000000 in
theorem ok_Yard_do {f : Addr} {fd : FuncData} (F : Fun K "do" "Yard.do" s_Yard_do f fd) (B : Bl mg) (X : Xs K mg cs) (g_TURN : TopS mg "TURN" (Str.ofString "turn")) (o_names_taken : Own P w K mg base 1 "names_taken" ["deed"] [] sp_names_taken) (o_Yard_check_names : OwnM P w K mg base CX0 cs.Yard 2 "check_names" ["self", "names"] [] (sp_Yard_check_names cs)) (o_Yard_put_by : OwnM P w K mg base CX0 cs.Yard 5 "put_by" ["self", "deed", "boards"] [] (sp_Yard_put_by cs)) (o_is_deed : Own P w K mg base 4 "is_deed" ["thing"] [] sp_is_deed) : FnOk P w K mg base CX0 6 f fd ["self", "deed"] (sp_Yard_do cs) := by
  obtain ⟨u_TURN, m_TURN, r_TURN⟩ := g_TURN
  refine F.ok (k := 5) sc_Yard_do (fun vs H Q E h => ?_) (fun cdv A outer s H vs Q E hr h => ?_)
  · obtain ⟨y, d, tn, cl, ns, lg, p, e, c, c', rfl, hy, he, ok, hm, hn, ht, hc, hf, hd, l1, l2, q⟩ := h
    rfl
  obtain ⟨y, d, tn, cl, ns, lg, p, e, c, c', rfl, hy, he, ok, hm, hn, ht, hc, hf, hd, l1, l2, q⟩ := h
  refine ⟨_, (pss_cons (ps_if (pt_not (pt_val (pe_own o_is_deed hr rfl (pa_cons (pv 1) pa_nil)))) (pss_one ps_never) pss_nil) (pss_cons (ps_set (i := 2) sc_Yard_do.nd rfl (Or.inl rfl) (pe_own o_names_taken hr rfl (pa_cons (pv 1) pa_nil))) (pss_cons (ps_expr (pe_mown o_Yard_check_names pass0 hr (pv 0) (pa_cons (pv 2) pa_nil))) (pss_cons (ps_if (PW.pt (pw_and (pt_cmpR op_eq (pe_ix ix_tup (pv 1) pe_int (fun _ _ => rfl)) (pe_glob (v := .str (Str.ofString "turn")) rfl m_TURN r_TURN) (nomark _)) (pw_and1 (pt_not (pt_val (pe_fldK (K := K) rfl (pv 0) rfl)))))) (pss_one ps_never) pss_nil) (pss_cons (ps_set (i := 3) sc_Yard_do.nd rfl (Or.inl rfl) (pe_mown o_Yard_put_by pass0 hr (pv 0) (pa_cons (pv 1) (pa_cons (pe_comp ["name"] [0] rfl (pi_list (pv 2)) (fun _ _ _ _ _ => (pg_name (i := 0) (show List.Nodup (α := Str) ["name", "self"] by decide +kernel) rfl (Or.inl rfl))) (fun _ _ _ _ _ => pifs_nil) (fun _ _ _ _ _ => (pe_ix (r := rIxL K) ix_list (pe_fldK (K := K) rfl (pv 1) rfl) (pv 0) (fun _ _ => rfl)))) pa_nil)))) (pss_cons (ps_for PassesOwn.never rfl (pi_list (pv 2)) (pg_name (i := 4) sc_Yard_do.nd rfl (Or.inl rfl)) (pss_one (ps_expr (pe_dpop1 (pe_fldK (K := K) rfl (pv 0) rfl) (pv 4) ⟨rfl, rfl, rfl, rfl⟩)))) (pss_cons (ps_for PassesOwn.never rfl (pi_list (pv 3)) (pg_name (i := 5) sc_Yard_do.nd rfl (Or.inl rfl)) (pss_cons (ps_dput (hu_of hr) (pe_fldK (K := K) rfl (pv 0) rfl) (pe_callB call_lenR rfl B.len PySem.boot_len (pa_cons (pe_fldK (K := K) rfl (pv 0) rfl) pa_nil)) pe_bl rfl) (pss_one (ps_expr (pe_bm PySem.F.plainAttrs_list PySem.F.slot_list_append PySem.F.type_list_append mt_append (pe_fldK (K := K) rfl (pv 0) rfl) (pa_cons (pv 5) pa_nil)))))) (pss_one (ps_expr (pe_bm PySem.F.plainAttrs_list PySem.F.slot_list_append PySem.F.type_list_append mt_append (pe_fldK (K := K) rfl (pv 0) rfl) (pa_cons (pv 1) pa_nil))))))))))), ?_⟩
  rw [show start ["self", "deed", "names", "fresh", "name", "one"] [.ref y.p, .ref p] = [some (.ref y.p), some (.ref p), none, none, none, none] from rfl]
  repeat walk_at "rd"
  refine c_is_deed he ok fun H1 s1 => ?_
  repeat walk_at "rd"
  refine c_names_taken (he.same s1) fun a H2 s2 na ea => ?_
  have t2 := s1.trans s2
  repeat walk_at "rd"
  have hy2 := hy.same t2
  have he2 := he.same t2
  refine ⟨_, _, _, rfl, hy2.o, rfl, ?_⟩
  repeat walk_at "rd"
  refine c_Yard_check_names hy2 ea hm hn e.names_len ?_
  repeat walk_at "rd"
  obtain ⟨rs, hp⟩ := he2.tup
  refine i_ixT hp (atI_nat (j := 0) rfl) ?_
  repeat walk_at "rd"
  refine by_sh ?_ (fun ct hB => ?_)
  rotate_left
  · repeat walk_at "rd"
    refine ⟨_, _, _, _, _, rfl, hy2.o, X.c_Yard, X.n_Yard_turning, rfl, ?_⟩
    rw [ht (wd_turn ct)]
    walk_at "rd"
    exact if_nt hB
  repeat walk_at "rd"
  refine ⟨_, _, _, rfl, hy2.o, rfl, ?_⟩
  repeat walk_at "rd"
  refine i_compL ?_
  repeat walk_at "rd"
  refine ⟨a, rfl, ⟨_, SqL.of ea⟩, fun D hD => comp_list (K := K) (a := a) (ys := e.names.map V.int) (fun i xs σ' H' => ∃ v : Option V, σ' = [v, some (.ref y.p)] ∧ xs = ((e.cells c c').take i).map Cell.v ∧ H' D = some (.lst xs) ∧ SameX D H2 H') ⟨none, rfl, rfl, upd_same, fun b o e n => by rw [upd_ne n]; exact e⟩ (fun i xs σ' H' _ z => by obtain ⟨v, _, _, _, z⟩ := z; exact SqL.of (z _ _ ea (ne_of_none ea hD))) ?_ ?_⟩
  · rintro i x xs σ' H' hi ⟨v, rfl, rfl, eD, sx⟩
    rw [List.getElem?_map] at hi
    obtain ⟨m, hm', rfl⟩ := Option.map_eq_some_iff.mp hi
    obtain ⟨n, x, rfl, hx, hcx⟩ := names_cells hc hm'
    have hi3 := (List.getElem?_eq_some_iff.mp hm').1
    have hn2 := e.names_len
    have s' : Same H2 H' := fun b o e => sx b o e (ne_of_none e hD)
    have hy' := hy2.same s'
    repeat walk_at "rd"
    refine ⟨_, _, _, _, _, rfl, hy'.o, X.c_Yard, X.n_Yard_known, rfl, ?_⟩
    repeat walk_at "rd"
    refine i_ixL hy'.k (v := x.v) (atI_nat (by rw [List.getElem?_map, hx]; rfl)) ?_
    repeat walk_at "rd"
    refine i_append eD (by rw [List.length_map, List.length_take]; omega) fun H3 x3 e3 => ?_
    refine cnext (by rw [List.length_map]; exact hi3) ⟨_, rfl, rfl, ?_, sx.trans x3⟩
    rw [List.take_succ, hcx, List.map_append]
    exact e3
  rintro xs σ' H3 ⟨v, rfl, rfl, eD, sx⟩
  have s3 : Same H2 H3 := fun b o e => sx b o e (ne_of_none e hD)
  have t3 := t2.trans s3
  have hy3 := hy.same t3
  rw [List.length_map, ← e.cells_len c c', List.take_length] at eD
  repeat walk_at "rd"
  refine c_Yard_put_by hy3 (he.same t3) (by rw [eD]; unfold Dd.cells; cases e.two <;> rfl) (hy3.at' c hc.mem.1) (hy3.at' c' hc.mem.2) hd hf fun r N H4 s4 nr er hN hNb => ?_
  have t4 := t3.trans s4
  have hy4 := hy.same t4
  have ea4 := s4 _ _ (s3 _ _ ea)
  have kl : y.k ≠ y.l := ne_of hy4.k hy4.l (fun z => nomatch z)
  have tl : y.t ≠ y.l := ne_of hy4.t hy4.l (fun z => nomatch z)
  have ol : y.p ≠ y.l := ne_of hy4.o hy4.l (fun z => nomatch z)
  have ok' : y.p ≠ y.k := ne_of hy4.o hy4.k (fun z => nomatch z)
  have ot : y.p ≠ y.t := ne_of hy4.o hy4.t (fun z => nomatch z)
  have al : a ≠ y.l := ne_of ea4 hy4.l (fun z => nomatch z)
  have rl : r ≠ y.l := ne_of er hy4.l (fun z => nomatch z)
  have rk : r ≠ y.k := Ne.symm (ne_of_none hy3.k nr)
  repeat walk_at "rd"
  refine i_forL ?_
  repeat walk_at "rd"
  refine ⟨a, rfl, ⟨_, SqL.of ea4⟩, for_list (K := K) (a := a) (xs := e.names.map V.int) (fun i σ H' => ∃ v, σ = [some (.ref y.p), some (.ref p), some (.ref a), some (.ref r), v, none] ∧ H' y.l = some (.dK (nmK (ndrop ns (e.names.take i)))) ∧ SameX y.l H4 H') ⟨_, rfl, hy4.l, fun b o e _ => e⟩ (fun i σ H' _ ⟨_, _, _, x⟩ => SqL.of (x _ _ ea4 al)) ?_ ?_⟩
  · rintro i x σ H' hi ⟨v, rfl, el, sx5⟩
    rw [List.getElem?_map] at hi
    obtain ⟨m, hm', rfl⟩ := Option.map_eq_some_iff.mp hi
    obtain ⟨n, hn', rfl⟩ := hm m (List.mem_of_getElem? hm')
    have hni : (n : Int) ∉ e.names.take i := by
      intro hh
      obtain ⟨j, hj⟩ := List.getElem?_of_mem hh
      have hj1 := (List.getElem?_eq_some_iff.mp hj).1
      rw [List.length_take] at hj1
      rw [List.getElem?_take_of_lt (by omega)] at hj
      have := (List.getElem?_inj (i := j) (by omega) hn).mp (hj.trans hm'.symm)
      omega
    have eo := sx5 _ _ hy4.o ol
    repeat walk_at "rd"
    refine ⟨_, _, _, _, _, rfl, eo, X.c_Yard, X.n_Yard_lying, rfl, ?_⟩
    refine ⟨y.l, rfl, .inl ⟨_, .inl el⟩, ?_⟩
    repeat walk_at "rd"
    refine ⟨_, .inl (n : Int), _, el, rfl, valV_nmK (mem_ndrop.mpr ⟨hn', hni⟩), ?_⟩
    refine ⟨_, rfl, ?_, fun b o e n => by rw [upd_ne n]; exact sx5 b o e n⟩
    rw [upd_same, dropK_nmK, List.take_succ, hm', show ((some (n : Int)).toList) = [(n : Int)] from rfl, ndrop_snoc]
  rintro σ H5 ⟨v, rfl, el5, sx5⟩
  rw [List.length_map, List.take_length] at el5
  have er5 := sx5 _ _ er rl
  have ek5 := sx5 _ _ hy4.k kl
  have hN2 : N.length ≤ 2 := by rw [← List.length_map (f := Cell.b), hNb]; exact new_len e _ _
  have dl := up_len (up_ndrop (ms := e.names) hy.up) (fun n h => hy.lt n (mem_ndrop.mp h).1)
  repeat walk_at "rd"
  refine i_forL ?_
  repeat walk_at "rd"
  refine ⟨r, rfl, ⟨_, SqL.of er5⟩, for_list (K := K) (a := r) (xs := N.map Cell.v) (fun i σ H' => ∃ v v', σ = [some (.ref y.p), some (.ref p), some (.ref a), some (.ref r), v, v'] ∧ H' y.l = some (.dK (nmK (ndrop ns e.names ++ List.range' cl.length i))) ∧ H' y.k = some (.lst ((cl ++ N.take i).map Cell.v)) ∧ ∀ b o, H5 b = some o → b ≠ y.k → b ≠ y.l → H' b = some o) ⟨_, _, rfl, by simpa using el5, by simpa using ek5, fun b o e _ _ => e⟩ (fun i σ H' _ ⟨_, _, _, _, _, x⟩ => SqL.of (x _ _ er5 rk rl)) ?_ ?_⟩
  · rintro i x σ H' hi ⟨v1, v2, rfl, el, ek, sx6⟩
    rw [List.getElem?_map] at hi
    obtain ⟨cx, hcx, rfl⟩ := Option.map_eq_some_iff.mp hi
    have hi3 := (List.getElem?_eq_some_iff.mp hcx).1
    have eo := sx6 _ _ (sx5 _ _ hy4.o ol) ok' ol
    have lk : ((cl ++ N.take i).map Cell.v).length = cl.length + i := by rw [List.length_map, List.length_append, List.length_take]; omega
    repeat walk_at "rd"
    refine ⟨_, _, _, _, _, rfl, eo, X.c_Yard, X.n_Yard_lying, rfl, ?_⟩
    repeat walk_at "rd"
    refine ⟨_, _, _, _, _, rfl, eo, X.c_Yard, X.n_Yard_known, rfl, ?_⟩
    repeat walk_at "rd"
    rw [lk]
    refine ⟨y.l, _, rfl, DPut.k (k := .inl ((cl.length + i : Nat) : Int)) el (by simp only [nmK, List.length_map, List.length_append, List.length_range']; exact Nat.lt_of_lt_of_le (show _ < 1000 by omega) (by decide +kernel)), ?_⟩
    have ek' : upd H' y.l (.dK (putK (nmK (ndrop ns e.names ++ List.range' cl.length i)) (.inl ((cl.length + i : Nat) : Int)) (.bl true))) y.k = some (.lst ((cl ++ N.take i).map Cell.v)) := by rw [upd_ne kl]; exact ek
    repeat walk_at "rd"
    refine ⟨_, _, _, _, _, rfl, by rw [upd_ne ol]; exact eo, X.c_Yard, X.n_Yard_known, rfl, ?_⟩
    repeat walk_at "rd"
    refine i_append ek' (by rw [lk]; omega) fun H7 x7 e7 => ?_
    refine ⟨_, _, rfl, ?_, ?_, fun b o e n1 n2 => x7 _ _ (by rw [upd_ne n2]; exact sx6 b o e n1 n2) n1⟩
    · rw [x7 _ _ upd_same (Ne.symm kl)]
      rw [putK_new _ (valV_fresh (fun n hn => ?_))]
      · rw [List.range'_concat, ← List.append_assoc]
        simp [nmK]
      · rcases List.mem_append.mp hn with hn | hn
        · have := hy.lt n (mem_ndrop.mp hn).1
          omega
        · have := List.mem_range'_1.mp hn
          omega
    · rw [List.take_succ, hcx, ← List.append_assoc, List.map_append]
      exact e7
  rintro σ H6 ⟨v1, v2, rfl, el6, ek6, sx6⟩
  rw [List.length_map] at el6 ek6
  rw [List.take_length] at ek6
  have eo6 := sx6 _ _ (sx5 _ _ hy4.o ol) ok' ol
  have et6 := sx6 _ _ (sx5 _ _ hy4.t tl) (Ne.symm hy.kt) tl
  repeat walk_at "rd"
  refine ⟨_, _, _, _, _, rfl, eo6, X.c_Yard, X.n_Yard_done, rfl, ?_⟩
  repeat walk_at "rd"
  refine i_append et6 (by omega) fun H7 x7 e7 => ?_
  repeat walk_at "rd"
  have keep : ∀ x : Cell, x.At H4 → x.At H7 := fun x hx => by
    have f : ∀ {b : Addr} {ys : List V}, H4 b = some (.tup ys) → H7 b = some (.tup ys) := fun {b ys} e => x7 _ _ (sx6 _ _ (sx5 _ _ e (ne_of e hy4.l (fun z => nomatch z))) (ne_of e hy4.k (fun z => nomatch z)) (ne_of e hy4.l (fun z => nomatch z))) (ne_of e hy4.t (fun z => nomatch z))
    exact ⟨f hx.t, f hx.w, f hx.h⟩
  refine q N H7 ⟨x7 _ _ eo6 ot, x7 _ _ ek6 hy.kt, x7 _ _ el6 (Ne.symm tl), e7, hy.kt, fun x hx => ?_, ?_, fun n hn => ?_, by rw [List.length_append]; omega, by rw [List.length_append]; simp only [List.length_cons, List.length_nil]; omega⟩ hNb (fun b o e n1 n2 n3 => x7 _ _ (sx6 _ _ (sx5 _ _ (t4 _ _ e) n2) n1 n2) n3)
  · rcases List.mem_append.mp hx with hx | hx
    · exact keep x (hy4.at' x hx)
    · exact keep x (hN x hx)
  · refine List.pairwise_append.mpr ⟨up_ndrop hy.up, List.pairwise_lt_range' .., fun n1 h1 n2 h2 => ?_⟩
    have := hy.lt n1 (mem_ndrop.mp h1).1
    have := List.mem_range'_1.mp h2
    omega
  · rw [List.length_append]
    rcases List.mem_append.mp hn with hn | hn
    · have := hy.lt n (mem_ndrop.mp hn).1
      omega
    · have := List.mem_range'_1.mp hn
      omega
theorem flat2 : ∀ L : List Cell, (L.flatMap (fun c => [c.b.w, c.b.h])).length = 2 * L.length
  | [] => rfl
  | c :: L => by
    have := flat2 L
    simp only [List.flatMap_cons, List.length_append, List.length_cons, List.length_nil] at this ⊢
    omega
set_option maxHeartbeats 4000000 in
theorem ok_law {f : Addr} {fd : FuncData} (F : Fun K "law" "law" s_law f fd) (B : Bl mg) (X : Xs K mg cs) (o__law_root : Own P w K mg base 2 "_law_root" ["_law_cell_here", "_law_k"] [] sp__law_root) (o__law_heap : Own P w K mg base 4 "_law_heap" ["_law_script", "_law_d", "_law_first"] [] (sp__law_heap K)) (o_Yard___init___3 : OwnI P w K mg base CX0 cs.Yard 1 "Yard" ["self", "d", "heap", "turning"] [.bl false] (sp_Yard___init__ cs)) (o_Yard_do : OwnM P w K mg base CX0 cs.Yard 6 "do" ["self", "deed"] [] (sp_Yard_do cs)) (o__law_begin : Own P w K mg base 1 "_law_begin" ["_law_heap_here"] [] sp__law_begin) (o__law_cell : Own P w K mg base 1 "_law_cell" ["_law_script", "_law_k"] [] (sp__law_cell K)) (o_Yard___init___3_k_turning : OwnIK P w K mg base CX0 cs.Yard 1 "Yard" ["self", "d", "heap", "turning"] ["turning"] gV_Yard___init___3_k_turning (sp_Yard___init__ cs)) (o__law_right : Own P w K mg base 4 "_law_right" ["_law_yard", "_law_lying", "_law_log"] [] (sp__law_right cs)) (o__law_deed : Own P w K mg base 6 "_law_deed" ["_law_d", "_law_cell_here", "_law_lying", "_law_pool"] [] (sp__law_deed K)) (o__law_done : Own P w K mg base 5 "_law_done" ["_law_lying", "_law_used", "_law_deed_here"] [] sp__law_done) (o__law_great : Own P w K mg base 1 "_law_great" ["_law_cell_here", "_law_k"] [] sp__law_great) (o_Yard_log : OwnM P w K mg base CX0 cs.Yard 1 "log" ["self"] [] (sp_Yard_log cs)) (o_Yard_boards : OwnM P w K mg base CX0 cs.Yard 1 "boards" ["self"] [] (sp_Yard_boards cs)) (o__law_digits : Own P w K mg base 2 "_law_digits" ["_law_cell_here", "_law_many"] [] sp__law_digits) : FnOk P w K mg base CX0 7 f fd ["_law_script"] (spLaw K) := by
  refine F.ok (k := 6) sc_law (fun vs H Q E h => ?_) (fun cdv A outer s H vs Q E hr h => ?_)
  · obtain ⟨a, ns, rfl, hS, h63, hbd, q⟩ := h
    rfl
  obtain ⟨a, ns, rfl, hS, h63, hbd, q⟩ := h
  refine ⟨_, (pss_cons (ps_set (i := 1) sc_law.nd rfl (Or.inl rfl) (pe_own o__law_root hr rfl (pa_cons (pe_own o__law_cell hr rfl (pa_cons (pv 0) (pa_cons pe_int pa_nil))) (pa_cons pe_int pa_nil)))) (pss_cons (ps_asg (pe_own o__law_heap hr rfl (pa_cons (pv 0) (pa_cons (pv 1) (pa_cons pe_int pa_nil)))) (pg_tup (n := 2) rfl (pgs_cons (pg_name (i := 2) sc_law.nd rfl (Or.inl rfl)) (pgs_cons (pg_name (i := 3) sc_law.nd rfl (Or.inl rfl)) pgs_nil)))) (pss_cons (ps_set (i := 4) sc_law.nd rfl (Or.inl rfl) (pe_cmpR op_eq (pe_op op_mod (pe_own o__law_great hr rfl (pa_cons (pe_own o__law_cell hr rfl (pa_cons (pv 0) (pa_cons pe_int pa_nil))) (pa_cons pe_int pa_nil))) pe_int) pe_int (nomark _))) (pss_cons (ps_set (i := 5) sc_law.nd rfl (Or.inl rfl) (pe_callTy call_lstR rfl B.list bt_list (pa_cons (pv 3) pa_nil))) (pss_cons (ps_set (i := 6) sc_law.nd rfl (Or.inl rfl) (pe_iown o_Yard___init___3 pass0 hr rfl (pa_cons (pv 1) (pa_cons (pe_lst (pa_cons (pe_ix ix_list (pv 3) (pe_un un_neg pe_int) (fun _ _ => rfl)) pa_nil)) pa_nil)))) (pss_cons (ps_expr (pe_mown o_Yard_do pass0 hr (pv 6) (pa_cons (pe_tup (pa_cons pe_str (pa_cons pe_int (pa_cons pe_int pa_nil)))) pa_nil))) (pss_cons (ps_set (i := 7) sc_law.nd rfl (Or.inl rfl) (pe_ifExp (pt_val (pv 4)) (pe_iownK o_Yard___init___3_k_turning pass0 hr rfl (pa_cons (pv 1) (pa_cons (pv 5) pa_nil)) (pk_cons pe_bl pk_nil)) (pe_iown o_Yard___init___3 pass0 hr rfl (pa_cons (pv 1) (pa_cons (pv 5) pa_nil))))) (pss_cons (ps_if (pt_cmpR (op_neS hr.units) (pv 5) (pv 3) (nomark _)) (pss_one (ps_ret pe_bl)) pss_nil) (pss_cons (ps_expr (pe_bm PySem.F.plainAttrs_list PySem.F.slot_list_append PySem.F.type_list_append mt_append (pv 5) (pa_cons (pe_ix ix_list (pv 5) pe_int (fun _ _ => rfl)) pa_nil))) (pss_cons (ps_asg (pe_own o__law_begin hr rfl (pa_cons (pv 3) pa_nil)) (pg_tup (n := 2) rfl (pgs_cons (pg_name (i := 8) sc_law.nd rfl (Or.inl rfl)) (pgs_cons (pg_name (i := 9) sc_law.nd rfl (Or.inl rfl)) pgs_nil)))) (pss_cons (ps_set (i := 10) sc_law.nd rfl (Or.inl rfl) (pe_lst pa_nil)) (pss_cons (ps_if (pt_not (pt_val (pe_own o__law_right hr rfl (pa_cons (pv 7) (pa_cons (pv 8) (pa_cons (pv 10) pa_nil)))))) (pss_one (ps_ret pe_bl)) pss_nil) (pss_cons (ps_for PassesOwn.never rfl (pi_list (pe_slice sl_list (pv 0) (po_some pe_int) (po_some pe_int))) (pg_name (i := 11) sc_law.nd rfl (Or.inl rfl)) (pss_cons (ps_set (i := 12) sc_law.nd rfl (Or.inl rfl) (pe_own o__law_deed hr rfl (pa_cons (pv 1) (pa_cons (pv 11) (pa_cons (pv 8) (pa_cons (pv 2) pa_nil)))))) (pss_cons (ps_cut (ps_if (PW.pt (pw_and (pt_val (pv 4)) (pw_and1 (pt_cmpR op_eq (pe_op op_mod (pe_ix ix_list (pe_own o__law_digits hr rfl (pa_cons (pv 11) (pa_cons pe_int pa_nil))) pe_int (fun _ _ => rfl)) pe_int) pe_int (nomark _))))) (pss_one (ps_set (i := 12) sc_law.nd rfl (Or.inl rfl) (pe_tup (pa_cons pe_str (pa_cons (pe_ix ix_tup (pv 12) pe_int (fun _ _ => rfl)) pa_nil))))) pss_nil)) (pss_cons (ps_if (pt_cmpR op_notNR (pe_mown o_Yard_do pass0 hr (pv 7) (pa_cons (pv 12) pa_nil)) pe_non (nomark _)) (pss_one (ps_ret pe_bl)) pss_nil) (pss_cons (ps_asg (pe_own o__law_done hr rfl (pa_cons (pv 8) (pa_cons (pv 9) (pa_cons (pv 12) pa_nil)))) (pg_tup (n := 2) rfl (pgs_cons (pg_name (i := 8) sc_law.nd rfl (Or.inl rfl)) (pgs_cons (pg_name (i := 9) sc_law.nd rfl (Or.inl rfl)) pgs_nil)))) (pss_cons (ps_expr (pe_bm PySem.F.plainAttrs_list PySem.F.slot_list_append PySem.F.type_list_append mt_append (pv 10) (pa_cons (pv 12) pa_nil))) (pss_one (ps_if (pt_not (pt_val (pe_own o__law_right hr rfl (pa_cons (pv 7) (pa_cons (pv 8) (pa_cons (pv 10) pa_nil)))))) (pss_one (ps_ret pe_bl)) pss_nil)))))))) (pss_one (ps_ret (pe_and (pe_cmpR (op_eqL hr.units) (pe_mown0 o_Yard_log pass0 hr (pv 6)) (WE.w (we_lst (wa_cons (we_tup (wa_cons (we_of pe_str) (wa_cons (we_of pe_int) (wa_cons (we_of pe_int) wa_nil)))) wa_nil))) (nomark _)) (pe_one (pe_cmpR (op_eqL hr.units) (pe_comp ["_law_one"] [] rfl (pi_list (pe_mown0 o_Yard_boards pass0 hr (pv 6))) (fun _ _ _ _ _ => (pg_name (i := 0) (show List.Nodup (α := Str) ["_law_one"] by decide +kernel) rfl (Or.inl rfl))) (fun _ _ _ _ _ => pifs_nil) (fun _ _ _ _ _ => (pe_ix (r := rIxT K) ix_tup (pv 0) pe_int (fun _ _ => rfl)))) (pe_lst (pa_cons pe_int pa_nil)) (nomark _))))))))))))))))))), ?_⟩
  rw [show start ["_law_script", "_law_d", "_law_pool", "_law_heap_here", "_law_turned_let", "_law_handed", "_law_beside", "_law_yard", "_law_lying", "_law_used", "_law_log", "_law_cell_here", "_law_deed_here"] [.ref a] = [some (.ref a), none, none, none, none, none, none, none, none, none, none, none, none] from rfl]
  repeat walk_at "rd"
  refine c__law_cell hS (by decide) hbd fun c0 hc0 => ?_
  repeat walk_at "rd"
  refine c__law_root hc0 (by decide +kernel) fun d H1 hR s1 => ?_
  have hS1 := s1.seq hS
  repeat walk_at "rd"
  refine c__law_heap hS1 hbd hR fun r2 qa l H2 P L s2 e2 hP hl hA hPd hLd l1 l6 => ?_
  have hS2 := s2.seq hS1
  have dlo := hR.lo
  have hd64 : Bd 64 d := bd_range (B := 99) (by omega) hR.hi (by decide +kernel)
  repeat walk_at "rd"
  refine c__law_cell hS2 (by decide) hbd fun c1 hc1 => ?_
  repeat walk_at "rd"
  refine c__law_great hc1 (by decide +kernel) fun g g0 g1 => ?_
  repeat walk_at "rd"
  generalize htn : decide (g % 2 = 1) = tn
  refine i_lstLf hl fun hd H3 n3 s3 e3 => ?_
  have hl3 := s3 _ _ hl
  have lhd : l ≠ hd := ne_of_none hl n3
  have qhd : qa ≠ hd := ne_of_none hP.l n3
  have hP3 := hP.same s3
  have hA3 : ∀ c ∈ L, c.At H3 := fun c hc => (hA c hc).same s3
  have hS3 := s3.seq hS2
  obtain ⟨L', cL, hLc⟩ : ∃ L' cL, L = L' ++ [cL] := by
    rcases List.eq_nil_or_concat L with h | ⟨L', c, h⟩
    · rw [h] at l1; simp at l1
    · exact ⟨L', c, by rw [h, List.concat_eq_append]⟩
  have hcL : cL ∈ L := by rw [hLc]; simp
  repeat walk_at "rd"
  refine i_make ?_
  repeat walk_at "rd"
  refine i_ixL hl3 (v := cL.v) (by rw [hLc, List.map_append]; exact atI_last _ _) ?_
  repeat walk_at "rd"
  refine i_newLf (by simp) fun q4 H4 n4 s4 e4 => ?_
  repeat walk_at "rd"
  intro x dx nx ndx ndxx
  refine c_Yard___init__ (tn := false) (cl := [cL]) rfl nx ndx e4 (fun c hc => by rw [List.mem_singleton.mp hc]; exact (hA3 cL hcL).same s4) (by simp) fun y0 H5 ep s5 hy0 k0 l0 t0 => ?_
  subst ep
  refine ⟨rfl, ?_⟩
  have hdk : hd ≠ y0.k := ne_of_none (s4 _ _ e3) k0
  have hdt : hd ≠ y0.t := ne_of_none (s4 _ _ e3) t0
  have e3 := s5 _ _ (s4 _ _ e3)
  have z35 := s4.trans s5
  have hl5 := z35 _ _ hl3
  have hP5 := hP3.same z35
  have hA5 : ∀ c ∈ L, c.At H5 := fun c hc => (hA3 c hc).same z35
  have hS5 := z35.seq hS3
  have lk : l ≠ y0.k := ne_of_none (s4 _ _ hl3) k0
  have lt : l ≠ y0.t := ne_of_none (s4 _ _ hl3) t0
  have qk : qa ≠ y0.k := ne_of_none (s4 _ _ hP3.l) k0
  have qt : qa ≠ y0.t := ne_of_none (s4 _ _ hP3.l) t0
  have hal : ∀ {b : Addr} {xs : List V}, H5 b = some (.lst xs) → b ≠ y0.l := fun e => ne_of e hy0.l (fun z => nomatch z)
  repeat walk_at "rd"
  refine ⟨_, _, _, rfl, hy0.o, rfl, ?_⟩
  repeat walk_at "rd"
  refine i_newTf (by simp) fun p0 H6 n6 s6 e6 => ?_
  repeat walk_at "rd"
  have hy06 := hy0.same s6
  have Dw0 : Dw d cL.b.w ∧ Dw d cL.b.h := hLd cL hcL
  have sy0 : ∀ s : Sd, Dw d s → SY s := fun s h => ⟨h.z1, h.g, h.bx.mono (by decide), h.by'.mono (by decide), h.bz.mono (by decide)⟩
  refine c_Yard_do (e := .shift false 0 2) (c := cL) (c' := cL) hy06 e6 ⟨by decide, by decide +kernel⟩ (fun m hm => ⟨0, by simp, by simpa [Dd.names, Dd.n] using hm⟩) (by simp [Dd.names, Dd.n]) (fun h => nomatch h) ⟨⟨0, rfl, rfl⟩, rfl⟩ ⟨by decide, by decide +kernel, sy0 _ Dw0.1, sy0 _ Dw0.2⟩ hd64 (by simp) (by simp) fun N0 H7 hy07 hN0 fr7 => ?_
  obtain ⟨cl0, hcl0⟩ : ∃ cl0, [cL] ++ N0 = cl0 := ⟨_, rfl⟩
  have hN01 : N0.length = 1 := by rw [← List.length_map (f := Cell.b), hN0]; rfl
  rw [hcl0, hN01, show ndrop (List.range [cL].length) (Dd.shift false 0 2).names ++ List.range' [cL].length 1 = [1] from rfl, List.nil_append] at hy07
  have fr7 : Frm y0 H6 H7 := fr7
  have hl7 := fr7 _ _ (s6 _ _ hl5) lk (hal hl5) lt
  have e3 := fr7 _ _ (s6 _ _ e3) hdk (hal e3) hdt
  have hP7 : Pl H7 qa P := ⟨fr7 _ _ (s6 _ _ hP5.l) qk (hal hP5.l) qt, fun x hx => fr7.tup hy06 (s6 _ _ (hP5.at' x hx)), hP.n⟩
  have hA7 : ∀ c ∈ L, c.At H7 := fun c hc => ⟨fr7.tup hy06 (s6 _ _ (hA5 c hc).t), fr7.tup hy06 (s6 _ _ (hA5 c hc).w), fr7.tup hy06 (s6 _ _ (hA5 c hc).h)⟩
  have hp07 : H7 p0 = some (.tup [.str (Str.ofString "stack"), .int 0, .int 2]) := fr7.tup hy06 e6
  repeat walk_at "rd"
  refine if_make (R := fun y H8 => Same H7 H8 ∧ YdAt cs.Yard H8 y d tn L (List.range L.length) [] ∧ H7 y.k = none ∧ H7 y.l = none ∧ H7 y.t = none) (T := tMakeK _ _ _ _ _ _ _ _) (U := tMake _ _ _ _ _ _ _) (fun ht Q' q' => ?_) (fun ht Q' q' => ?_) (fun y H8 hh => ?_)
  · refine i_makeK ?_
    repeat walk_at "rd"
    intro x dx nx ndx ndxx
    refine c_Yard___init__ (tn := true) rfl nx ndx e3 hA7 (by omega) fun y H8 ep s8 hy k8 l8 t8 => ⟨rfl, ?_⟩
    subst ep
    exact q' y H8 ⟨s8, by rw [ht]; exact hy, k8, l8, t8⟩
  · refine i_make ?_
    repeat walk_at "rd"
    intro x dx nx ndx ndxx
    refine c_Yard___init__ (tn := false) rfl nx ndx e3 hA7 (by omega) fun y H8 ep s8 hy k8 l8 t8 => ⟨rfl, ?_⟩
    subst ep
    exact q' y H8 ⟨s8, by rw [ht]; exact hy, k8, l8, t8⟩
  obtain ⟨s8, hy8, k8, l8, t8⟩ := hh
  have hdk' : hd ≠ y.k := ne_of_none e3 k8
  have hdt' : hd ≠ y.t := ne_of_none e3 t8
  have qk' : qa ≠ y.k := ne_of_none hP7.l k8
  have qt' : qa ≠ y.t := ne_of_none hP7.l t8
  have kk : y0.k ≠ y.k := ne_of_none hy07.k k8
  have kt : y0.k ≠ y.t := ne_of_none hy07.k t8
  have ll : y0.l ≠ y.l := ne_of_none hy07.l l8
  have tk : y0.t ≠ y.k := ne_of_none hy07.t k8
  have tt : y0.t ≠ y.t := ne_of_none hy07.t t8
  have e3 := s8 _ _ e3
  have hl8 := s8 _ _ hl7
  repeat walk_at "rd"
  refine ⟨hd, l, L.map Cell.v, rfl, rfl, SqL.of e3, SqL.of hl8, fun v hv => by
    obtain ⟨c, _, e⟩ := List.mem_map.mp hv
    exact ⟨c.p, e.symm⟩, ?_⟩
  repeat walk_at "rd"
  obtain ⟨cF, hcF⟩ : ∃ c, L[0]? = some c := ⟨_, List.getElem?_eq_getElem (by omega)⟩
  refine i_ixL e3 (v := cF.v) (atI_nat (j := 0) (by rw [List.getElem?_map, hcF]; rfl)) ?_
  repeat walk_at "rd"
  refine i_append e3 (by rw [List.length_map]; omega) fun H9 x9 e9 => ?_
  have hy9 : YdAt cs.Yard H9 y d tn L (List.range L.length) [] := hy8.mv fun b o e h => x9 b o e (by
    rcases h with ⟨xs, rfl⟩ | rfl | rfl | rfl | rfl
    · exact ne_of e e3 (fun z => nomatch z)
    · exact ne_of hy8.o e3 (fun z => nomatch z)
    · exact Ne.symm hdk'
    · exact ne_of hy8.l e3 (fun z => nomatch z)
    · exact Ne.symm hdt')
  have hy08 := hy07.same s8
  have hy09 : YdAt cs.Yard H9 y0 d false cl0 [1] [.ref p0] := hy08.mv fun b o e h => x9 b o e (by
    rcases h with ⟨xs, rfl⟩ | rfl | rfl | rfl | rfl
    · exact ne_of e e3 (fun z => nomatch z)
    · exact ne_of hy08.o e3 (fun z => nomatch z)
    · exact Ne.symm hdk
    · exact ne_of hy08.l e3 (fun z => nomatch z)
    · exact Ne.symm hdt)
  have hl9 := x9 _ _ hl8 lhd
  have hA9 : ∀ c ∈ L, c.At H9 := fun c hc => ((hA7 c hc).same s8).sameX x9 e3
  have hP8 := hP7.same s8
  have hP9 : Pl H9 qa P := ⟨x9 _ _ hP8.l qhd, fun x hx => x9.tup (hP8.at' x hx) e3, hP.n⟩
  have hp09 := x9.tup (s8 _ _ hp07) e3
  have hS9 : SqL K H9 a (ns.map V.int) := SqL.mv hS fun o e => by
    have e2 := s2 _ _ (s1 _ _ e)
    have e4 := s4 _ _ (s3 _ _ e2)
    exact x9 _ _ (s8 _ _ (fr7 _ _ (s6 _ _ (s5 _ _ e4)) (ne_of_none e4 k0) (ne_of_none e4 l0) (ne_of_none e4 t0))) (ne_of_none e2 n3)
  repeat walk_at "rd"
  refine c__law_begin hl9 hA9 (by omega) fun r10 A0 H10 s10 nA e10 hLy => ?_
  have A0l : A0 ≠ y.l := Ne.symm (ne_of_none hy9.l nA)
  repeat walk_at "rd"
  refine i_newLf (by simp) fun lo H11 nlo s11 elo => ?_
  have z911 := s10.trans s11
  have hy11 := hy9.same z911
  have lok : lo ≠ y.k := Ne.symm (ne_of_none (s10 _ _ hy9.k) nlo)
  have lot : lo ≠ y.t := Ne.symm (ne_of_none (s10 _ _ hy9.t) nlo)
  have qlo : qa ≠ lo := ne_of_none (s10 _ _ hP9.l) nlo
  have k0lo : y0.k ≠ lo := ne_of_none (s10 _ _ hy09.k) nlo
  have t0lo : y0.t ≠ lo := ne_of_none (s10 _ _ hy09.t) nlo
  have rel0 : ∀ n ∈ List.range L.length, ∃ c, L[n]? = some c ∧ c.b = (fL L n).b := fun n hn => by
    have hn := List.mem_range.mp hn
    exact ⟨_, List.getElem?_eq_getElem hn, by rw [fL_get (List.getElem?_eq_getElem hn)]⟩
  repeat walk_at "rd"
  refine c__law_right hy11 (hLy.same s11) elo rel0 (fun v hv => absurd hv (by simp)) (by rw [List.length_range]; omega) fun H12 s12 => ?_
  have z912 := z911.trans s12
  repeat walk_at "rd"
  refine i_forL ?_
  repeat walk_at "rd"
  refine i_slFSf (i := 12) (j := 42) (z912.seq hS9) fun sl H13 nsl s13 esl => ?_
  have slk : sl ≠ y.k := Ne.symm (ne_of_none (hy9.same z912).k nsl)
  have slt : sl ≠ y.t := Ne.symm (ne_of_none (hy9.same z912).t nsl)
  obtain ⟨zs, hzs⟩ : ∃ zs, (ns.drop 12).take (42 - 12) = zs := ⟨_, rfl⟩
  have hz30 : zs.length ≤ 30 := by rw [← hzs, List.length_take]; omega
  have hzb : ∀ x ∈ zs, Bd 1048576 x := fun x hx => by rw [← hzs] at hx; exact hbd x (List.mem_of_mem_drop (List.mem_of_mem_take hx))
  rw [hzs] at esl
  have z913 := z912.trans s13
  obtain ⟨sides, hsides⟩ : ∃ l : List Sd, P.map (·.2) ++ L.flatMap (fun c => [c.b.w, c.b.h]) = l := ⟨_, rfl⟩
  have hsd : ∀ s ∈ sides, Dw d s := fun s hs => by
    rw [← hsides] at hs
    rcases List.mem_append.mp hs with hs | hs
    · obtain ⟨x, hx, rfl⟩ := List.mem_map.mp hs
      exact hPd x hx
    · obtain ⟨c, hc, hs⟩ := List.mem_flatMap.mp hs
      rcases List.mem_cons.mp hs with rfl | hs
      · exact (hLd c hc).1
      · rw [List.mem_singleton.mp hs]; exact (hLd c hc).2
  have hfl : (L.flatMap (fun c => [c.b.w, c.b.h])).length = 2 * L.length := flat2 L
  have hsl : sides.length ≤ 15 := by rw [← hsides, List.length_append, List.length_map, hfl, hP.n]; omega
  have inP : ∀ x ∈ P, x.2 ∈ sides := fun x hx => by rw [← hsides]; exact List.mem_append_left _ (List.mem_map_of_mem hx)
  have inW : ∀ c ∈ L, c.b.w ∈ sides := fun c hc => by rw [← hsides]; exact List.mem_append_right _ (List.mem_flatMap.mpr ⟨c, hc, by simp⟩)
  have inH : ∀ c ∈ L, c.b.h ∈ sides := fun c hc => by rw [← hsides]; exact List.mem_append_right _ (List.mem_flatMap.mpr ⟨c, hc, by simp⟩)
  have so0 : ∀ s ∈ sides, So d (pz sides) 341 s := fun s hs => (pz_so hsd s hs).mono (by omega)
  have sllo : sl ≠ lo := Ne.symm (ne_of_none (s12 _ _ elo) nsl)
  refine ⟨sl, rfl, ⟨_, SqL.of esl⟩, for_list (K := K) (a := sl) (xs := zs.map V.int) (fun i σ H' => ∃ (vc vd : Option V) (A : Addr) (cl : List Cell) (ns : List Nat) (lg : List V) (f : Nat → Cell) (D : Int), (σ = [some (.ref a), some (.int d), some (.ref qa), some (.ref l), some (.bl tn), some (.ref hd), some (.ref y0.p), some (.ref y.p), some (.ref A), some (.int (cl.length : Int)), some (.ref lo), vc, vd] ∧ YdAt cs.Yard H' y d tn cl ns lg ∧ Ly H' A ns f ∧ A ≠ y.l ∧ H' lo = some (.lst lg)) ∧ ((∀ n ∈ ns, ∃ c, cl[n]? = some c ∧ c.b = (f n).b) ∧ (∀ v ∈ lg, ∃ p, v = V.ref p) ∧ ns ≠ [] ∧ ns.length ≤ 6 + i ∧ cl.length ≤ 6 + 2 * i ∧ lg.length = i) ∧ (1 ≤ D ∧ Bd (301 + 14 * i) D ∧ (∀ n ∈ ns, BoD d D (341 + 28 * i) (f n).b) ∧ ∀ x ∈ P, So d D (341 + 28 * i) x.2) ∧ Pl H' qa P ∧ H' sl = some (.lst (zs.map V.int)) ∧ YdAt cs.Yard H' y0 d false cl0 [1] [.ref p0] ∧ H' p0 = some (.tup [.str (Str.ofString "stack"), .int 0, .int 2])) ⟨none, none, A0, L, List.range L.length, [], fL L, pz sides, ⟨rfl, hy9.same z913, (hLy.same s11).same (s12.trans s13), A0l, s13 _ _ (s12 _ _ elo)⟩, ⟨rel0, fun v hv => absurd hv (by simp), fun h => by rw [List.range_eq_nil] at h; omega, by rw [List.length_range]; omega, by omega, rfl⟩, ⟨pz_pos hsd, (pz_bd hsd).mono (by omega), fun n hn => ?_, fun x hx => (so0 _ (inP x hx)).mono (by omega)⟩, hP9.same z913, esl, hy09.same z913, z913 _ _ hp09⟩ (fun i σ H' _ z => by obtain ⟨_, _, _, _, _, _, _, _, _, _, _, _, z, _⟩ := z; exact SqL.of z) ?_ ?_⟩
  · have hn := List.mem_range.mp hn
    rw [fL_get (List.getElem?_eq_getElem hn)]
    have hm := List.getElem_mem hn
    exact ⟨(so0 _ (inW _ hm)).mono (by omega), (so0 _ (inH _ hm)).mono (by omega)⟩
  · rintro i x σ H' hi ⟨vc, vd, A, cl, ns', lg, f, D, ⟨rfl, hy, hL, Al, hlo⟩, ⟨rel, lgr, nne, nl, cll, lgl⟩, ⟨D1, bD, ob, oP⟩, hP, esl', hy0', hp0'⟩
    have hi' := (List.getElem?_eq_some_iff.mp hi).1
    have hi30 : i < 30 := by rw [List.length_map] at hi'; omega
    obtain ⟨cz, rfl, hcz⟩ := at_ints hi
    have hczb := hzb cz hcz
    have zz : Sz D (301 + 14 * i) (341 + 28 * i) := ⟨D1, bD, by omega, by omega⟩
    repeat walk_at "rd"
    refine c__law_deed hczb hL hy.up (by omega) nne ob hP oP zz hR fun p e n m H1 s1 he gd hnt => ?_
    repeat walk_at "rd"
    refine i_cut (T := fun σ' H2 => ∃ (p : Addr) (e : Dd) (n m : Nat), σ' = [some (.ref a), some (.int d), some (.ref qa), some (.ref l), some (.bl tn), some (.ref hd), some (.ref y0.p), some (.ref y.p), some (.ref A), some (.int (cl.length : Int)), some (.ref lo), some (.int cz), some (.ref p)] ∧ Same H' H2 ∧ DdAt H2 p e ∧ e.Good d D (341 + 28 * i) ns' f n m ∧ (e.isT = true → tn = true)) ?_ ?_
    · repeat walk_at "rd"
      cases htn2 : tn with
      | false =>
        repeat walk_at "rd"
        exact ⟨p, e, n, m, rfl, s1, he, gd, fun h => by simp [hnt] at h⟩
      | true =>
        repeat walk_at "rd"
        refine c__law_digits hczb (by decide) (by decide) fun l2 H2 ds s2 e2 hl2 hds => ?_
        obtain ⟨x8, k8, a8, b8⟩ := dig hl2 hds 8 (by decide) (by decide)
        repeat (first | walk_at "rd" | refine i_ixL e2 k8 ?_)
        refine if_d (fun c8 => ?_) (fun c8 => ?_)
        · obtain ⟨rs, hpt⟩ := (he.same s2).tup
          repeat walk_at "rd"
          refine i_ixT hpt (atI_nat (j := 1) rfl) ?_
          repeat walk_at "rd"
          refine i_newTf (by simp) fun p3 H3 n3 s3 e3 => ?_
          repeat walk_at "rd"
          refine ⟨p3, .turn n, n, n, rfl, (s1.trans s2).trans s3, ?_, good_turn gd.hn (ob n gd.hn), fun _ => rfl⟩
          rw [gd.en] at e3
          exact e3
        · repeat walk_at "rd"
          exact ⟨p, e, n, m, rfl, s1.trans s2, he.same s2, gd, fun h => by simp [hnt] at h⟩
    clear he gd hnt s1 p e n m
    rintro σ' H2 ⟨p, e, n, m, rfl, s2, he, gd, hturn⟩
    have hy2 := hy.same s2
    obtain ⟨cn, hcn, hbn⟩ := rel n gd.hn
    obtain ⟨cm, hcm, hbm⟩ := rel m gd.hm
    repeat walk_at "rd"
    refine ⟨_, _, _, rfl, hy2.o, rfl, ?_⟩
    repeat walk_at "rd"
    refine c_Yard_do (c := cn) (c' := cm) hy2 he gd.ok gd.names_in gd.nodup hturn (good_cells gd hcn hcm) (by rw [hbn, hbm]; exact gd.fit) hd64 (by omega) (by omega) fun N H3 hy3 hN fr3 => ?_
    have fr3 : Frm y H2 H3 := fr3
    rw [hbn, hbm] at hN
    have hL2 := hL.same s2
    have hL3 : Ly H3 A ns' f := ⟨fr3 _ _ hL2.l (ne_of hL2.l hy2.k (fun z => nomatch z)) Al (ne_of hL2.l hy2.t (fun z => nomatch z)), fun j hj => ⟨fr3.tup hy2 (hL2.at' j hj).t, fr3.tup hy2 (hL2.at' j hj).w, fr3.tup hy2 (hL2.at' j hj).h⟩⟩
    have he3 : DdAt H3 p e := by
      cases e with
      | cut al n t => obtain ⟨q, h1, h2⟩ := he; exact ⟨q, fr3.tup hy2 h1, fr3.tup hy2 h2⟩
      | glue al n m => exact fr3.tup hy2 he
      | shift al n k => exact fr3.tup hy2 he
      | turn n => exact fr3.tup hy2 he
    have lst3 : ∀ {b : Addr} {xs : List V}, H' b = some (.lst xs) → b ≠ y.k → b ≠ y.t → H3 b = some (.lst xs) := fun e n1 n2 => fr3 _ _ (s2 _ _ e) n1 (ne_of (s2 _ _ e) hy2.l (fun z => nomatch z)) n2
    have hlo3 := lst3 hlo lok lot
    have esl3 := lst3 esl' slk slt
    have hP3 : Pl H3 qa P := ⟨lst3 hP.l qk' qt', fun x hx => fr3.tup hy2 (s2 _ _ (hP.at' x hx)), hP.n⟩
    have hp03 := fr3.tup hy2 (s2 _ _ hp0')
    have hy02 := hy0'.same s2
    have hy03 : YdAt cs.Yard H3 y0 d false cl0 [1] [.ref p0] := hy02.mv fun b o e h => by
      rcases h with ⟨xs, rfl⟩ | rfl | rfl | rfl | rfl
      · exact fr3.tup hy2 e
      · exact fr3 _ _ e (ne_of hy02.o hy2.k (fun z => nomatch z)) (ne_of hy02.o hy2.l (fun z => nomatch z)) (ne_of hy02.o hy2.t (fun z => nomatch z))
      · exact fr3 _ _ e kk (ne_of hy02.k hy2.l (fun z => nomatch z)) kt
      · exact fr3 _ _ e (ne_of hy02.l hy2.k (fun z => nomatch z)) ll (ne_of hy02.l hy2.t (fun z => nomatch z))
      · exact fr3 _ _ e tk (ne_of hy02.t hy2.l (fun z => nomatch z)) tt
    repeat walk_at "rd"
    refine if_ne rfl ?_
    repeat walk_at "rd"
    refine c__law_done hL3 hy.lt (by omega) he3 gd fun r4 A' N' H4 s4 nA' e4 hN' hL4 => ?_
    have A'l : A' ≠ y.l := Ne.symm (ne_of_none hy3.l nA')
    have hNN : N'.map Cell.b = N.map Cell.b := hN'.trans hN.symm
    have hNl : N'.length = N.length := by rw [← List.length_map (f := Cell.b), hNN, List.length_map]
    have hN2 : N.length ≤ 2 := by rw [← List.length_map (f := Cell.b), hN]; exact new_len e _ _
    have hN1 : 1 ≤ N.length := by rw [← List.length_map (f := Cell.b), hN]; exact new_ne e _ _
    rw [hNl] at hL4 e4
    have hlo4 := s4 _ _ hlo3
    repeat walk_at "rd"
    refine i_append hlo4 (by omega) fun H5 x5 e5 => ?_
    have hy4 := hy3.same s4
    have mv5 : ∀ b o, H4 b = some o → b ≠ lo → H5 b = some o := x5
    have hy5 : YdAt cs.Yard H5 y d tn (cl ++ N) (ndrop ns' e.names ++ List.range' cl.length N.length) (lg ++ [.ref p]) := hy4.mv fun b o e h => x5 b o e (by
      rcases h with ⟨xs, rfl⟩ | rfl | rfl | rfl | rfl
      · exact ne_of e hlo4 (fun z => nomatch z)
      · exact ne_of hy4.o hlo4 (fun z => nomatch z)
      · exact Ne.symm lok
      · exact ne_of hy4.l hlo4 (fun z => nomatch z)
      · exact Ne.symm lot)
    have hL5 : Ly H5 A' (ndrop ns' e.names ++ List.range' cl.length N.length) (fN f cl.length N') := ⟨x5 _ _ hL4.l (ne_of hL4.l hlo4 (fun z => nomatch z)), fun j hj => (hL4.at' j hj).sameX x5 hlo4⟩
    have hP4 := hP3.same s4
    have hP5 : Pl H5 qa P := ⟨x5 _ _ hP4.l qlo, fun x hx => x5.tup (hP4.at' x hx) hlo4, hP.n⟩
    have hy04 := hy03.same s4
    have hy05 : YdAt cs.Yard H5 y0 d false cl0 [1] [.ref p0] := hy04.mv fun b o e h => x5 b o e (by
      rcases h with ⟨xs, rfl⟩ | rfl | rfl | rfl | rfl
      · exact ne_of e hlo4 (fun z => nomatch z)
      · exact ne_of hy04.o hlo4 (fun z => nomatch z)
      · exact k0lo
      · exact ne_of hy04.l hlo4 (fun z => nomatch z)
      · exact t0lo)
    have rel' : ∀ j ∈ ndrop ns' e.names ++ List.range' cl.length N.length, ∃ c, (cl ++ N)[j]? = some c ∧ c.b = (fN f cl.length N' j).b := fun j hj => by
      rcases List.mem_append.mp hj with hj | hj
      · have hj := (mem_ndrop.mp hj).1
        obtain ⟨c, h1, h2⟩ := rel j hj
        have hjl := hy.lt j hj
        exact ⟨c, by rw [List.getElem?_append_left hjl]; exact h1, by rw [fN_lt hjl]; exact h2⟩
      · have hj := List.mem_range'_1.mp hj
        obtain ⟨t, rfl⟩ : ∃ t, j = cl.length + t := ⟨j - cl.length, by omega⟩
        have ht : t < N.length := by omega
        have ht' : t < N'.length := by omega
        refine ⟨N[t], by rw [List.getElem?_append_right (by omega), Nat.add_sub_cancel_left]; exact List.getElem?_eq_getElem ht, ?_⟩
        rw [fN_ge, fL_get (List.getElem?_eq_getElem ht')]
        have := congrArg (fun l => l[t]?) hNN
        simp only [List.getElem?_map, List.getElem?_eq_getElem ht, List.getElem?_eq_getElem ht', Option.map_some] at this
        exact (Option.some.inj this).symm
    have lgr' : ∀ v ∈ lg ++ [V.ref p], ∃ p, v = V.ref p := fun v hv => by
      rcases List.mem_append.mp hv with hv | hv
      · exact lgr v hv
      · exact ⟨p, List.mem_singleton.mp hv⟩
    have nl' : (ndrop ns' e.names ++ List.range' cl.length N.length).length ≤ 6 + (i + 1) := by
      have := ndrop_lt hy.up gd.hn (show (n : Int) ∈ e.names by rw [gd.nm]; cases e.two <;> simp)
      rw [List.length_append, List.length_range']
      omega
    repeat walk_at "rd"
    refine c__law_right hy5 hL5 e5 rel' lgr' (by omega) fun H6 s6 => ?_
    obtain ⟨k, k1, bk, onew⟩ := gd.new
    repeat walk_at "rd"
    refine ⟨_, _, A', cl ++ N, _, lg ++ [.ref p], fN f cl.length N', D * k, ⟨by rw [List.length_append, Int.natCast_add], hy5.same s6, hL5.same s6, A'l, s6 _ _ e5⟩, ⟨rel', lgr', fun h => ?_, nl', by rw [List.length_append]; omega, by rw [List.length_append, lgl]; rfl⟩, ⟨Int.mul_pos (by omega) (by omega), (bD.mul bk).mono (by omega), fun j hj => ?_, fun x hx => ((oP x hx).scale bk).mono (by omega)⟩, hP5.same s6, s6 _ _ (x5 _ _ (s4 _ _ esl3) sllo), hy05.same s6, s6 _ _ (x5.tup (s4 _ _ hp03) hlo4)⟩
    · have := congrArg List.length h
      rw [List.length_append, List.length_range', List.length_nil] at this
      omega
    · rcases List.mem_append.mp hj with hj | hj
      · have hj := (mem_ndrop.mp hj).1
        rw [fN_lt (hy.lt j hj)]
        exact ((ob j hj).up bk).mono (by omega)
      · have hj := List.mem_range'_1.mp hj
        obtain ⟨t, rfl⟩ : ∃ t, j = cl.length + t := ⟨j - cl.length, by omega⟩
        have ht' : t < N'.length := by omega
        rw [fN_ge, fL_get (List.getElem?_eq_getElem ht')]
        refine (onew _ ?_).mono (by omega)
        rw [← hN']
        exact List.mem_map_of_mem (List.getElem_mem ht')
  rintro σ H' ⟨vc, vd, A, cl, ns', lg, f, D, ⟨rfl, hy, hL, Al, hlo⟩, _, _, _, _, hy0', hp0'⟩
  repeat walk_at "rd"
  refine ⟨_, _, _, rfl, hy0'.o, rfl, ?_⟩
  repeat walk_at "rd"
  refine c_Yard_log hy0' fun r20 H20 s20 n20 e20 => ?_
  repeat walk_at "rd"
  refine i_newTf (by simp) fun p21 H21 n21 s21 e21 => ?_
  repeat walk_at "rd"
  refine i_newLf (by simp) fun q22 H22 n22 s22 e22 => ?_
  have z := (s20.trans s21).trans s22
  refine i_eqDd (s22 _ _ (s21 _ _ e20)) e22 (z _ _ hp0') (s22 _ _ e21) ?_
  have hy22 := hy0'.same z
  repeat walk_at "rd"
  refine i_compL ?_
  repeat walk_at "rd"
  refine ⟨_, _, _, rfl, hy22.o, rfl, ?_⟩
  repeat walk_at "rd"
  refine c_Yard_boards hy22 fun rc Hc qs sc nc ec hqs => ?_
  repeat walk_at "rd"
  refine ⟨rc, rfl, ⟨_, SqL.of ec⟩, fun O' hO' => comp_list (K := K) (a := rc) (ys := qs.map V.ref) (fun i xs σ' H' => ∃ v : Option V, σ' = [v] ∧ xs = (([1].take i).map fun n : Nat => (n : Int)).map V.int ∧ H' O' = some (.lst xs) ∧ SameX O' Hc H') ⟨none, rfl, rfl, upd_same, fun b o e n => by rw [upd_ne n]; exact e⟩ (fun i xs σ' H' _ z => by obtain ⟨v, _, _, _, z⟩ := z; exact SqL.of (z _ _ ec (ne_of_none ec hO'))) ?_ ?_⟩
  · rintro i x xs σ' H' hi ⟨v, rfl, rfl, eO, sx⟩
    have hi' := (List.getElem?_eq_some_iff.mp hi).1
    rw [List.getElem?_map] at hi
    obtain ⟨p, hp, rfl⟩ := Option.map_eq_some_iff.mp hi
    obtain ⟨n, c, hn, hc, hpt⟩ := hqs.2 i p hp
    have hpt := sx _ _ hpt (ne_of_none hpt hO')
    have hi3 := (List.getElem?_eq_some_iff.mp hn).1
    repeat walk_at "rd"
    refine i_append eO (by simp only [List.length_map, List.length_take, List.length_cons, List.length_nil]; omega) fun H5 x5 e5 => ?_
    refine cnext hi' ⟨_, rfl, rfl, ?_, sx.trans x5⟩
    rw [List.take_succ, hn, List.map_append, List.map_append]
    exact e5
  rintro xs σ' Hd ⟨v, rfl, rfl, eO', sx⟩
  rw [List.length_map, hqs.1] at eO'
  repeat walk_at "rd"
  refine i_newLf (by simp) fun q30 H30 n30 s30 e30 => ?_
  refine i_eqLI (ns := [1]) (s30 _ _ eO') e30 ?_
  exact q _
end
end Bk
noncomputable section
set_option linter.all false
namespace Hd
open PySem PySem.W PySem.Calls PyProof.Rows
abbrev lf0 : Life := @PySem.Life.mk (@List.nil.{0} @Nat) (@List.nil.{0} @Nat) (@List.nil.{0} @Nat) (@OfNat.ofNat.{0} @Nat (nat_lit 0) (@instOfNatNat (nat_lit 0))) (@List.nil.{0} (@Prod.{0, 0} @Nat @Nat)) (@List.nil.{0} @Nat) @Bool.false (@List.toArray.{0} @Nat (@List.nil.{0} @Nat)) (@List.nil.{0} @Nat) (@OfNat.ofNat.{0} @Nat (nat_lit 0) (@instOfNatNat (nat_lit 0))) @Bool.false @Bool.false @Bool.false (@OfNat.ofNat.{0} @Int (nat_lit 0) (@instOfNat (nat_lit 0))) (@List.cons.{0} @Int (@OfNat.ofNat.{0} @Int (nat_lit 2000) (@instOfNat (nat_lit 2000))) (@List.cons.{0} @Int (@OfNat.ofNat.{0} @Int (nat_lit 10) (@instOfNat (nat_lit 10))) (@List.cons.{0} @Int (@OfNat.ofNat.{0} @Int (nat_lit 10) (@instOfNat (nat_lit 10))) (@List.nil.{0} @Int)))) @Bool.false (@OfNat.ofNat.{0} @Nat (nat_lit 0) (@instOfNatNat (nat_lit 0))) @Bool.true (@List.nil.{0} @Nat) (@List.nil.{0} @Nat) (@OfNat.ofNat.{0} @Nat (nat_lit 0) (@instOfNatNat (nat_lit 0))) @Bool.false
abbrev dr1 : Drawn := @PySem.Drawn.mk (@OfNat.ofNat.{0} @Nat (nat_lit 0) (@instOfNatNat (nat_lit 0))) (@OfNat.ofNat.{0} @Nat (nat_lit 0) (@instOfNatNat (nat_lit 0))) (@OfNat.ofNat.{0} @Nat (nat_lit 0) (@instOfNatNat (nat_lit 0))) (@OfNat.ofNat.{0} @Nat (nat_lit 0) (@instOfNatNat (nat_lit 0)))
abbrev p : Program := PySem.Challenge.pw_boardglue_k31_deeds_one_by_one
def top (i : Nat) : Stmt := p.main.body.getD i (.Pass ⟨0, 0, 0, 0⟩)
def sub (s : Stmt) (j : Nat) : Stmt := match s with | .ClassDef (body := b) .. => b.getD j (.Pass ⟨0, 0, 0, 0⟩) | _ => s
def fn (x q : Str) (s : Stmt) (g : Addr) (cl : List (Str × Addr)) (dV kV doc pm : Value) (an : Option Addr) (cd ct : Value) (bl : Addr) : FuncData := { name := x, qualname := q, params := L2.defArgs s, body := .stmts (L2.defBody s), scope := L2.defScope s, globals := g, closure := cl, defaults := dV, kwdefaults := kV, doc := doc, pyModule := pm, annotations := an, code := cd, closureTuple := ct, builtins := bl }
def en (P : Params) (x : String) (t : Tok) (v : Value) : DictEntry := ⟨PyData.keyHash P x, .str x t, v⟩
def env : Env := { scope := p.main.scope, locals := mainNs, globals := mainNs, cells := [], code := (.ref 13), frame := some 14 }
abbrev b : List Stmt := behindTheImports p
abbrev cE : Code := .body b env
abbrev q : Pos := ⟨0, 0, 0, 0⟩
abbrev B : List Frame := [topFrame q]
abbrev m0 : Nat := nat_lit 11
abbrev ann : Option Value := (some (.ref 6))
def o0 (P : Params) : Obj := ⟨(.type "tuple"), none, (.seq #[] 0), #[]⟩
def o1 (P : Params) : Obj := ⟨.none, none, (.fields #[]), #[]⟩
def o2 (P : Params) : Obj := ⟨(.type "code"), none, (.fields #[(.str "<module>" 182), (.str "<module>" 183), (.str "/claim/cut.py" 184), (.int (1) 0), (.int (0) 0), (.int (0) 0), (.int (0) 0), (.int (0) 0), (.ref 11), (.bool false), (.int (181) 0), (.ref 12), .none, .none, .none, .none, (.int (185) 0), (.int (1) 0), (.str "/claim/cut.py" 186)]), #[]⟩
def o3 (P : Params) : Obj := ⟨(.type "frame"), none, .plain, #[(some (.ref 13)), (some (.ref 3)), (some (.ref 3)), none, (some (.str "__main__" 164)), none, (some (.ref 0))]⟩
def Ha (P : Params) : Heap := ⟨⟨[boot_o_0 P, boot_o_1 P, boot_o_2 P, boot_o_3 P, boot_o_4 P, boot_o_5 P, boot_o_6 P, boot_o_7 P, boot_o_8 P, boot_o_9 P, boot_o_10 P, o0 P, o1 P, o2 P, o3 P]⟩, lf0⟩
def T0 (P : Params) : BT := (.node (boot_o_0 P) (.node (boot_o_1 P) (.node (boot_o_3 P) (.node (boot_o_7 P) .nil .nil) (.node (o0 P) .nil .nil)) (.node (boot_o_5 P) (.node (boot_o_9 P) .nil .nil) (.node (o2 P) .nil .nil))) (.node (boot_o_2 P) (.node (boot_o_4 P) (.node (boot_o_8 P) .nil .nil) (.node (o1 P) .nil .nil)) (.node (boot_o_6 P) (.node (boot_o_10 P) .nil .nil) (.node (o3 P) .nil .nil))))
theorem pre' (w : World) : (fun os => PySem.W.Fast.tw15667345088766844465 PySem.W.Fast.tw14364793385576792824 p w m0 ann (nat_lit 12) (⟨boot_heap w.params, ⟨[]⟩, boot_drawn, boot_toks, os⟩ : Shared) (PySem.W.topStub p)) = fun os => some ((⟨Ha w.params, ⟨[]⟩, dr1, nat_lit 187, os⟩ : Shared), Thread.mk (PySem.W.Fast.tw11892475500146522536 PySem.W.Fast.tw14364793385576792824 cE) cE ⟨0, 0, 0, 0⟩ B) := by kernel_rfl
theorem pre (w : World) (os : OsState) : topGo treeTable p w m0 ann (nat_lit 12) (⟨boot_heap w.params, ⟨[]⟩, boot_drawn, boot_toks, os⟩ : Shared) (topStub p) = some ((⟨Ha w.params, ⟨[]⟩, dr1, nat_lit 187, os⟩ : Shared), Thread.mk (denote treeTable cE) cE ⟨0, 0, 0, 0⟩ B) := by
  rw [PySem.W.Fast.te15667345088766844465, PySem.W.Fast.te14364793385576792824, PySem.W.Fast.te11892475500146522536]
  exact congrFun (pre' w) os
theorem blk' (w : World) : (fun os => PySem.W.Fast.tw14374325043358763698 PySem.W.Fast.tw14364793385576792824 p w m0 ann (nat_lit 1) (nat_lit 1) (⟨Ha w.params, ⟨[]⟩, dr1, nat_lit 187, os⟩ : Shared) (PySem.W.blockOf b env cE ⟨0, 0, 0, 0⟩ B)) = fun os => some (Flow.next, SharedT.abs (⟨T0 w.params, nat_lit 15, lf0, ⟨[]⟩, dr1, nat_lit 187, os⟩ : SharedT), cE, ⟨0, 0, 0, 0⟩) := by kernel_rfl
theorem blk (w : World) (os : OsState) : segRun treeTable p w m0 ann (nat_lit 1) (nat_lit 1) (⟨Ha w.params, ⟨[]⟩, dr1, nat_lit 187, os⟩ : Shared) (blockOf b env cE ⟨0, 0, 0, 0⟩ B) = some (Flow.next, SharedT.abs (⟨T0 w.params, nat_lit 15, lf0, ⟨[]⟩, dr1, nat_lit 187, os⟩ : SharedT), cE, ⟨0, 0, 0, 0⟩) := by
  rw [PySem.W.Fast.te14374325043358763698, PySem.W.Fast.te14364793385576792824]
  exact congrFun (blk' w) os
def o4 (P : Params) : Obj := ⟨(.type "dict"), none, (.dict #[en P "__name__" 165 (.str "law_boardglue_k31_deeds_one_by_one" 552), en P "__doc__" 166 .none, en P "__package__" 167 .none, en P "__loader__" 168 (.builtin "__main__.__loader__#opaque"), en P "__spec__" 169 .none, en P "__annotations__" 170 (.ref 6), en P "__builtins__" 171 (.ref 4), en P "__file__" 173 (.str "/claim/cut.py" 172), en P "__cached__" 174 .none, en P "_wall" 193 (.ref 21), en P "YardError" 213 (.ref 31), en P "NoLength" 229 (.ref 44), en P "NoDeed" 245 (.ref 56), en P "NoName" 261 (.ref 68), en P "Grain" 277 (.ref 80), en P "Unfit" 293 (.ref 92), en P "NOUGHT" 299 (.ref 95), en P "GREAT_BITS" 301 (.int (8192) 300), en P "HEAD_BITS" 303 (.int (64) 302), en P "is_whole" 310 (.ref 102), en P "common_divisor" 320 (.ref 109), en P "far_rests" 330 (.ref 116), en P "sure_steps" 343 (.ref 123), en P "with_sign_of" 351 (.ref 130), en P "length" 363 (.ref 138), en P "added" 377 (.ref 145), en P "taken" 385 (.ref 152), en P "is_above_nought" 394 (.ref 159), en P "under" 403 (.ref 166), en P "is_length" 411 (.ref 171), en P "CUTS" 416 (.ref 172), en P "GLUINGS" 419 (.ref 173), en P "SHIFTS" 422 (.ref 174), en P "TURN" 424 (.str "turn" 423), en P "is_deed" 431 (.ref 181), en P "names_taken" 438 (.ref 188), en P "turned" 445 (.ref 195), en P "cut_across" 454 (.ref 202), en P "glued_beside" 462 (.ref 209), en P "stacked" 472 (.ref 216), en P "Yard" 551 (.ref 273), en P "_law_cell" 561 (.ref 284), en P "_law_whole" 568 (.ref 291), en P "_law_great" 577 (.ref 298), en P "_law_digits" 588 (.ref 305), en P "_law_divisor" 596 (.ref 312), en P "_law_lowest" 606 (.ref 319), en P "_law_sign" 615 (.ref 326), en P "_law_plus" 626 (.ref 333), en P "_law_share" 635 (.ref 340), en P "_law_below" 645 (.ref 347), en P "_law_root" 651 (.ref 352), en P "_law_side" 665 (.ref 359), en P "_law_heap" 671 (.ref 364), en P "_law_new" 681 (.ref 371), en P "_law_at" 693 (.ref 378), en P "_law_deed" 699 (.ref 383), en P "_law_done" 705 (.ref 388), en P "_law_begin" 714 (.ref 395), en P "_law_is_length" 721 (.ref 402), en P "_law_is_heap" 730 (.ref 409), en P "_law_right" 736 (.ref 414), en P "law" 742 (.ref 419)] 63), #[]⟩
def o5 (P : Params) : Obj := ⟨.none, none, (.fields #[(.int (1) 0), (.int (0) 0), (.ref 20), (.int (5) 0), (.int (0) 0), (.ref 27), (.int (7) 0), (.int (0) 0), (.ref 40), (.int (9) 0), (.int (0) 0), (.ref 52), (.int (11) 0), (.int (0) 0), (.ref 64), (.int (13) 0), (.int (0) 0), (.ref 76), (.int (15) 0), (.int (0) 0), (.ref 88), (.int (21) 0), (.int (0) 0), (.ref 101), (.int (23) 0), (.int (0) 0), (.ref 108), (.int (35) 0), (.int (0) 0), (.ref 115), (.int (41) 0), (.int (0) 0), (.ref 122), (.int (55) 0), (.int (0) 0), (.ref 129), (.int (57) 0), (.int (0) 0), (.ref 137), (.int (64) 0), (.int (0) 0), (.ref 144), (.int (72) 0), (.int (0) 0), (.ref 151), (.int (74) 0), (.int (0) 0), (.ref 158), (.int (82) 0), (.int (0) 0), (.ref 165), (.int (85) 0), (.int (0) 0), (.ref 170), (.int (96) 0), (.int (0) 0), (.ref 180), (.int (108) 0), (.int (0) 0), (.ref 187), (.int (110) 0), (.int (0) 0), (.ref 194), (.int (112) 0), (.int (0) 0), (.ref 201), (.int (116) 0), (.int (0) 0), (.ref 208), (.int (120) 0), (.int (0) 0), (.ref 215), (.int (124) 0), (.int (0) 0), (.ref 222), (.int (183) 0), (.int (0) 0), (.ref 283), (.int (187) 0), (.int (0) 0), (.ref 290), (.int (189) 0), (.int (0) 0), (.ref 297), (.int (193) 0), (.int (0) 0), (.ref 304), (.int (203) 0), (.int (0) 0), (.ref 311), (.int (209) 0), (.int (0) 0), (.ref 318), (.int (214) 0), (.int (0) 0), (.ref 325), (.int (222) 0), (.int (0) 0), (.ref 332), (.int (226) 0), (.int (0) 0), (.ref 339), (.int (228) 0), (.int (0) 0), (.ref 346), (.int (231) 0), (.int (0) 0), (.ref 351), (.int (234) 0), (.int (0) 0), (.ref 358), (.int (247) 0), (.int (0) 0), (.ref 363), (.int (261) 0), (.int (0) 0), (.ref 370), (.int (276) 0), (.int (0) 0), (.ref 377), (.int (282) 0), (.int (0) 0), (.ref 382), (.int (295) 0), (.int (0) 0), (.ref 387), (.int (306) 0), (.int (0) 0), (.ref 394), (.int (311) 0), (.int (0) 0), (.ref 401), (.int (315) 0), (.int (0) 0), (.ref 408), (.int (322) 0), (.int (0) 0), (.ref 413), (.int (338) 0), (.int (0) 0), (.ref 418)]), #[]⟩
def o6 (P : Params) : Obj := ⟨(.type "tuple"), none, (.seq #[(.str "k" 190)] 0), #[]⟩
def o7 (P : Params) : Obj := ⟨.none, none, (.func (fn "_wall" "_wall" (top 0) 0 [] .none .none .none .none none .none .none 0)), #[]⟩
def o8 (P : Params) : Obj := ⟨(.type "code"), none, (.fields #[(.str "_wall" 187), (.str "_wall" 188), (.str "/claim/cut.py" 189), (.int (1) 0), (.int (1) 0), (.int (0) 0), (.int (0) 0), (.int (3) 0), (.ref 15), (.bool true), (.int (181) 0), (.ref 16), .none, (.ref 17), (.ref 18), (.ref 19), (.int (191) 0), (.int (1) 0), (.str "/claim/cut.py" 192)]), #[]⟩
def o9 (P : Params) : Obj := ⟨(.type "function"), none, (.func (fn "_wall" "_wall" (top 0) 3 [] .none .none .none (.str "__main__" 164) none (.ref 20) .none 0)), #[]⟩
def o10 (P : Params) : Obj := ⟨(.type "tuple"), none, (.seq #[(.type "ValueError")] 0), #[]⟩
def o11 (P : Params) : Obj := ⟨(.type "builtin_function_or_method"), none, (.fields #[(.builtin "type.__prepare__"), (.type "type")]), #[]⟩
def o12 (P : Params) : Obj := ⟨(.type "dict"), none, (.dict #[en P "__module__" 203 (.str "boardglue.errors" 194), en P "__qualname__" 205 (.str "YardError" 204), en P "__firstlineno__" 207 (.int (5) 206), en P "__static_attributes__" 208 (.ref 29)] 4), #[]⟩
def o13 (P : Params) : Obj := ⟨(.type "code"), none, (.fields #[(.str "YardError" 198), (.str "YardError" 199), (.str "/claim/cut.py" 200), (.int (5) 0), (.int (0) 0), (.int (0) 0), (.int (0) 0), (.int (0) 0), (.ref 25), (.bool false), (.int (181) 0), (.ref 26), .none, .none, .none, .none, (.int (201) 0), (.int (5) 0), (.str "/claim/cut.py" 202)]), #[]⟩
def o14 (P : Params) : Obj := ⟨(.type "frame"), none, .plain, #[(some (.ref 27)), (some (.ref 3)), (some (.ref 24)), none, (some (.str "boardglue.errors" 194)), none, (some (.ref 0))]⟩
def o15 (P : Params) : Obj := ⟨(.type "dict"), none, (.dict #[en P "__module__" 203 (.str "boardglue.errors" 194), en P "__firstlineno__" 207 (.int (5) 206), en P "__static_attributes__" 208 (.ref 29), en P "__weakref__" 210 (.ref 32), en P "__doc__" 211 .none] 3), #[]⟩
def o16 (P : Params) : Obj := ⟨(.type "type"), none, (.cls ⟨"YardError", [(.type "ValueError")], [(.ref 31), (.type "ValueError"), (.type "Exception"), (.type "BaseException"), (.type "object")], 30, "YardError", true, [], [(.ref 44), (.ref 56), (.ref 68), (.ref 80), (.ref 92)], false, none, false⟩), #[(some (.ref 22)), none, (some (.str "YardError" 196)), (some (.str "YardError" 204)), (some (.builtin "ValueError.__new__")), (some (.bool true))]⟩
def o17 (P : Params) : Obj := ⟨(.type "getset_descriptor"), none, (.fields #[(.str "__weakref__" 209), (.ref 31), (.builtin "ExceptionGroup.__weakref__"), .none]), #[]⟩
def o18 (P : Params) : Obj := ⟨(.type "super"), none, (.fields #[(.ref 31), (.ref 31), (.ref 31)]), #[]⟩
def o19 (P : Params) : Obj := ⟨(.type "builtin_function_or_method"), none, (.fields #[(.builtin "object.__init_subclass__"), (.ref 31)]), #[]⟩
def o20 (P : Params) : Obj := ⟨(.type "tuple"), none, (.seq #[(.ref 31)] 0), #[]⟩
def o21 (P : Params) : Obj := ⟨(.type "dict"), none, (.dict #[en P "__module__" 221 (.str "boardglue.errors" 194), en P "__qualname__" 223 (.str "NoLength" 222), en P "__firstlineno__" 225 (.int (7) 224), en P "__static_attributes__" 226 (.ref 42)] 4), #[]⟩
def o22 (P : Params) : Obj := ⟨(.type "code"), none, (.fields #[(.str "NoLength" 216), (.str "NoLength" 217), (.str "/claim/cut.py" 218), (.int (7) 0), (.int (0) 0), (.int (0) 0), (.int (0) 0), (.int (0) 0), (.ref 38), (.bool false), (.int (181) 0), (.ref 39), .none, .none, .none, .none, (.int (219) 0), (.int (7) 0), (.str "/claim/cut.py" 220)]), #[]⟩
def o23 (P : Params) : Obj := ⟨(.type "frame"), none, .plain, #[(some (.ref 40)), (some (.ref 3)), (some (.ref 37)), none, (some (.str "boardglue.errors" 194)), none, (some (.ref 0))]⟩
def o24 (P : Params) : Obj := ⟨(.type "dict"), none, (.dict #[en P "__module__" 221 (.str "boardglue.errors" 194), en P "__firstlineno__" 225 (.int (7) 224), en P "__static_attributes__" 226 (.ref 42), en P "__doc__" 227 .none] 2), #[]⟩
def o25 (P : Params) : Obj := ⟨(.type "type"), none, (.cls ⟨"NoLength", [(.ref 31)], [(.ref 44), (.ref 31), (.type "ValueError"), (.type "Exception"), (.type "BaseException"), (.type "object")], 43, "NoLength", true, [], [], false, none, false⟩), #[(some (.ref 35)), none, (some (.str "NoLength" 214)), (some (.str "NoLength" 222)), (some (.builtin "ValueError.__new__")), (some (.bool true))]⟩
def o26 (P : Params) : Obj := ⟨(.type "super"), none, (.fields #[(.ref 44), (.ref 44), (.ref 44)]), #[]⟩
def o27 (P : Params) : Obj := ⟨(.type "builtin_function_or_method"), none, (.fields #[(.builtin "object.__init_subclass__"), (.ref 44)]), #[]⟩
def o28 (P : Params) : Obj := ⟨(.type "dict"), none, (.dict #[en P "__module__" 237 (.str "boardglue.errors" 194), en P "__qualname__" 239 (.str "NoDeed" 238), en P "__firstlineno__" 241 (.int (9) 240), en P "__static_attributes__" 242 (.ref 54)] 4), #[]⟩
def o29 (P : Params) : Obj := ⟨(.type "code"), none, (.fields #[(.str "NoDeed" 232), (.str "NoDeed" 233), (.str "/claim/cut.py" 234), (.int (9) 0), (.int (0) 0), (.int (0) 0), (.int (0) 0), (.int (0) 0), (.ref 50), (.bool false), (.int (181) 0), (.ref 51), .none, .none, .none, .none, (.int (235) 0), (.int (9) 0), (.str "/claim/cut.py" 236)]), #[]⟩
def o30 (P : Params) : Obj := ⟨(.type "frame"), none, .plain, #[(some (.ref 52)), (some (.ref 3)), (some (.ref 49)), none, (some (.str "boardglue.errors" 194)), none, (some (.ref 0))]⟩
def o31 (P : Params) : Obj := ⟨(.type "dict"), none, (.dict #[en P "__module__" 237 (.str "boardglue.errors" 194), en P "__firstlineno__" 241 (.int (9) 240), en P "__static_attributes__" 242 (.ref 54), en P "__doc__" 243 .none] 2), #[]⟩
def o32 (P : Params) : Obj := ⟨(.type "type"), none, (.cls ⟨"NoDeed", [(.ref 31)], [(.ref 56), (.ref 31), (.type "ValueError"), (.type "Exception"), (.type "BaseException"), (.type "object")], 55, "NoDeed", true, [], [], false, none, false⟩), #[(some (.ref 47)), none, (some (.str "NoDeed" 230)), (some (.str "NoDeed" 238)), (some (.builtin "ValueError.__new__")), (some (.bool true))]⟩
def o33 (P : Params) : Obj := ⟨(.type "super"), none, (.fields #[(.ref 56), (.ref 56), (.ref 56)]), #[]⟩
def o34 (P : Params) : Obj := ⟨(.type "builtin_function_or_method"), none, (.fields #[(.builtin "object.__init_subclass__"), (.ref 56)]), #[]⟩
def o35 (P : Params) : Obj := ⟨(.type "dict"), none, (.dict #[en P "__module__" 253 (.str "boardglue.errors" 194), en P "__qualname__" 255 (.str "NoName" 254), en P "__firstlineno__" 257 (.int (11) 256), en P "__static_attributes__" 258 (.ref 66)] 4), #[]⟩
def o36 (P : Params) : Obj := ⟨(.type "code"), none, (.fields #[(.str "NoName" 248), (.str "NoName" 249), (.str "/claim/cut.py" 250), (.int (11) 0), (.int (0) 0), (.int (0) 0), (.int (0) 0), (.int (0) 0), (.ref 62), (.bool false), (.int (181) 0), (.ref 63), .none, .none, .none, .none, (.int (251) 0), (.int (11) 0), (.str "/claim/cut.py" 252)]), #[]⟩
def o37 (P : Params) : Obj := ⟨(.type "frame"), none, .plain, #[(some (.ref 64)), (some (.ref 3)), (some (.ref 61)), none, (some (.str "boardglue.errors" 194)), none, (some (.ref 0))]⟩
def o38 (P : Params) : Obj := ⟨(.type "dict"), none, (.dict #[en P "__module__" 253 (.str "boardglue.errors" 194), en P "__firstlineno__" 257 (.int (11) 256), en P "__static_attributes__" 258 (.ref 66), en P "__doc__" 259 .none] 2), #[]⟩
def o39 (P : Params) : Obj := ⟨(.type "type"), none, (.cls ⟨"NoName", [(.ref 31)], [(.ref 68), (.ref 31), (.type "ValueError"), (.type "Exception"), (.type "BaseException"), (.type "object")], 67, "NoName", true, [], [], false, none, false⟩), #[(some (.ref 59)), none, (some (.str "NoName" 246)), (some (.str "NoName" 254)), (some (.builtin "ValueError.__new__")), (some (.bool true))]⟩
def o40 (P : Params) : Obj := ⟨(.type "super"), none, (.fields #[(.ref 68), (.ref 68), (.ref 68)]), #[]⟩
def o41 (P : Params) : Obj := ⟨(.type "builtin_function_or_method"), none, (.fields #[(.builtin "object.__init_subclass__"), (.ref 68)]), #[]⟩
def o42 (P : Params) : Obj := ⟨(.type "dict"), none, (.dict #[en P "__module__" 269 (.str "boardglue.errors" 194), en P "__qualname__" 271 (.str "Grain" 270), en P "__firstlineno__" 273 (.int (13) 272), en P "__static_attributes__" 274 (.ref 78)] 4), #[]⟩
def o43 (P : Params) : Obj := ⟨(.type "code"), none, (.fields #[(.str "Grain" 264), (.str "Grain" 265), (.str "/claim/cut.py" 266), (.int (13) 0), (.int (0) 0), (.int (0) 0), (.int (0) 0), (.int (0) 0), (.ref 74), (.bool false), (.int (181) 0), (.ref 75), .none, .none, .none, .none, (.int (267) 0), (.int (13) 0), (.str "/claim/cut.py" 268)]), #[]⟩
def o44 (P : Params) : Obj := ⟨(.type "frame"), none, .plain, #[(some (.ref 76)), (some (.ref 3)), (some (.ref 73)), none, (some (.str "boardglue.errors" 194)), none, (some (.ref 0))]⟩
def o45 (P : Params) : Obj := ⟨(.type "dict"), none, (.dict #[en P "__module__" 269 (.str "boardglue.errors" 194), en P "__firstlineno__" 273 (.int (13) 272), en P "__static_attributes__" 274 (.ref 78), en P "__doc__" 275 .none] 2), #[]⟩
def o46 (P : Params) : Obj := ⟨(.type "type"), none, (.cls ⟨"Grain", [(.ref 31)], [(.ref 80), (.ref 31), (.type "ValueError"), (.type "Exception"), (.type "BaseException"), (.type "object")], 79, "Grain", true, [], [], false, none, false⟩), #[(some (.ref 71)), none, (some (.str "Grain" 262)), (some (.str "Grain" 270)), (some (.builtin "ValueError.__new__")), (some (.bool true))]⟩
def o47 (P : Params) : Obj := ⟨(.type "super"), none, (.fields #[(.ref 80), (.ref 80), (.ref 80)]), #[]⟩
def o48 (P : Params) : Obj := ⟨(.type "builtin_function_or_method"), none, (.fields #[(.builtin "object.__init_subclass__"), (.ref 80)]), #[]⟩
def o49 (P : Params) : Obj := ⟨(.type "dict"), none, (.dict #[en P "__module__" 285 (.str "boardglue.errors" 194), en P "__qualname__" 287 (.str "Unfit" 286), en P "__firstlineno__" 289 (.int (15) 288), en P "__static_attributes__" 290 (.ref 90)] 4), #[]⟩
def o50 (P : Params) : Obj := ⟨(.type "code"), none, (.fields #[(.str "Unfit" 280), (.str "Unfit" 281), (.str "/claim/cut.py" 282), (.int (15) 0), (.int (0) 0), (.int (0) 0), (.int (0) 0), (.int (0) 0), (.ref 86), (.bool false), (.int (181) 0), (.ref 87), .none, .none, .none, .none, (.int (283) 0), (.int (15) 0), (.str "/claim/cut.py" 284)]), #[]⟩
def o51 (P : Params) : Obj := ⟨(.type "frame"), none, .plain, #[(some (.ref 88)), (some (.ref 3)), (some (.ref 85)), none, (some (.str "boardglue.errors" 194)), none, (some (.ref 0))]⟩
def o52 (P : Params) : Obj := ⟨(.type "dict"), none, (.dict #[en P "__module__" 285 (.str "boardglue.errors" 194), en P "__firstlineno__" 289 (.int (15) 288), en P "__static_attributes__" 290 (.ref 90), en P "__doc__" 291 .none] 2), #[]⟩
def o53 (P : Params) : Obj := ⟨(.type "type"), none, (.cls ⟨"Unfit", [(.ref 31)], [(.ref 92), (.ref 31), (.type "ValueError"), (.type "Exception"), (.type "BaseException"), (.type "object")], 91, "Unfit", true, [], [], false, none, false⟩), #[(some (.ref 83)), none, (some (.str "Unfit" 278)), (some (.str "Unfit" 286)), (some (.builtin "ValueError.__new__")), (some (.bool true))]⟩
def o54 (P : Params) : Obj := ⟨(.type "super"), none, (.fields #[(.ref 92), (.ref 92), (.ref 92)]), #[]⟩
def o55 (P : Params) : Obj := ⟨(.type "builtin_function_or_method"), none, (.fields #[(.builtin "object.__init_subclass__"), (.ref 92)]), #[]⟩
def o56 (P : Params) : Obj := ⟨(.type "tuple"), none, (.seq #[(.int (0) 296), (.int (0) 297), (.int (1) 298)] 0), #[]⟩
def o57 (P : Params) : Obj := ⟨(.type "tuple"), none, (.seq #[(.str "thing" 307)] 0), #[]⟩
def o58 (P : Params) : Obj := ⟨.none, none, (.func (fn "is_whole" "is_whole" (top 12) 0 [] .none .none .none .none none .none .none 0)), #[]⟩
def o59 (P : Params) : Obj := ⟨(.type "code"), none, (.fields #[(.str "is_whole" 304), (.str "is_whole" 305), (.str "/claim/cut.py" 306), (.int (21) 0), (.int (1) 0), (.int (0) 0), (.int (0) 0), (.int (3) 0), (.ref 96), (.bool true), (.int (181) 0), (.ref 97), .none, (.ref 98), (.ref 99), (.ref 100), (.int (308) 0), (.int (21) 0), (.str "/claim/cut.py" 309)]), #[]⟩
def o60 (P : Params) : Obj := ⟨(.type "function"), none, (.func (fn "is_whole" "is_whole" (top 12) 3 [] .none .none .none (.str "boardglue.lengths" 294) none (.ref 101) .none 0)), #[]⟩
def o61 (P : Params) : Obj := ⟨(.type "tuple"), none, (.seq #[(.str "one" 314), (.str "other" 315), (.str "pair" 316), (.str "rest" 317)] 0), #[]⟩
def o62 (P : Params) : Obj := ⟨.none, none, (.func (fn "common_divisor" "common_divisor" (top 13) 0 [] .none .none .none .none none .none .none 0)), #[]⟩
def o63 (P : Params) : Obj := ⟨(.type "code"), none, (.fields #[(.str "common_divisor" 311), (.str "common_divisor" 312), (.str "/claim/cut.py" 313), (.int (23) 0), (.int (2) 0), (.int (0) 0), (.int (0) 0), (.int (3) 0), (.ref 103), (.bool true), (.int (181) 0), (.ref 104), .none, (.ref 105), (.ref 106), (.ref 107), (.int (318) 0), (.int (23) 0), (.str "/claim/cut.py" 319)]), #[]⟩
def o64 (P : Params) : Obj := ⟨(.type "function"), none, (.func (fn "common_divisor" "common_divisor" (top 13) 3 [] .none .none .none (.str "boardglue.lengths" 294) none (.ref 108) .none 0)), #[]⟩
def o65 (P : Params) : Obj := ⟨(.type "tuple"), none, (.seq #[(.str "one" 324), (.str "other" 325), (.str "beyond" 326), (.str "steps" 327)] 0), #[]⟩
def o66 (P : Params) : Obj := ⟨.none, none, (.func (fn "far_rests" "far_rests" (top 14) 0 [] .none .none .none .none none .none .none 0)), #[]⟩
def o67 (P : Params) : Obj := ⟨(.type "code"), none, (.fields #[(.str "far_rests" 321), (.str "far_rests" 322), (.str "/claim/cut.py" 323), (.int (35) 0), (.int (2) 0), (.int (0) 0), (.int (0) 0), (.int (3) 0), (.ref 110), (.bool true), (.int (181) 0), (.ref 111), .none, (.ref 112), (.ref 113), (.ref 114), (.int (328) 0), (.int (35) 0), (.str "/claim/cut.py" 329)]), #[]⟩
def o68 (P : Params) : Obj := ⟨(.type "function"), none, (.func (fn "far_rests" "far_rests" (top 14) 3 [] .none .none .none (.str "boardglue.lengths" 294) none (.ref 115) .none 0)), #[]⟩
def o69 (P : Params) : Obj := ⟨(.type "tuple"), none, (.seq #[(.str "one" 334), (.str "other" 335), (.str "ahead" 336), (.str "last" 337), (.str "many" 338), (.str "rest" 339), (.str "left" 340)] 0), #[]⟩
def o70 (P : Params) : Obj := ⟨.none, none, (.func (fn "sure_steps" "sure_steps" (top 15) 0 [] .none .none .none .none none .none .none 0)), #[]⟩
def o71 (P : Params) : Obj := ⟨(.type "code"), none, (.fields #[(.str "sure_steps" 331), (.str "sure_steps" 332), (.str "/claim/cut.py" 333), (.int (41) 0), (.int (2) 0), (.int (0) 0), (.int (0) 0), (.int (3) 0), (.ref 117), (.bool true), (.int (181) 0), (.ref 118), .none, (.ref 119), (.ref 120), (.ref 121), (.int (341) 0), (.int (41) 0), (.str "/claim/cut.py" 342)]), #[]⟩
def o72 (P : Params) : Obj := ⟨(.type "function"), none, (.func (fn "sure_steps" "sure_steps" (top 15) 3 [] .none .none .none (.str "boardglue.lengths" 294) none (.ref 122) .none 0)), #[]⟩
def o73 (P : Params) : Obj := ⟨(.type "tuple"), none, (.seq #[(.str "divisor" 347), (.str "bottom" 348)] 0), #[]⟩
def o74 (P : Params) : Obj := ⟨.none, none, (.func (fn "with_sign_of" "with_sign_of" (top 16) 0 [] .none .none .none .none none .none .none 0)), #[]⟩
def o75 (P : Params) : Obj := ⟨(.type "code"), none, (.fields #[(.str "with_sign_of" 344), (.str "with_sign_of" 345), (.str "/claim/cut.py" 346), (.int (55) 0), (.int (2) 0), (.int (0) 0), (.int (0) 0), (.int (3) 0), (.ref 124), (.bool true), (.int (181) 0), (.ref 125), .none, (.ref 126), (.ref 127), (.ref 128), (.int (349) 0), (.int (55) 0), (.str "/claim/cut.py" 350)]), #[]⟩
def o76 (P : Params) : Obj := ⟨(.type "function"), none, (.func (fn "with_sign_of" "with_sign_of" (top 16) 3 [] .none .none .none (.str "boardglue.lengths" 294) none (.ref 129) .none 0)), #[]⟩
def o77 (P : Params) : Obj := ⟨(.type "tuple"), none, (.seq #[(.int (0) 352), (.int (1) 353)] 0), #[]⟩
def o78 (P : Params) : Obj := ⟨(.type "tuple"), none, (.seq #[(.str "a" 357), (.str "b" 358), (.str "n" 359), (.str "divisor" 360)] 0), #[]⟩
def o79 (P : Params) : Obj := ⟨.none, none, (.func (fn "length" "length" (top 17) 0 [] .none .none .none .none none .none .none 0)), #[]⟩
def o80 (P : Params) : Obj := ⟨(.type "code"), none, (.fields #[(.str "length" 354), (.str "length" 355), (.str "/claim/cut.py" 356), (.int (57) 0), (.int (3) 0), (.int (0) 0), (.int (0) 0), (.int (3) 0), (.ref 132), (.bool true), (.int (181) 0), (.ref 133), .none, (.ref 134), (.ref 135), (.ref 136), (.int (361) 0), (.int (57) 0), (.str "/claim/cut.py" 362)]), #[]⟩
def o81 (P : Params) : Obj := ⟨(.type "function"), none, (.func (fn "length" "length" (top 17) 3 [] (.ref 131) .none .none (.str "boardglue.lengths" 294) none (.ref 137) .none 0)), #[]⟩
def o82 (P : Params) : Obj := ⟨(.type "tuple"), none, (.seq #[(.str "one" 367), (.str "other" 368), (.str "shared" 369), (.str "ahead" 370), (.str "behind" 371), (.str "a" 372), (.str "b" 373), (.str "left" 374)] 0), #[]⟩
def o83 (P : Params) : Obj := ⟨.none, none, (.func (fn "added" "added" (top 18) 0 [] .none .none .none .none none .none .none 0)), #[]⟩
def o84 (P : Params) : Obj := ⟨(.type "code"), none, (.fields #[(.str "added" 364), (.str "added" 365), (.str "/claim/cut.py" 366), (.int (64) 0), (.int (2) 0), (.int (0) 0), (.int (0) 0), (.int (3) 0), (.ref 139), (.bool true), (.int (181) 0), (.ref 140), .none, (.ref 141), (.ref 142), (.ref 143), (.int (375) 0), (.int (64) 0), (.str "/claim/cut.py" 376)]), #[]⟩
def o85 (P : Params) : Obj := ⟨(.type "function"), none, (.func (fn "added" "added" (top 18) 3 [] .none .none .none (.str "boardglue.lengths" 294) none (.ref 144) .none 0)), #[]⟩
def o86 (P : Params) : Obj := ⟨(.type "tuple"), none, (.seq #[(.str "one" 381), (.str "other" 382)] 0), #[]⟩
def o87 (P : Params) : Obj := ⟨.none, none, (.func (fn "taken" "taken" (top 19) 0 [] .none .none .none .none none .none .none 0)), #[]⟩
def o88 (P : Params) : Obj := ⟨(.type "code"), none, (.fields #[(.str "taken" 378), (.str "taken" 379), (.str "/claim/cut.py" 380), (.int (72) 0), (.int (2) 0), (.int (0) 0), (.int (0) 0), (.int (3) 0), (.ref 146), (.bool true), (.int (181) 0), (.ref 147), .none, (.ref 148), (.ref 149), (.ref 150), (.int (383) 0), (.int (72) 0), (.str "/claim/cut.py" 384)]), #[]⟩
def o89 (P : Params) : Obj := ⟨(.type "function"), none, (.func (fn "taken" "taken" (top 19) 3 [] .none .none .none (.str "boardglue.lengths" 294) none (.ref 151) .none 0)), #[]⟩
def o90 (P : Params) : Obj := ⟨(.type "tuple"), none, (.seq #[(.str "d" 389), (.str "a" 390), (.str "b" 391)] 0), #[]⟩
def o91 (P : Params) : Obj := ⟨.none, none, (.func (fn "is_above_nought" "is_above_nought" (top 20) 0 [] .none .none .none .none none .none .none 0)), #[]⟩
def o92 (P : Params) : Obj := ⟨(.type "code"), none, (.fields #[(.str "is_above_nought" 386), (.str "is_above_nought" 387), (.str "/claim/cut.py" 388), (.int (74) 0), (.int (3) 0), (.int (0) 0), (.int (0) 0), (.int (3) 0), (.ref 153), (.bool true), (.int (181) 0), (.ref 154), .none, (.ref 155), (.ref 156), (.ref 157), (.int (392) 0), (.int (74) 0), (.str "/claim/cut.py" 393)]), #[]⟩
def o93 (P : Params) : Obj := ⟨(.type "function"), none, (.func (fn "is_above_nought" "is_above_nought" (top 20) 3 [] .none .none .none (.str "boardglue.lengths" 294) none (.ref 158) .none 0)), #[]⟩
def o94 (P : Params) : Obj := ⟨(.type "tuple"), none, (.seq #[(.str "d" 398), (.str "one" 399), (.str "other" 400)] 0), #[]⟩
def o95 (P : Params) : Obj := ⟨.none, none, (.func (fn "under" "under" (top 21) 0 [] .none .none .none .none none .none .none 0)), #[]⟩
def o96 (P : Params) : Obj := ⟨(.type "code"), none, (.fields #[(.str "under" 395), (.str "under" 396), (.str "/claim/cut.py" 397), (.int (82) 0), (.int (3) 0), (.int (0) 0), (.int (0) 0), (.int (3) 0), (.ref 160), (.bool true), (.int (181) 0), (.ref 161), .none, (.ref 162), (.ref 163), (.ref 164), (.int (401) 0), (.int (82) 0), (.str "/claim/cut.py" 402)]), #[]⟩
def o97 (P : Params) : Obj := ⟨(.type "function"), none, (.func (fn "under" "under" (top 21) 3 [] .none .none .none (.str "boardglue.lengths" 294) none (.ref 165) .none 0)), #[]⟩
def o98 (P : Params) : Obj := ⟨.none, none, (.func (fn "is_length" "is_length" (top 23) 0 [] .none .none .none .none none .none .none 0)), #[]⟩
def o99 (P : Params) : Obj := ⟨(.type "code"), none, (.fields #[(.str "is_length" 406), (.str "is_length" 407), (.str "/claim/cut.py" 408), (.int (85) 0), (.int (1) 0), (.int (0) 0), (.int (0) 0), (.int (3) 0), (.ref 167), (.bool true), (.int (181) 0), (.ref 168), .none, .none, .none, (.ref 169), (.int (409) 0), (.int (85) 0), (.str "/claim/cut.py" 410)]), #[]⟩
def o100 (P : Params) : Obj := ⟨(.type "function"), none, (.func (fn "is_length" "is_length" (top 23) 3 [] .none .none .none (.str "boardglue.boards" 404) none (.ref 170) .none 0)), #[]⟩
def o101 (P : Params) : Obj := ⟨(.type "tuple"), none, (.seq #[(.str "across" 414), (.str "along" 415)] 0), #[]⟩
def o102 (P : Params) : Obj := ⟨(.type "tuple"), none, (.seq #[(.str "beside" 417), (.str "atop" 418)] 0), #[]⟩
def o103 (P : Params) : Obj := ⟨(.type "tuple"), none, (.seq #[(.str "stack" 420), (.str "spread" 421)] 0), #[]⟩
def o104 (P : Params) : Obj := ⟨(.type "tuple"), none, (.seq #[(.str "thing" 428)] 0), #[]⟩
def o105 (P : Params) : Obj := ⟨.none, none, (.func (fn "is_deed" "is_deed" (top 29) 0 [] .none .none .none .none none .none .none 0)), #[]⟩
def o106 (P : Params) : Obj := ⟨(.type "code"), none, (.fields #[(.str "is_deed" 425), (.str "is_deed" 426), (.str "/claim/cut.py" 427), (.int (96) 0), (.int (1) 0), (.int (0) 0), (.int (0) 0), (.int (3) 0), (.ref 175), (.bool true), (.int (181) 0), (.ref 176), .none, (.ref 177), (.ref 178), (.ref 179), (.int (429) 0), (.int (96) 0), (.str "/claim/cut.py" 430)]), #[]⟩
def o107 (P : Params) : Obj := ⟨(.type "function"), none, (.func (fn "is_deed" "is_deed" (top 29) 3 [] .none .none .none (.str "boardglue.yard" 412) none (.ref 180) .none 0)), #[]⟩
def o108 (P : Params) : Obj := ⟨(.type "tuple"), none, (.seq #[(.str "deed" 435)] 0), #[]⟩
def o109 (P : Params) : Obj := ⟨.none, none, (.func (fn "names_taken" "names_taken" (top 30) 0 [] .none .none .none .none none .none .none 0)), #[]⟩
def o110 (P : Params) : Obj := ⟨(.type "code"), none, (.fields #[(.str "names_taken" 432), (.str "names_taken" 433), (.str "/claim/cut.py" 434), (.int (108) 0), (.int (1) 0), (.int (0) 0), (.int (0) 0), (.int (3) 0), (.ref 182), (.bool true), (.int (181) 0), (.ref 183), .none, (.ref 184), (.ref 185), (.ref 186), (.int (436) 0), (.int (108) 0), (.str "/claim/cut.py" 437)]), #[]⟩
def o111 (P : Params) : Obj := ⟨(.type "function"), none, (.func (fn "names_taken" "names_taken" (top 30) 3 [] .none .none .none (.str "boardglue.yard" 412) none (.ref 187) .none 0)), #[]⟩
def o112 (P : Params) : Obj := ⟨(.type "tuple"), none, (.seq #[(.str "one" 442)] 0), #[]⟩
def o113 (P : Params) : Obj := ⟨.none, none, (.func (fn "turned" "turned" (top 31) 0 [] .none .none .none .none none .none .none 0)), #[]⟩
def o114 (P : Params) : Obj := ⟨(.type "code"), none, (.fields #[(.str "turned" 439), (.str "turned" 440), (.str "/claim/cut.py" 441), (.int (110) 0), (.int (1) 0), (.int (0) 0), (.int (0) 0), (.int (3) 0), (.ref 189), (.bool true), (.int (181) 0), (.ref 190), .none, (.ref 191), (.ref 192), (.ref 193), (.int (443) 0), (.int (110) 0), (.str "/claim/cut.py" 444)]), #[]⟩
def o115 (P : Params) : Obj := ⟨(.type "function"), none, (.func (fn "turned" "turned" (top 31) 3 [] .none .none .none (.str "boardglue.yard" 412) none (.ref 194) .none 0)), #[]⟩
def o116 (P : Params) : Obj := ⟨(.type "tuple"), none, (.seq #[(.str "d" 449), (.str "one" 450), (.str "at" 451)] 0), #[]⟩
def o117 (P : Params) : Obj := ⟨.none, none, (.func (fn "cut_across" "cut_across" (top 32) 0 [] .none .none .none .none none .none .none 0)), #[]⟩
def o118 (P : Params) : Obj := ⟨(.type "code"), none, (.fields #[(.str "cut_across" 446), (.str "cut_across" 447), (.str "/claim/cut.py" 448), (.int (112) 0), (.int (3) 0), (.int (0) 0), (.int (0) 0), (.int (3) 0), (.ref 196), (.bool true), (.int (181) 0), (.ref 197), .none, (.ref 198), (.ref 199), (.ref 200), (.int (452) 0), (.int (112) 0), (.str "/claim/cut.py" 453)]), #[]⟩
def o119 (P : Params) : Obj := ⟨(.type "function"), none, (.func (fn "cut_across" "cut_across" (top 32) 3 [] .none .none .none (.str "boardglue.yard" 412) none (.ref 201) .none 0)), #[]⟩
def o120 (P : Params) : Obj := ⟨(.type "tuple"), none, (.seq #[(.str "one" 458), (.str "other" 459)] 0), #[]⟩
def o121 (P : Params) : Obj := ⟨.none, none, (.func (fn "glued_beside" "glued_beside" (top 33) 0 [] .none .none .none .none none .none .none 0)), #[]⟩
def o122 (P : Params) : Obj := ⟨(.type "code"), none, (.fields #[(.str "glued_beside" 455), (.str "glued_beside" 456), (.str "/claim/cut.py" 457), (.int (116) 0), (.int (2) 0), (.int (0) 0), (.int (0) 0), (.int (3) 0), (.ref 203), (.bool true), (.int (181) 0), (.ref 204), .none, (.ref 205), (.ref 206), (.ref 207), (.int (460) 0), (.int (116) 0), (.str "/claim/cut.py" 461)]), #[]⟩
def o123 (P : Params) : Obj := ⟨(.type "function"), none, (.func (fn "glued_beside" "glued_beside" (top 33) 3 [] .none .none .none (.str "boardglue.yard" 412) none (.ref 208) .none 0)), #[]⟩
def o124 (P : Params) : Obj := ⟨(.type "tuple"), none, (.seq #[(.str "one" 466), (.str "many" 467), (.str "width" 468), (.str "height" 469)] 0), #[]⟩
def o125 (P : Params) : Obj := ⟨.none, none, (.func (fn "stacked" "stacked" (top 34) 0 [] .none .none .none .none none .none .none 0)), #[]⟩
def o126 (P : Params) : Obj := ⟨(.type "code"), none, (.fields #[(.str "stacked" 463), (.str "stacked" 464), (.str "/claim/cut.py" 465), (.int (120) 0), (.int (2) 0), (.int (0) 0), (.int (0) 0), (.int (3) 0), (.ref 210), (.bool true), (.int (181) 0), (.ref 211), .none, (.ref 212), (.ref 213), (.ref 214), (.int (470) 0), (.int (120) 0), (.str "/claim/cut.py" 471)]), #[]⟩
def o127 (P : Params) : Obj := ⟨(.type "function"), none, (.func (fn "stacked" "stacked" (top 34) 3 [] .none .none .none (.str "boardglue.yard" 412) none (.ref 215) .none 0)), #[]⟩
def o128 (P : Params) : Obj := ⟨(.type "dict"), none, (.dict #[en P "__module__" 480 (.str "boardglue.yard" 412), en P "__qualname__" 482 (.str "Yard" 481), en P "__firstlineno__" 484 (.int (124) 483), en P "__init__" 490 (.ref 229), en P "do" 496 (.ref 234), en P "check_names" 505 (.ref 241), en P "put_by" 511 (.ref 246), en P "board_ever" 519 (.ref 253), en P "boards" 525 (.ref 258), en P "heap" 531 (.ref 263), en P "log" 538 (.ref 270), en P "__static_attributes__" 544 (.ref 271)] 12), #[]⟩
def o129 (P : Params) : Obj := ⟨.none, none, (.fields #[(.int (126) 0), (.int (4) 0), (.ref 228), (.int (133) 0), (.int (4) 0), (.ref 233), (.int (148) 0), (.int (4) 0), (.ref 240), (.int (155) 0), (.int (4) 0), (.ref 245), (.int (171) 0), (.int (4) 0), (.ref 252), (.int (174) 0), (.int (4) 0), (.ref 257), (.int (177) 0), (.int (4) 0), (.ref 262), (.int (180) 0), (.int (4) 0), (.ref 269)]), #[]⟩
def o130 (P : Params) : Obj := ⟨(.type "code"), none, (.fields #[(.str "Yard" 475), (.str "Yard" 476), (.str "/claim/cut.py" 477), (.int (124) 0), (.int (0) 0), (.int (0) 0), (.int (0) 0), (.int (0) 0), (.ref 220), (.bool false), (.int (181) 0), (.ref 221), .none, .none, .none, .none, (.int (478) 0), (.int (124) 0), (.str "/claim/cut.py" 479)]), #[]⟩
def o131 (P : Params) : Obj := ⟨(.type "frame"), none, .plain, #[(some (.ref 222)), (some (.ref 3)), (some (.ref 219)), none, (some (.str "boardglue.yard" 412)), none, (some (.ref 0))]⟩
def o132 (P : Params) : Obj := ⟨(.type "tuple"), none, (.seq #[(.bool false)] 0), #[]⟩
def o133 (P : Params) : Obj := ⟨.none, none, (.func (fn "__init__" "Yard.__init__" (sub (top 35) 0) 0 [] .none .none .none .none none .none .none 0)), #[]⟩
def o134 (P : Params) : Obj := ⟨(.type "code"), none, (.fields #[(.str "__init__" 485), (.str "Yard.__init__" 486), (.str "/claim/cut.py" 487), (.int (126) 0), (.int (4) 0), (.int (0) 0), (.int (0) 0), (.int (3) 0), (.ref 225), (.bool true), (.int (181) 0), (.ref 226), .none, .none, .none, (.ref 227), (.int (488) 0), (.int (126) 0), (.str "/claim/cut.py" 489)]), #[]⟩
def o135 (P : Params) : Obj := ⟨(.type "function"), none, (.func (fn "__init__" "Yard.__init__" (sub (top 35) 0) 3 [] (.ref 224) .none .none (.str "boardglue.yard" 412) none (.ref 228) .none 0)), #[]⟩
def o136 (P : Params) : Obj := ⟨.none, none, (.func (fn "do" "Yard.do" (sub (top 35) 1) 0 [] .none .none .none .none none .none .none 0)), #[]⟩
def o137 (P : Params) : Obj := ⟨(.type "code"), none, (.fields #[(.str "do" 491), (.str "Yard.do" 492), (.str "/claim/cut.py" 493), (.int (133) 0), (.int (2) 0), (.int (0) 0), (.int (0) 0), (.int (3) 0), (.ref 230), (.bool true), (.int (181) 0), (.ref 231), .none, .none, .none, (.ref 232), (.int (494) 0), (.int (133) 0), (.str "/claim/cut.py" 495)]), #[]⟩
def o138 (P : Params) : Obj := ⟨(.type "function"), none, (.func (fn "do" "Yard.do" (sub (top 35) 1) 3 [] .none .none .none (.str "boardglue.yard" 412) none (.ref 233) .none 0)), #[]⟩
def o139 (P : Params) : Obj := ⟨(.type "tuple"), none, (.seq #[(.str "self" 500), (.str "names" 501), (.str "name" 502)] 0), #[]⟩
def o140 (P : Params) : Obj := ⟨.none, none, (.func (fn "check_names" "Yard.check_names" (sub (top 35) 2) 0 [] .none .none .none .none none .none .none 0)), #[]⟩
def o141 (P : Params) : Obj := ⟨(.type "code"), none, (.fields #[(.str "check_names" 497), (.str "Yard.check_names" 498), (.str "/claim/cut.py" 499), (.int (148) 0), (.int (2) 0), (.int (0) 0), (.int (0) 0), (.int (3) 0), (.ref 235), (.bool true), (.int (181) 0), (.ref 236), .none, (.ref 237), (.ref 238), (.ref 239), (.int (503) 0), (.int (148) 0), (.str "/claim/cut.py" 504)]), #[]⟩
def o142 (P : Params) : Obj := ⟨(.type "function"), none, (.func (fn "check_names" "Yard.check_names" (sub (top 35) 2) 3 [] .none .none .none (.str "boardglue.yard" 412) none (.ref 240) .none 0)), #[]⟩
def o143 (P : Params) : Obj := ⟨.none, none, (.func (fn "put_by" "Yard.put_by" (sub (top 35) 3) 0 [] .none .none .none .none none .none .none 0)), #[]⟩
def o144 (P : Params) : Obj := ⟨(.type "code"), none, (.fields #[(.str "put_by" 506), (.str "Yard.put_by" 507), (.str "/claim/cut.py" 508), (.int (155) 0), (.int (3) 0), (.int (0) 0), (.int (0) 0), (.int (3) 0), (.ref 242), (.bool true), (.int (181) 0), (.ref 243), .none, .none, .none, (.ref 244), (.int (509) 0), (.int (155) 0), (.str "/claim/cut.py" 510)]), #[]⟩
def o145 (P : Params) : Obj := ⟨(.type "function"), none, (.func (fn "put_by" "Yard.put_by" (sub (top 35) 3) 3 [] .none .none .none (.str "boardglue.yard" 412) none (.ref 245) .none 0)), #[]⟩
def o146 (P : Params) : Obj := ⟨(.type "tuple"), none, (.seq #[(.str "self" 515), (.str "name" 516)] 0), #[]⟩
def o147 (P : Params) : Obj := ⟨.none, none, (.func (fn "board_ever" "Yard.board_ever" (sub (top 35) 4) 0 [] .none .none .none .none none .none .none 0)), #[]⟩
def o148 (P : Params) : Obj := ⟨(.type "code"), none, (.fields #[(.str "board_ever" 512), (.str "Yard.board_ever" 513), (.str "/claim/cut.py" 514), (.int (171) 0), (.int (2) 0), (.int (0) 0), (.int (0) 0), (.int (3) 0), (.ref 247), (.bool true), (.int (181) 0), (.ref 248), .none, (.ref 249), (.ref 250), (.ref 251), (.int (517) 0), (.int (171) 0), (.str "/claim/cut.py" 518)]), #[]⟩
def o149 (P : Params) : Obj := ⟨(.type "function"), none, (.func (fn "board_ever" "Yard.board_ever" (sub (top 35) 4) 3 [] .none .none .none (.str "boardglue.yard" 412) none (.ref 252) .none 0)), #[]⟩
def o150 (P : Params) : Obj := ⟨.none, none, (.func (fn "boards" "Yard.boards" (sub (top 35) 5) 0 [] .none .none .none .none none .none .none 0)), #[]⟩
def o151 (P : Params) : Obj := ⟨(.type "code"), none, (.fields #[(.str "boards" 520), (.str "Yard.boards" 521), (.str "/claim/cut.py" 522), (.int (174) 0), (.int (1) 0), (.int (0) 0), (.int (0) 0), (.int (3) 0), (.ref 254), (.bool true), (.int (181) 0), (.ref 255), .none, .none, .none, (.ref 256), (.int (523) 0), (.int (174) 0), (.str "/claim/cut.py" 524)]), #[]⟩
def o152 (P : Params) : Obj := ⟨(.type "function"), none, (.func (fn "boards" "Yard.boards" (sub (top 35) 5) 3 [] .none .none .none (.str "boardglue.yard" 412) none (.ref 257) .none 0)), #[]⟩
def o153 (P : Params) : Obj := ⟨.none, none, (.func (fn "heap" "Yard.heap" (sub (top 35) 6) 0 [] .none .none .none .none none .none .none 0)), #[]⟩
def o154 (P : Params) : Obj := ⟨(.type "code"), none, (.fields #[(.str "heap" 526), (.str "Yard.heap" 527), (.str "/claim/cut.py" 528), (.int (177) 0), (.int (1) 0), (.int (0) 0), (.int (0) 0), (.int (3) 0), (.ref 259), (.bool true), (.int (181) 0), (.ref 260), .none, .none, .none, (.ref 261), (.int (529) 0), (.int (177) 0), (.str "/claim/cut.py" 530)]), #[]⟩
def o155 (P : Params) : Obj := ⟨(.type "function"), none, (.func (fn "heap" "Yard.heap" (sub (top 35) 6) 3 [] .none .none .none (.str "boardglue.yard" 412) none (.ref 262) .none 0)), #[]⟩
def o156 (P : Params) : Obj := ⟨(.type "tuple"), none, (.seq #[(.str "self" 535)] 0), #[]⟩
def o157 (P : Params) : Obj := ⟨.none, none, (.func (fn "log" "Yard.log" (sub (top 35) 7) 0 [] .none .none .none .none none .none .none 0)), #[]⟩
def o158 (P : Params) : Obj := ⟨(.type "code"), none, (.fields #[(.str "log" 532), (.str "Yard.log" 533), (.str "/claim/cut.py" 534), (.int (180) 0), (.int (1) 0), (.int (0) 0), (.int (0) 0), (.int (3) 0), (.ref 264), (.bool true), (.int (181) 0), (.ref 265), .none, (.ref 266), (.ref 267), (.ref 268), (.int (536) 0), (.int (180) 0), (.str "/claim/cut.py" 537)]), #[]⟩
def o159 (P : Params) : Obj := ⟨(.type "function"), none, (.func (fn "log" "Yard.log" (sub (top 35) 7) 3 [] .none .none .none (.str "boardglue.yard" 412) none (.ref 269) .none 0)), #[]⟩
def o160 (P : Params) : Obj := ⟨(.type "tuple"), none, (.seq #[(.str "done" 539), (.str "known" 540), (.str "lying" 541), (.str "root" 542), (.str "turning" 543)] 0), #[]⟩
def o161 (P : Params) : Obj := ⟨(.type "dict"), none, (.dict #[en P "__module__" 480 (.str "boardglue.yard" 412), en P "__firstlineno__" 484 (.int (124) 483), en P "__init__" 490 (.ref 229), en P "do" 496 (.ref 234), en P "check_names" 505 (.ref 241), en P "put_by" 511 (.ref 246), en P "board_ever" 519 (.ref 253), en P "boards" 525 (.ref 258), en P "heap" 531 (.ref 263), en P "log" 538 (.ref 270), en P "__static_attributes__" 544 (.ref 271), en P "__dict__" 546 (.ref 274), en P "__weakref__" 548 (.ref 275), en P "__doc__" 549 .none] 4), #[]⟩
def o162 (P : Params) : Obj := ⟨(.type "type"), none, (.cls ⟨"Yard", [(.type "object")], [(.ref 273), (.type "object")], 272, "Yard", true, [], [], false, none, false⟩), #[none, none, (some (.str "Yard" 473)), (some (.str "Yard" 481)), (some (.builtin "object.__new__")), (some (.bool true))]⟩
def o163 (P : Params) : Obj := ⟨(.type "getset_descriptor"), none, (.fields #[(.str "__dict__" 545), (.ref 273), (.builtin "function.__dict__"), (.builtin "function.__dict__#set")]), #[]⟩
def o164 (P : Params) : Obj := ⟨(.type "getset_descriptor"), none, (.fields #[(.str "__weakref__" 547), (.ref 273), (.builtin "ExceptionGroup.__weakref__"), .none]), #[]⟩
def o165 (P : Params) : Obj := ⟨(.type "super"), none, (.fields #[(.ref 273), (.ref 273), (.ref 273)]), #[]⟩
def o166 (P : Params) : Obj := ⟨(.type "builtin_function_or_method"), none, (.fields #[(.builtin "object.__init_subclass__"), (.ref 273)]), #[]⟩
def o167 (P : Params) : Obj := ⟨(.type "tuple"), none, (.seq #[(.str "_law_script" 557), (.str "_law_k" 558)] 0), #[]⟩
def o168 (P : Params) : Obj := ⟨.none, none, (.func (fn "_law_cell" "_law_cell" (top 37) 0 [] .none .none .none .none none .none .none 0)), #[]⟩
def o169 (P : Params) : Obj := ⟨(.type "code"), none, (.fields #[(.str "_law_cell" 554), (.str "_law_cell" 555), (.str "/claim/cut.py" 556), (.int (183) 0), (.int (2) 0), (.int (0) 0), (.int (0) 0), (.int (3) 0), (.ref 278), (.bool true), (.int (181) 0), (.ref 279), .none, (.ref 280), (.ref 281), (.ref 282), (.int (559) 0), (.int (183) 0), (.str "/claim/cut.py" 560)]), #[]⟩
def o170 (P : Params) : Obj := ⟨(.type "function"), none, (.func (fn "_law_cell" "_law_cell" (top 37) 3 [] .none .none .none (.str "law_boardglue_k31_deeds_one_by_one" 552) none (.ref 283) .none 0)), #[]⟩
def o171 (P : Params) : Obj := ⟨(.type "tuple"), none, (.seq #[(.str "_law_found" 565)] 0), #[]⟩
def o172 (P : Params) : Obj := ⟨.none, none, (.func (fn "_law_whole" "_law_whole" (top 38) 0 [] .none .none .none .none none .none .none 0)), #[]⟩
def o173 (P : Params) : Obj := ⟨(.type "code"), none, (.fields #[(.str "_law_whole" 562), (.str "_law_whole" 563), (.str "/claim/cut.py" 564), (.int (187) 0), (.int (1) 0), (.int (0) 0), (.int (0) 0), (.int (3) 0), (.ref 285), (.bool true), (.int (181) 0), (.ref 286), .none, (.ref 287), (.ref 288), (.ref 289), (.int (566) 0), (.int (187) 0), (.str "/claim/cut.py" 567)]), #[]⟩
def o174 (P : Params) : Obj := ⟨(.type "function"), none, (.func (fn "_law_whole" "_law_whole" (top 38) 3 [] .none .none .none (.str "law_boardglue_k31_deeds_one_by_one" 552) none (.ref 290) .none 0)), #[]⟩
def o175 (P : Params) : Obj := ⟨(.type "tuple"), none, (.seq #[(.str "_law_cell_here" 572), (.str "_law_k" 573), (.str "_law_number" 574)] 0), #[]⟩
def o176 (P : Params) : Obj := ⟨.none, none, (.func (fn "_law_great" "_law_great" (top 39) 0 [] .none .none .none .none none .none .none 0)), #[]⟩
def o177 (P : Params) : Obj := ⟨(.type "code"), none, (.fields #[(.str "_law_great" 569), (.str "_law_great" 570), (.str "/claim/cut.py" 571), (.int (189) 0), (.int (2) 0), (.int (0) 0), (.int (0) 0), (.int (3) 0), (.ref 292), (.bool true), (.int (181) 0), (.ref 293), .none, (.ref 294), (.ref 295), (.ref 296), (.int (575) 0), (.int (189) 0), (.str "/claim/cut.py" 576)]), #[]⟩
def o178 (P : Params) : Obj := ⟨(.type "function"), none, (.func (fn "_law_great" "_law_great" (top 39) 3 [] .none .none .none (.str "law_boardglue_k31_deeds_one_by_one" 552) none (.ref 297) .none 0)), #[]⟩
def o179 (P : Params) : Obj := ⟨(.type "tuple"), none, (.seq #[(.str "_law_cell_here" 581), (.str "_law_many" 582), (.str "_law_found" 583), (.str "_law_number" 584), (.str "_law_k" 585)] 0), #[]⟩
def o180 (P : Params) : Obj := ⟨.none, none, (.func (fn "_law_digits" "_law_digits" (top 40) 0 [] .none .none .none .none none .none .none 0)), #[]⟩
def o181 (P : Params) : Obj := ⟨(.type "code"), none, (.fields #[(.str "_law_digits" 578), (.str "_law_digits" 579), (.str "/claim/cut.py" 580), (.int (193) 0), (.int (2) 0), (.int (0) 0), (.int (0) 0), (.int (3) 0), (.ref 299), (.bool true), (.int (181) 0), (.ref 300), .none, (.ref 301), (.ref 302), (.ref 303), (.int (586) 0), (.int (193) 0), (.str "/claim/cut.py" 587)]), #[]⟩
def o182 (P : Params) : Obj := ⟨(.type "function"), none, (.func (fn "_law_digits" "_law_digits" (top 40) 3 [] .none .none .none (.str "law_boardglue_k31_deeds_one_by_one" 552) none (.ref 304) .none 0)), #[]⟩
def o183 (P : Params) : Obj := ⟨(.type "tuple"), none, (.seq #[(.str "_law_one" 592), (.str "_law_other" 593)] 0), #[]⟩
def o184 (P : Params) : Obj := ⟨.none, none, (.func (fn "_law_divisor" "_law_divisor" (top 41) 0 [] .none .none .none .none none .none .none 0)), #[]⟩
def o185 (P : Params) : Obj := ⟨(.type "code"), none, (.fields #[(.str "_law_divisor" 589), (.str "_law_divisor" 590), (.str "/claim/cut.py" 591), (.int (203) 0), (.int (2) 0), (.int (0) 0), (.int (0) 0), (.int (3) 0), (.ref 306), (.bool true), (.int (181) 0), (.ref 307), .none, (.ref 308), (.ref 309), (.ref 310), (.int (594) 0), (.int (203) 0), (.str "/claim/cut.py" 595)]), #[]⟩
def o186 (P : Params) : Obj := ⟨(.type "function"), none, (.func (fn "_law_divisor" "_law_divisor" (top 41) 3 [] .none .none .none (.str "law_boardglue_k31_deeds_one_by_one" 552) none (.ref 311) .none 0)), #[]⟩
def o187 (P : Params) : Obj := ⟨(.type "tuple"), none, (.seq #[(.str "_law_a" 600), (.str "_law_b" 601), (.str "_law_n" 602), (.str "_law_share_here" 603)] 0), #[]⟩
def o188 (P : Params) : Obj := ⟨.none, none, (.func (fn "_law_lowest" "_law_lowest" (top 42) 0 [] .none .none .none .none none .none .none 0)), #[]⟩
def o189 (P : Params) : Obj := ⟨(.type "code"), none, (.fields #[(.str "_law_lowest" 597), (.str "_law_lowest" 598), (.str "/claim/cut.py" 599), (.int (209) 0), (.int (3) 0), (.int (0) 0), (.int (0) 0), (.int (3) 0), (.ref 313), (.bool true), (.int (181) 0), (.ref 314), .none, (.ref 315), (.ref 316), (.ref 317), (.int (604) 0), (.int (209) 0), (.str "/claim/cut.py" 605)]), #[]⟩
def o190 (P : Params) : Obj := ⟨(.type "function"), none, (.func (fn "_law_lowest" "_law_lowest" (top 42) 3 [] .none .none .none (.str "law_boardglue_k31_deeds_one_by_one" 552) none (.ref 318) .none 0)), #[]⟩
def o191 (P : Params) : Obj := ⟨(.type "tuple"), none, (.seq #[(.str "_law_d" 610), (.str "_law_a" 611), (.str "_law_b" 612)] 0), #[]⟩
def o192 (P : Params) : Obj := ⟨.none, none, (.func (fn "_law_sign" "_law_sign" (top 43) 0 [] .none .none .none .none none .none .none 0)), #[]⟩
def o193 (P : Params) : Obj := ⟨(.type "code"), none, (.fields #[(.str "_law_sign" 607), (.str "_law_sign" 608), (.str "/claim/cut.py" 609), (.int (214) 0), (.int (3) 0), (.int (0) 0), (.int (0) 0), (.int (3) 0), (.ref 320), (.bool true), (.int (181) 0), (.ref 321), .none, (.ref 322), (.ref 323), (.ref 324), (.int (613) 0), (.int (214) 0), (.str "/claim/cut.py" 614)]), #[]⟩
def o194 (P : Params) : Obj := ⟨(.type "function"), none, (.func (fn "_law_sign" "_law_sign" (top 43) 3 [] .none .none .none (.str "law_boardglue_k31_deeds_one_by_one" 552) none (.ref 325) .none 0)), #[]⟩
def o195 (P : Params) : Obj := ⟨(.type "tuple"), none, (.seq #[(.str "_law_one" 619), (.str "_law_other" 620), (.str "_law_sign_here" 621), (.str "_law_a" 622), (.str "_law_b" 623)] 0), #[]⟩
def o196 (P : Params) : Obj := ⟨.none, none, (.func (fn "_law_plus" "_law_plus" (top 44) 0 [] .none .none .none .none none .none .none 0)), #[]⟩
def o197 (P : Params) : Obj := ⟨(.type "code"), none, (.fields #[(.str "_law_plus" 616), (.str "_law_plus" 617), (.str "/claim/cut.py" 618), (.int (222) 0), (.int (3) 0), (.int (0) 0), (.int (0) 0), (.int (3) 0), (.ref 327), (.bool true), (.int (181) 0), (.ref 328), .none, (.ref 329), (.ref 330), (.ref 331), (.int (624) 0), (.int (222) 0), (.str "/claim/cut.py" 625)]), #[]⟩
def o198 (P : Params) : Obj := ⟨(.type "function"), none, (.func (fn "_law_plus" "_law_plus" (top 44) 3 [] .none .none .none (.str "law_boardglue_k31_deeds_one_by_one" 552) none (.ref 332) .none 0)), #[]⟩
def o199 (P : Params) : Obj := ⟨(.type "tuple"), none, (.seq #[(.str "_law_one" 630), (.str "_law_top" 631), (.str "_law_bottom" 632)] 0), #[]⟩
def o200 (P : Params) : Obj := ⟨.none, none, (.func (fn "_law_share" "_law_share" (top 45) 0 [] .none .none .none .none none .none .none 0)), #[]⟩
def o201 (P : Params) : Obj := ⟨(.type "code"), none, (.fields #[(.str "_law_share" 627), (.str "_law_share" 628), (.str "/claim/cut.py" 629), (.int (226) 0), (.int (3) 0), (.int (0) 0), (.int (0) 0), (.int (3) 0), (.ref 334), (.bool true), (.int (181) 0), (.ref 335), .none, (.ref 336), (.ref 337), (.ref 338), (.int (633) 0), (.int (226) 0), (.str "/claim/cut.py" 634)]), #[]⟩
def o202 (P : Params) : Obj := ⟨(.type "function"), none, (.func (fn "_law_share" "_law_share" (top 45) 3 [] .none .none .none (.str "law_boardglue_k31_deeds_one_by_one" 552) none (.ref 339) .none 0)), #[]⟩
def o203 (P : Params) : Obj := ⟨(.type "tuple"), none, (.seq #[(.str "_law_d" 639), (.str "_law_one" 640), (.str "_law_other" 641), (.str "_law_left" 642)] 0), #[]⟩
def o204 (P : Params) : Obj := ⟨.none, none, (.func (fn "_law_below" "_law_below" (top 46) 0 [] .none .none .none .none none .none .none 0)), #[]⟩
def o205 (P : Params) : Obj := ⟨(.type "code"), none, (.fields #[(.str "_law_below" 636), (.str "_law_below" 637), (.str "/claim/cut.py" 638), (.int (228) 0), (.int (3) 0), (.int (0) 0), (.int (0) 0), (.int (3) 0), (.ref 341), (.bool true), (.int (181) 0), (.ref 342), .none, (.ref 343), (.ref 344), (.ref 345), (.int (643) 0), (.int (228) 0), (.str "/claim/cut.py" 644)]), #[]⟩
def o206 (P : Params) : Obj := ⟨(.type "function"), none, (.func (fn "_law_below" "_law_below" (top 46) 3 [] .none .none .none (.str "law_boardglue_k31_deeds_one_by_one" 552) none (.ref 346) .none 0)), #[]⟩
def o207 (P : Params) : Obj := ⟨.none, none, (.func (fn "_law_root" "_law_root" (top 47) 0 [] .none .none .none .none none .none .none 0)), #[]⟩
def o208 (P : Params) : Obj := ⟨(.type "code"), none, (.fields #[(.str "_law_root" 646), (.str "_law_root" 647), (.str "/claim/cut.py" 648), (.int (231) 0), (.int (2) 0), (.int (0) 0), (.int (0) 0), (.int (3) 0), (.ref 348), (.bool true), (.int (181) 0), (.ref 349), .none, .none, .none, (.ref 350), (.int (649) 0), (.int (231) 0), (.str "/claim/cut.py" 650)]), #[]⟩
def o209 (P : Params) : Obj := ⟨(.type "function"), none, (.func (fn "_law_root" "_law_root" (top 47) 3 [] .none .none .none (.str "law_boardglue_k31_deeds_one_by_one" 552) none (.ref 351) .none 0)), #[]⟩
def o210 (P : Params) : Obj := ⟨(.type "tuple"), none, (.seq #[(.str "_law_d" 655), (.str "_law_cell_here" 656), (.str "_law_at_here" 657), (.str "_law_digits_here" 658), (.str "_law_a" 659), (.str "_law_b" 660), (.str "_law_n" 661), (.str "_law_sign_here" 662)] 0), #[]⟩
def o211 (P : Params) : Obj := ⟨.none, none, (.func (fn "_law_side" "_law_side" (top 48) 0 [] .none .none .none .none none .none .none 0)), #[]⟩
def o212 (P : Params) : Obj := ⟨(.type "code"), none, (.fields #[(.str "_law_side" 652), (.str "_law_side" 653), (.str "/claim/cut.py" 654), (.int (234) 0), (.int (3) 0), (.int (0) 0), (.int (0) 0), (.int (3) 0), (.ref 353), (.bool true), (.int (181) 0), (.ref 354), .none, (.ref 355), (.ref 356), (.ref 357), (.int (663) 0), (.int (234) 0), (.str "/claim/cut.py" 664)]), #[]⟩
def o213 (P : Params) : Obj := ⟨(.type "function"), none, (.func (fn "_law_side" "_law_side" (top 48) 3 [] .none .none .none (.str "law_boardglue_k31_deeds_one_by_one" 552) none (.ref 358) .none 0)), #[]⟩
def o214 (P : Params) : Obj := ⟨.none, none, (.func (fn "_law_heap" "_law_heap" (top 49) 0 [] .none .none .none .none none .none .none 0)), #[]⟩
def o215 (P : Params) : Obj := ⟨(.type "code"), none, (.fields #[(.str "_law_heap" 666), (.str "_law_heap" 667), (.str "/claim/cut.py" 668), (.int (247) 0), (.int (3) 0), (.int (0) 0), (.int (0) 0), (.int (3) 0), (.ref 360), (.bool true), (.int (181) 0), (.ref 361), .none, .none, .none, (.ref 362), (.int (669) 0), (.int (247) 0), (.str "/claim/cut.py" 670)]), #[]⟩
def o216 (P : Params) : Obj := ⟨(.type "function"), none, (.func (fn "_law_heap" "_law_heap" (top 49) 3 [] .none .none .none (.str "law_boardglue_k31_deeds_one_by_one" 552) none (.ref 363) .none 0)), #[]⟩
def o217 (P : Params) : Obj := ⟨(.type "tuple"), none, (.seq #[(.str "_law_deed_here" 675), (.str "_law_some" 676), (.str "_law_width" 677), (.str "_law_height" 678)] 0), #[]⟩
def o218 (P : Params) : Obj := ⟨.none, none, (.func (fn "_law_new" "_law_new" (top 50) 0 [] .none .none .none .none none .none .none 0)), #[]⟩
def o219 (P : Params) : Obj := ⟨(.type "code"), none, (.fields #[(.str "_law_new" 672), (.str "_law_new" 673), (.str "/claim/cut.py" 674), (.int (261) 0), (.int (2) 0), (.int (0) 0), (.int (0) 0), (.int (3) 0), (.ref 365), (.bool true), (.int (181) 0), (.ref 366), .none, (.ref 367), (.ref 368), (.ref 369), (.int (679) 0), (.int (261) 0), (.str "/claim/cut.py" 680)]), #[]⟩
def o220 (P : Params) : Obj := ⟨(.type "function"), none, (.func (fn "_law_new" "_law_new" (top 50) 3 [] .none .none .none (.str "law_boardglue_k31_deeds_one_by_one" 552) none (.ref 370) .none 0)), #[]⟩
def o221 (P : Params) : Obj := ⟨(.type "tuple"), none, (.seq #[(.str "_law_d" 685), (.str "_law_digits_here" 686), (.str "_law_side_here" 687), (.str "_law_pool" 688), (.str "_law_at_here" 689), (.str "_law_bottom" 690)] 0), #[]⟩
def o222 (P : Params) : Obj := ⟨.none, none, (.func (fn "_law_at" "_law_at" (top 51) 0 [] .none .none .none .none none .none .none 0)), #[]⟩
def o223 (P : Params) : Obj := ⟨(.type "code"), none, (.fields #[(.str "_law_at" 682), (.str "_law_at" 683), (.str "/claim/cut.py" 684), (.int (276) 0), (.int (4) 0), (.int (0) 0), (.int (0) 0), (.int (3) 0), (.ref 372), (.bool true), (.int (181) 0), (.ref 373), .none, (.ref 374), (.ref 375), (.ref 376), (.int (691) 0), (.int (276) 0), (.str "/claim/cut.py" 692)]), #[]⟩
def o224 (P : Params) : Obj := ⟨(.type "function"), none, (.func (fn "_law_at" "_law_at" (top 51) 3 [] .none .none .none (.str "law_boardglue_k31_deeds_one_by_one" 552) none (.ref 377) .none 0)), #[]⟩
def o225 (P : Params) : Obj := ⟨.none, none, (.func (fn "_law_deed" "_law_deed" (top 52) 0 [] .none .none .none .none none .none .none 0)), #[]⟩
def o226 (P : Params) : Obj := ⟨(.type "code"), none, (.fields #[(.str "_law_deed" 694), (.str "_law_deed" 695), (.str "/claim/cut.py" 696), (.int (282) 0), (.int (4) 0), (.int (0) 0), (.int (0) 0), (.int (3) 0), (.ref 379), (.bool true), (.int (181) 0), (.ref 380), .none, .none, .none, (.ref 381), (.int (697) 0), (.int (282) 0), (.str "/claim/cut.py" 698)]), #[]⟩
def o227 (P : Params) : Obj := ⟨(.type "function"), none, (.func (fn "_law_deed" "_law_deed" (top 52) 3 [] .none .none .none (.str "law_boardglue_k31_deeds_one_by_one" 552) none (.ref 382) .none 0)), #[]⟩
def o228 (P : Params) : Obj := ⟨.none, none, (.func (fn "_law_done" "_law_done" (top 53) 0 [] .none .none .none .none none .none .none 0)), #[]⟩
def o229 (P : Params) : Obj := ⟨(.type "code"), none, (.fields #[(.str "_law_done" 700), (.str "_law_done" 701), (.str "/claim/cut.py" 702), (.int (295) 0), (.int (3) 0), (.int (0) 0), (.int (0) 0), (.int (3) 0), (.ref 384), (.bool true), (.int (181) 0), (.ref 385), .none, .none, .none, (.ref 386), (.int (703) 0), (.int (295) 0), (.str "/claim/cut.py" 704)]), #[]⟩
def o230 (P : Params) : Obj := ⟨(.type "function"), none, (.func (fn "_law_done" "_law_done" (top 53) 3 [] .none .none .none (.str "law_boardglue_k31_deeds_one_by_one" 552) none (.ref 387) .none 0)), #[]⟩
def o231 (P : Params) : Obj := ⟨(.type "tuple"), none, (.seq #[(.str "_law_heap_here" 709), (.str "_law_lying" 710), (.str "_law_k" 711)] 0), #[]⟩
def o232 (P : Params) : Obj := ⟨.none, none, (.func (fn "_law_begin" "_law_begin" (top 54) 0 [] .none .none .none .none none .none .none 0)), #[]⟩
def o233 (P : Params) : Obj := ⟨(.type "code"), none, (.fields #[(.str "_law_begin" 706), (.str "_law_begin" 707), (.str "/claim/cut.py" 708), (.int (306) 0), (.int (1) 0), (.int (0) 0), (.int (0) 0), (.int (3) 0), (.ref 389), (.bool true), (.int (181) 0), (.ref 390), .none, (.ref 391), (.ref 392), (.ref 393), (.int (712) 0), (.int (306) 0), (.str "/claim/cut.py" 713)]), #[]⟩
def o234 (P : Params) : Obj := ⟨(.type "function"), none, (.func (fn "_law_begin" "_law_begin" (top 54) 3 [] .none .none .none (.str "law_boardglue_k31_deeds_one_by_one" 552) none (.ref 394) .none 0)), #[]⟩
def o235 (P : Params) : Obj := ⟨(.type "tuple"), none, (.seq #[(.str "_law_found" 718)] 0), #[]⟩
def o236 (P : Params) : Obj := ⟨.none, none, (.func (fn "_law_is_length" "_law_is_length" (top 55) 0 [] .none .none .none .none none .none .none 0)), #[]⟩
def o237 (P : Params) : Obj := ⟨(.type "code"), none, (.fields #[(.str "_law_is_length" 715), (.str "_law_is_length" 716), (.str "/claim/cut.py" 717), (.int (311) 0), (.int (1) 0), (.int (0) 0), (.int (0) 0), (.int (3) 0), (.ref 396), (.bool true), (.int (181) 0), (.ref 397), .none, (.ref 398), (.ref 399), (.ref 400), (.int (719) 0), (.int (311) 0), (.str "/claim/cut.py" 720)]), #[]⟩
def o238 (P : Params) : Obj := ⟨(.type "function"), none, (.func (fn "_law_is_length" "_law_is_length" (top 55) 3 [] .none .none .none (.str "law_boardglue_k31_deeds_one_by_one" 552) none (.ref 401) .none 0)), #[]⟩
def o239 (P : Params) : Obj := ⟨(.type "tuple"), none, (.seq #[(.str "_law_found" 725), (.str "_law_due" 726), (.str "_law_one" 727)] 0), #[]⟩
def o240 (P : Params) : Obj := ⟨.none, none, (.func (fn "_law_is_heap" "_law_is_heap" (top 56) 0 [] .none .none .none .none none .none .none 0)), #[]⟩
def o241 (P : Params) : Obj := ⟨(.type "code"), none, (.fields #[(.str "_law_is_heap" 722), (.str "_law_is_heap" 723), (.str "/claim/cut.py" 724), (.int (315) 0), (.int (2) 0), (.int (0) 0), (.int (0) 0), (.int (3) 0), (.ref 403), (.bool true), (.int (181) 0), (.ref 404), .none, (.ref 405), (.ref 406), (.ref 407), (.int (728) 0), (.int (315) 0), (.str "/claim/cut.py" 729)]), #[]⟩
def o242 (P : Params) : Obj := ⟨(.type "function"), none, (.func (fn "_law_is_heap" "_law_is_heap" (top 56) 3 [] .none .none .none (.str "law_boardglue_k31_deeds_one_by_one" 552) none (.ref 408) .none 0)), #[]⟩
def o243 (P : Params) : Obj := ⟨.none, none, (.func (fn "_law_right" "_law_right" (top 57) 0 [] .none .none .none .none none .none .none 0)), #[]⟩
def o244 (P : Params) : Obj := ⟨(.type "code"), none, (.fields #[(.str "_law_right" 731), (.str "_law_right" 732), (.str "/claim/cut.py" 733), (.int (322) 0), (.int (3) 0), (.int (0) 0), (.int (0) 0), (.int (3) 0), (.ref 410), (.bool true), (.int (181) 0), (.ref 411), .none, .none, .none, (.ref 412), (.int (734) 0), (.int (322) 0), (.str "/claim/cut.py" 735)]), #[]⟩
def o245 (P : Params) : Obj := ⟨(.type "function"), none, (.func (fn "_law_right" "_law_right" (top 57) 3 [] .none .none .none (.str "law_boardglue_k31_deeds_one_by_one" 552) none (.ref 413) .none 0)), #[]⟩
def o246 (P : Params) : Obj := ⟨.none, none, (.func (fn "law" "law" (top 58) 0 [] .none .none .none .none none .none .none 0)), #[]⟩
def o247 (P : Params) : Obj := ⟨(.type "code"), none, (.fields #[(.str "law" 737), (.str "law" 738), (.str "/claim/cut.py" 739), (.int (338) 0), (.int (1) 0), (.int (0) 0), (.int (0) 0), (.int (3) 0), (.ref 415), (.bool true), (.int (181) 0), (.ref 416), .none, .none, .none, (.ref 417), (.int (740) 0), (.int (338) 0), (.str "/claim/cut.py" 741)]), #[]⟩
def o248 (P : Params) : Obj := ⟨(.type "function"), none, (.func (fn "law" "law" (top 58) 3 [] .none .none .none (.str "law_boardglue_k31_deeds_one_by_one" 552) none (.ref 418) .none 0)), #[]⟩
def T1 (P : Params) : BT := (.node (boot_o_0 P) (.node (boot_o_1 P) (.node (o4 P) (.node (boot_o_7 P) (.node (o0 P) (.node (o16 P) (.node (o1 P) (.node (o0 P) (.node (o1 P) .nil .nil) (.node (o227 P) .nil .nil)) (.node (o112 P) (.node (o190 P) .nil .nil) .nil)) (.node (o56 P) (.node (o93 P) (.node (o171 P) .nil .nil) (.node (o0 P) .nil .nil)) (.node (o131 P) (.node (o208 P) .nil .nil) .nil))) (.node (o20 P) (.node (o45 P) (.node (o83 P) (.node (o160 P) .nil .nil) (.node (o0 P) .nil .nil)) (.node (o121 P) (.node (o1 P) .nil .nil) .nil)) (.node (o1 P) (.node (o0 P) (.node (o180 P) .nil .nil) .nil) (.node (o140 P) (.node (o217 P) .nil .nil) .nil)))) (.node (o11 P) (.node (o1 P) (.node (o20 P) (.node (o0 P) (.node (o155 P) .nil .nil) (.node (o231 P) .nil .nil)) (.node (o0 P) (.node (o0 P) .nil .nil) .nil)) (.node (o0 P) (.node (o0 P) (.node (o0 P) .nil .nil) .nil) (.node (o1 P) (.node (o213 P) .nil .nil) .nil))) (.node (o31 P) (.node (o1 P) (.node (o88 P) (.node (o1 P) .nil .nil) (.node (o240 P) .nil .nil)) (.node (o126 P) (.node (o203 P) .nil .nil) .nil)) (.node (o69 P) (.node (o1 P) (.node (o185 P) .nil .nil) .nil) (.node (o0 P) (.node (o0 P) .nil .nil) .nil))))) (.node (o0 P) (.node (o7 P) (.node (o20 P) (.node (o38 P) (.node (o77 P) (.node (o0 P) .nil .nil) (.node (o229 P) .nil .nil)) (.node (o115 P) (.node (o0 P) .nil .nil) .nil)) (.node (o0 P) (.node (o0 P) (.node (o174 P) .nil .nil) (.node (o248 P) .nil .nil)) (.node (o133 P) (.node (o210 P) .nil .nil) .nil))) (.node (o1 P) (.node (o20 P) (.node (o1 P) (.node (o164 P) .nil .nil) (.node (o0 P) .nil .nil)) (.node (o1 P) (.node (o201 P) .nil .nil) .nil)) (.node (o67 P) (.node (o105 P) (.node (o1 P) .nil .nil) .nil) (.node (o1 P) (.node (o220 P) .nil .nil) .nil)))) (.node (o13 P) (.node (o24 P) (.node (o1 P) (.node (o0 P) (.node (o0 P) .nil .nil) (.node (o234 P) .nil .nil)) (.node (o0 P) (.node (o196 P) .nil .nil) .nil)) (.node (o62 P) (.node (o100 P) (.node (o0 P) .nil .nil) .nil) (.node (o0 P) (.node (o215 P) .nil .nil) .nil))) (.node (o20 P) (.node (o52 P) (.node (o90 P) (.node (o169 P) .nil .nil) (.node (o1 P) .nil .nil)) (.node (o128 P) (.node (o206 P) .nil .nil) .nil)) (.node (o72 P) (.node (o110 P) (.node (o187 P) .nil .nil) .nil) (.node (o147 P) (.node (o0 P) .nil .nil) .nil)))))) (.node (boot_o_5 P) (.node (boot_o_9 P) (.node (o6 P) (.node (o18 P) (.node (o37 P) (.node (o75 P) (.node (o151 P) .nil .nil) (.node (o1 P) .nil .nil)) (.node (o113 P) (.node (o1 P) .nil .nil) .nil)) (.node (o1 P) (.node (o1 P) (.node (o172 P) .nil .nil) (.node (o246 P) .nil .nil)) (.node (o0 P) (.node (o0 P) .nil .nil) .nil))) (.node (o28 P) (.node (o47 P) (.node (o85 P) (.node (o162 P) .nil .nil) (.node (o237 P) .nil .nil)) (.node (o123 P) (.node (o0 P) .nil .nil) .nil)) (.node (o0 P) (.node (o104 P) (.node (o182 P) .nil .nil) .nil) (.node (o142 P) (.node (o218 P) .nil .nil) .nil)))) (.node (o0 P) (.node (o23 P) (.node (o42 P) (.node (o80 P) (.node (o1 P) .nil .nil) (.node (o232 P) .nil .nil)) (.node (o118 P) (.node (o195 P) .nil .nil) .nil)) (.node (o61 P) (.node (o98 P) (.node (o177 P) .nil .nil) .nil) (.node (o137 P) (.node (o1 P) .nil .nil) .nil))) (.node (o33 P) (.node (o51 P) (.node (o0 P) (.node (o0 P) .nil .nil) (.node (o242 P) .nil .nil)) (.node (o0 P) (.node (o204 P) .nil .nil) .nil)) (.node (o70 P) (.node (o0 P) (.node (o0 P) .nil .nil) .nil) (.node (o146 P) (.node (o223 P) .nil .nil) .nil))))) (.node (o2 P) (.node (o9 P) (.node (o21 P) (.node (o40 P) (.node (o1 P) (.node (o153 P) .nil .nil) (.node (o0 P) .nil .nil)) (.node (o1 P) (.node (o193 P) .nil .nil) .nil)) (.node (o59 P) (.node (o96 P) (.node (o1 P) .nil .nil) .nil) (.node (o135 P) (.node (o211 P) .nil .nil) .nil))) (.node (o30 P) (.node (o49 P) (.node (o0 P) (.node (o166 P) .nil .nil) (.node (o239 P) .nil .nil)) (.node (o0 P) (.node (o0 P) .nil .nil) .nil)) (.node (o0 P) (.node (o107 P) (.node (o0 P) .nil .nil) .nil) (.node (o144 P) (.node (o1 P) .nil .nil) .nil)))) (.node (o0 P) (.node (o26 P) (.node (o44 P) (.node (o82 P) (.node (o158 P) .nil .nil) (.node (o1 P) .nil .nil)) (.node (o120 P) (.node (o198 P) .nil .nil) .nil)) (.node (o64 P) (.node (o102 P) (.node (o179 P) .nil .nil) .nil) (.node (o139 P) (.node (o0 P) .nil .nil) .nil))) (.node (o35 P) (.node (o54 P) (.node (o91 P) (.node (o0 P) .nil .nil) (.node (o244 P) .nil .nil)) (.node (o129 P) (.node (o1 P) .nil .nil) .nil)) (.node (o1 P) (.node (o0 P) (.node (o188 P) .nil .nil) .nil) (.node (o149 P) (.node (o225 P) .nil .nil) .nil))))))) (.node (boot_o_2 P) (.node (boot_o_4 P) (.node (boot_o_8 P) (.node (o1 P) (.node (o17 P) (.node (o36 P) (.node (o74 P) (.node (o150 P) .nil .nil) (.node (o0 P) .nil .nil)) (.node (o0 P) (.node (o0 P) .nil .nil) .nil)) (.node (o0 P) (.node (o0 P) (.node (o0 P) .nil .nil) (.node (o1 P) .nil .nil)) (.node (o132 P) (.node (o209 P) .nil .nil) .nil))) (.node (o11 P) (.node (o46 P) (.node (o84 P) (.node (o161 P) .nil .nil) (.node (o236 P) .nil .nil)) (.node (o122 P) (.node (o199 P) .nil .nil) .nil)) (.node (o65 P) (.node (o1 P) (.node (o181 P) .nil .nil) .nil) (.node (o141 P) (.node (o0 P) .nil .nil) .nil)))) (.node (o12 P) (.node (o22 P) (.node (o11 P) (.node (o79 P) (.node (o0 P) .nil .nil) (.node (o0 P) .nil .nil)) (.node (o117 P) (.node (o1 P) .nil .nil) .nil)) (.node (o1 P) (.node (o1 P) (.node (o176 P) .nil .nil) .nil) (.node (o136 P) (.node (o0 P) .nil .nil) .nil))) (.node (o32 P) (.node (o50 P) (.node (o89 P) (.node (o167 P) .nil .nil) (.node (o241 P) .nil .nil)) (.node (o127 P) (.node (o0 P) .nil .nil) .nil)) (.node (o0 P) (.node (o108 P) (.node (o186 P) .nil .nil) .nil) (.node (o1 P) (.node (o222 P) .nil .nil) .nil))))) (.node (o5 P) (.node (o8 P) (.node (o11 P) (.node (o39 P) (.node (o0 P) (.node (o1 P) .nil .nil) (.node (o230 P) .nil .nil)) (.node (o0 P) (.node (o192 P) .nil .nil) .nil)) (.node (o58 P) (.node (o95 P) (.node (o0 P) .nil .nil) .nil) (.node (o134 P) (.node (o0 P) .nil .nil) .nil))) (.node (o29 P) (.node (o11 P) (.node (o86 P) (.node (o165 P) .nil .nil) (.node (o1 P) .nil .nil)) (.node (o124 P) (.node (o202 P) .nil .nil) .nil)) (.node (o68 P) (.node (o106 P) (.node (o183 P) .nil .nil) .nil) (.node (o143 P) (.node (o0 P) .nil .nil) .nil)))) (.node (o14 P) (.node (o25 P) (.node (o43 P) (.node (o1 P) (.node (o157 P) .nil .nil) (.node (o0 P) .nil .nil)) (.node (o1 P) (.node (o197 P) .nil .nil) .nil)) (.node (o63 P) (.node (o101 P) (.node (o1 P) .nil .nil) .nil) (.node (o1 P) (.node (o216 P) .nil .nil) .nil))) (.node (o11 P) (.node (o53 P) (.node (o0 P) (.node (o170 P) .nil .nil) (.node (o243 P) .nil .nil)) (.node (o0 P) (.node (o0 P) .nil .nil) .nil)) (.node (o0 P) (.node (o111 P) (.node (o0 P) .nil .nil) .nil) (.node (o148 P) (.node (o1 P) .nil .nil) .nil)))))) (.node (boot_o_6 P) (.node (boot_o_10 P) (.node (o0 P) (.node (o19 P) (.node (o0 P) (.node (o76 P) (.node (o152 P) .nil .nil) (.node (o228 P) .nil .nil)) (.node (o114 P) (.node (o191 P) .nil .nil) .nil)) (.node (o57 P) (.node (o94 P) (.node (o173 P) .nil .nil) (.node (o247 P) .nil .nil)) (.node (o1 P) (.node (o1 P) .nil .nil) .nil))) (.node (o0 P) (.node (o48 P) (.node (o0 P) (.node (o163 P) .nil .nil) (.node (o238 P) .nil .nil)) (.node (o0 P) (.node (o200 P) .nil .nil) .nil)) (.node (o66 P) (.node (o0 P) (.node (o0 P) .nil .nil) .nil) (.node (o0 P) (.node (o219 P) .nil .nil) .nil)))) (.node (o1 P) (.node (o0 P) (.node (o0 P) (.node (o81 P) (.node (o156 P) .nil .nil) (.node (o233 P) .nil .nil)) (.node (o119 P) (.node (o0 P) .nil .nil) .nil)) (.node (o0 P) (.node (o99 P) (.node (o178 P) .nil .nil) .nil) (.node (o138 P) (.node (o214 P) .nil .nil) .nil))) (.node (o34 P) (.node (o0 P) (.node (o1 P) (.node (o168 P) .nil .nil) (.node (o0 P) .nil .nil)) (.node (o11 P) (.node (o205 P) .nil .nil) .nil)) (.node (o71 P) (.node (o109 P) (.node (o1 P) .nil .nil) .nil) (.node (o0 P) (.node (o224 P) .nil .nil) .nil))))) (.node (o3 P) (.node (o10 P) (.node (o0 P) (.node (o41 P) (.node (o78 P) (.node (o154 P) .nil .nil) (.node (o1 P) .nil .nil)) (.node (o116 P) (.node (o194 P) .nil .nil) .nil)) (.node (o60 P) (.node (o97 P) (.node (o175 P) .nil .nil) .nil) (.node (o0 P) (.node (o212 P) .nil .nil) .nil))) (.node (o0 P) (.node (o0 P) (.node (o87 P) (.node (o0 P) .nil .nil) (.node (o0 P) .nil .nil)) (.node (o125 P) (.node (o1 P) .nil .nil) .nil)) (.node (o1 P) (.node (o0 P) (.node (o184 P) .nil .nil) .nil) (.node (o145 P) (.node (o221 P) .nil .nil) .nil)))) (.node (o15 P) (.node (o27 P) (.node (o0 P) (.node (o0 P) (.node (o159 P) .nil .nil) (.node (o235 P) .nil .nil)) (.node (o0 P) (.node (o0 P) .nil .nil) .nil)) (.node (o0 P) (.node (o103 P) (.node (o0 P) .nil .nil) .nil) (.node (o0 P) (.node (o1 P) .nil .nil) .nil))) (.node (o0 P) (.node (o55 P) (.node (o92 P) (.node (o1 P) .nil .nil) (.node (o245 P) .nil .nil)) (.node (o130 P) (.node (o207 P) .nil .nil) .nil)) (.node (o73 P) (.node (o1 P) (.node (o189 P) .nil .nil) .nil) (.node (o0 P) (.node (o226 P) .nil .nil) .nil))))))))
theorem pc0' (w : World) : (fun os => PySem.W.Fast.tw10110043849684766642 PySem.W.Fast.tw14364793385576792824 p w m0 ann (nat_lit 1) (nat_lit 3021) (⟨T0 w.params, nat_lit 15, lf0, ⟨[]⟩, dr1, nat_lit 187, os⟩ : SharedT) (PySem.W.piecesOf ((b.drop 0).take 59) env cE ⟨0, 0, 0, 0⟩ B)) = fun os => some (Flow.next, (⟨T1 w.params, nat_lit 420, lf0, ⟨[]⟩, dr1, nat_lit 743, os⟩ : SharedT), cE, ⟨338, 0, 363, 111⟩) := by kernel_rfl
theorem pc0 (w : World) (os : OsState) : segRun treeTable p w m0 ann (nat_lit 1) (nat_lit 3021) (SharedT.abs (⟨T0 w.params, nat_lit 15, lf0, ⟨[]⟩, dr1, nat_lit 187, os⟩ : SharedT)) (piecesOf ((b.drop 0).take 59) env cE ⟨0, 0, 0, 0⟩ B) = some (Flow.next, SharedT.abs (⟨T1 w.params, nat_lit 420, lf0, ⟨[]⟩, dr1, nat_lit 743, os⟩ : SharedT), cE, ⟨338, 0, 363, 111⟩) := by
  refine segRun_of ?_
  rw [PySem.W.Fast.te10110043849684766642, PySem.W.Fast.te14364793385576792824]
  exact congrFun (pc0' w) os
def H1 (P : Params) : Heap := ⟨⟨[boot_o_0 P, boot_o_1 P, boot_o_2 P, o4 P, boot_o_4 P, boot_o_5 P, boot_o_6 P, boot_o_7 P, boot_o_8 P, boot_o_9 P, boot_o_10 P, o0 P, o5 P, o2 P, o3 P, o0 P, o1 P, o6 P, o0 P, o7 P, o8 P, o9 P, o10 P, o11 P, o12 P, o0 P, o1 P, o13 P, o14 P, o0 P, o15 P, o16 P, o17 P, o18 P, o19 P, o20 P, o11 P, o21 P, o0 P, o1 P, o22 P, o23 P, o0 P, o24 P, o25 P, o26 P, o27 P, o20 P, o11 P, o28 P, o0 P, o1 P, o29 P, o30 P, o0 P, o31 P, o32 P, o33 P, o34 P, o20 P, o11 P, o35 P, o0 P, o1 P, o36 P, o37 P, o0 P, o38 P, o39 P, o40 P, o41 P, o20 P, o11 P, o42 P, o0 P, o1 P, o43 P, o44 P, o0 P, o45 P, o46 P, o47 P, o48 P, o20 P, o11 P, o49 P, o0 P, o1 P, o50 P, o51 P, o0 P, o52 P, o53 P, o54 P, o55 P, o56 P, o0 P, o1 P, o57 P, o0 P, o58 P, o59 P, o60 P, o0 P, o1 P, o61 P, o0 P, o62 P, o63 P, o64 P, o0 P, o1 P, o65 P, o0 P, o66 P, o67 P, o68 P, o0 P, o1 P, o69 P, o0 P, o70 P, o71 P, o72 P, o0 P, o1 P, o73 P, o0 P, o74 P, o75 P, o76 P, o77 P, o0 P, o1 P, o78 P, o0 P, o79 P, o80 P, o81 P, o0 P, o1 P, o82 P, o0 P, o83 P, o84 P, o85 P, o0 P, o1 P, o86 P, o0 P, o87 P, o88 P, o89 P, o0 P, o1 P, o90 P, o0 P, o91 P, o92 P, o93 P, o0 P, o1 P, o94 P, o0 P, o95 P, o96 P, o97 P, o0 P, o1 P, o98 P, o99 P, o100 P, o101 P, o102 P, o103 P, o0 P, o1 P, o104 P, o0 P, o105 P, o106 P, o107 P, o0 P, o1 P, o108 P, o0 P, o109 P, o110 P, o111 P, o0 P, o1 P, o112 P, o0 P, o113 P, o114 P, o115 P, o0 P, o1 P, o116 P, o0 P, o117 P, o118 P, o119 P, o0 P, o1 P, o120 P, o0 P, o121 P, o122 P, o123 P, o0 P, o1 P, o124 P, o0 P, o125 P, o126 P, o127 P, o0 P, o11 P, o128 P, o0 P, o129 P, o130 P, o131 P, o132 P, o0 P, o1 P, o133 P, o134 P, o135 P, o0 P, o1 P, o136 P, o137 P, o138 P, o0 P, o1 P, o139 P, o0 P, o140 P, o141 P, o142 P, o0 P, o1 P, o143 P, o144 P, o145 P, o0 P, o1 P, o146 P, o0 P, o147 P, o148 P, o149 P, o0 P, o1 P, o150 P, o151 P, o152 P, o0 P, o1 P, o153 P, o154 P, o155 P, o0 P, o1 P, o156 P, o0 P, o157 P, o158 P, o159 P, o160 P, o161 P, o162 P, o163 P, o164 P, o165 P, o166 P, o0 P, o1 P, o167 P, o0 P, o168 P, o169 P, o170 P, o0 P, o1 P, o171 P, o0 P, o172 P, o173 P, o174 P, o0 P, o1 P, o175 P, o0 P, o176 P, o177 P, o178 P, o0 P, o1 P, o179 P, o0 P, o180 P, o181 P, o182 P, o0 P, o1 P, o183 P, o0 P, o184 P, o185 P, o186 P, o0 P, o1 P, o187 P, o0 P, o188 P, o189 P, o190 P, o0 P, o1 P, o191 P, o0 P, o192 P, o193 P, o194 P, o0 P, o1 P, o195 P, o0 P, o196 P, o197 P, o198 P, o0 P, o1 P, o199 P, o0 P, o200 P, o201 P, o202 P, o0 P, o1 P, o203 P, o0 P, o204 P, o205 P, o206 P, o0 P, o1 P, o207 P, o208 P, o209 P, o0 P, o1 P, o210 P, o0 P, o211 P, o212 P, o213 P, o0 P, o1 P, o214 P, o215 P, o216 P, o0 P, o1 P, o217 P, o0 P, o218 P, o219 P, o220 P, o0 P, o1 P, o221 P, o0 P, o222 P, o223 P, o224 P, o0 P, o1 P, o225 P, o226 P, o227 P, o0 P, o1 P, o228 P, o229 P, o230 P, o0 P, o1 P, o231 P, o0 P, o232 P, o233 P, o234 P, o0 P, o1 P, o235 P, o0 P, o236 P, o237 P, o238 P, o0 P, o1 P, o239 P, o0 P, o240 P, o241 P, o242 P, o0 P, o1 P, o243 P, o244 P, o245 P, o0 P, o1 P, o246 P, o247 P, o248 P]⟩, lf0⟩
theorem fin' (w : World) : (fun os => PySem.W.Fast.tw14082659384304107361 PySem.W.Fast.tw14364793385576792824 p w m0 ann (nat_lit 2) (SharedT.abs (⟨T1 w.params, nat_lit 420, lf0, ⟨[]⟩, dr1, nat_lit 743, os⟩ : SharedT)) (Thread.mk (PySem.W.doneF Flow.next) cE ⟨338, 0, 363, 111⟩ B)) = fun os => some (⟨H1 w.params, ⟨[]⟩, dr1, nat_lit 743, os⟩ : Shared) := by kernel_rfl
theorem fin (w : World) (os : OsState) : topRun treeTable p w m0 ann (nat_lit 2) (SharedT.abs (⟨T1 w.params, nat_lit 420, lf0, ⟨[]⟩, dr1, nat_lit 743, os⟩ : SharedT)) (Thread.mk (doneF Flow.next) cE ⟨338, 0, 363, 111⟩ B) = some (⟨H1 w.params, ⟨[]⟩, dr1, nat_lit 743, os⟩ : Shared) := by
  rw [PySem.W.Fast.te14082659384304107361, PySem.W.Fast.te14364793385576792824]
  exact congrFun (fin' w) os
def as : List Addr := [2, 3, 15, 17, 18, 20, 21, 22, 29, 30, 31, 32, 35, 42, 43, 44, 47, 54, 55, 56, 59, 66, 67, 68, 71, 78, 79, 80, 83, 90, 91, 92, 95, 96, 98, 99, 101, 102, 103, 105, 106, 108, 109, 110, 112, 113, 115, 116, 117, 119, 120, 122, 123, 124, 126, 127, 129, 130, 131, 132, 134, 135, 137, 138, 139, 141, 142, 144, 145, 146, 148, 149, 151, 152, 153, 155, 156, 158, 159, 160, 162, 163, 165, 166, 167, 170, 171, 172, 173, 174, 175, 177, 178, 180, 181, 182, 184, 185, 187, 188, 189, 191, 192, 194, 195, 196, 198, 199, 201, 202, 203, 205, 206, 208, 209, 210, 212, 213, 215, 216, 224, 225, 228, 229, 230, 233, 234, 235, 237, 238, 240, 241, 242, 245, 246, 247, 249, 250, 252, 253, 254, 257, 258, 259, 262, 263, 264, 266, 267, 269, 270, 271, 272, 273, 274, 275, 278, 280, 281, 283, 284, 285, 287, 288, 290, 291, 292, 294, 295, 297, 298, 299, 301, 302, 304, 305, 306, 308, 309, 311, 312, 313, 315, 316, 318, 319, 320, 322, 323, 325, 326, 327, 329, 330, 332, 333, 334, 336, 337, 339, 340, 341, 343, 344, 346, 347, 348, 351, 352, 353, 355, 356, 358, 359, 360, 363, 364, 365, 367, 368, 370, 371, 372, 374, 375, 377, 378, 379, 382, 383, 384, 387, 388, 389, 391, 392, 394, 395, 396, 398, 399, 401, 402, 403, 405, 406, 408, 409, 410, 413, 414, 415, 418, 419]
def K (P : Params) : Frag := [(2, boot_o_2 P), (3, o4 P), (15, o0 P), (17, o6 P), (18, o0 P), (20, o8 P), (21, o9 P), (22, o10 P), (29, o0 P), (30, o15 P), (31, o16 P), (32, o17 P), (35, o20 P), (42, o0 P), (43, o24 P), (44, o25 P), (47, o20 P), (54, o0 P), (55, o31 P), (56, o32 P), (59, o20 P), (66, o0 P), (67, o38 P), (68, o39 P), (71, o20 P), (78, o0 P), (79, o45 P), (80, o46 P), (83, o20 P), (90, o0 P), (91, o52 P), (92, o53 P), (95, o56 P), (96, o0 P), (98, o57 P), (99, o0 P), (101, o59 P), (102, o60 P), (103, o0 P), (105, o61 P), (106, o0 P), (108, o63 P), (109, o64 P), (110, o0 P), (112, o65 P), (113, o0 P), (115, o67 P), (116, o68 P), (117, o0 P), (119, o69 P), (120, o0 P), (122, o71 P), (123, o72 P), (124, o0 P), (126, o73 P), (127, o0 P), (129, o75 P), (130, o76 P), (131, o77 P), (132, o0 P), (134, o78 P), (135, o0 P), (137, o80 P), (138, o81 P), (139, o0 P), (141, o82 P), (142, o0 P), (144, o84 P), (145, o85 P), (146, o0 P), (148, o86 P), (149, o0 P), (151, o88 P), (152, o89 P), (153, o0 P), (155, o90 P), (156, o0 P), (158, o92 P), (159, o93 P), (160, o0 P), (162, o94 P), (163, o0 P), (165, o96 P), (166, o97 P), (167, o0 P), (170, o99 P), (171, o100 P), (172, o101 P), (173, o102 P), (174, o103 P), (175, o0 P), (177, o104 P), (178, o0 P), (180, o106 P), (181, o107 P), (182, o0 P), (184, o108 P), (185, o0 P), (187, o110 P), (188, o111 P), (189, o0 P), (191, o112 P), (192, o0 P), (194, o114 P), (195, o115 P), (196, o0 P), (198, o116 P), (199, o0 P), (201, o118 P), (202, o119 P), (203, o0 P), (205, o120 P), (206, o0 P), (208, o122 P), (209, o123 P), (210, o0 P), (212, o124 P), (213, o0 P), (215, o126 P), (216, o127 P), (224, o132 P), (225, o0 P), (228, o134 P), (229, o135 P), (230, o0 P), (233, o137 P), (234, o138 P), (235, o0 P), (237, o139 P), (238, o0 P), (240, o141 P), (241, o142 P), (242, o0 P), (245, o144 P), (246, o145 P), (247, o0 P), (249, o146 P), (250, o0 P), (252, o148 P), (253, o149 P), (254, o0 P), (257, o151 P), (258, o152 P), (259, o0 P), (262, o154 P), (263, o155 P), (264, o0 P), (266, o156 P), (267, o0 P), (269, o158 P), (270, o159 P), (271, o160 P), (272, o161 P), (273, o162 P), (274, o163 P), (275, o164 P), (278, o0 P), (280, o167 P), (281, o0 P), (283, o169 P), (284, o170 P), (285, o0 P), (287, o171 P), (288, o0 P), (290, o173 P), (291, o174 P), (292, o0 P), (294, o175 P), (295, o0 P), (297, o177 P), (298, o178 P), (299, o0 P), (301, o179 P), (302, o0 P), (304, o181 P), (305, o182 P), (306, o0 P), (308, o183 P), (309, o0 P), (311, o185 P), (312, o186 P), (313, o0 P), (315, o187 P), (316, o0 P), (318, o189 P), (319, o190 P), (320, o0 P), (322, o191 P), (323, o0 P), (325, o193 P), (326, o194 P), (327, o0 P), (329, o195 P), (330, o0 P), (332, o197 P), (333, o198 P), (334, o0 P), (336, o199 P), (337, o0 P), (339, o201 P), (340, o202 P), (341, o0 P), (343, o203 P), (344, o0 P), (346, o205 P), (347, o206 P), (348, o0 P), (351, o208 P), (352, o209 P), (353, o0 P), (355, o210 P), (356, o0 P), (358, o212 P), (359, o213 P), (360, o0 P), (363, o215 P), (364, o216 P), (365, o0 P), (367, o217 P), (368, o0 P), (370, o219 P), (371, o220 P), (372, o0 P), (374, o221 P), (375, o0 P), (377, o223 P), (378, o224 P), (379, o0 P), (382, o226 P), (383, o227 P), (384, o0 P), (387, o229 P), (388, o230 P), (389, o0 P), (391, o231 P), (392, o0 P), (394, o233 P), (395, o234 P), (396, o0 P), (398, o235 P), (399, o0 P), (401, o237 P), (402, o238 P), (403, o0 P), (405, o239 P), (406, o0 P), (408, o241 P), (409, o242 P), (410, o0 P), (413, o244 P), (414, o245 P), (415, o0 P), (418, o247 P), (419, o248 P)]
theorem asK (P : Params) : as = (K P).map (·.1) := by kernel_rfl
theorem at_ {w : World} {n N : Nat} {s s' r : Shared} {i k : Nat} {pos p' : Pos} (h : segRun treeTable p w m0 ann 1 n s (piecesOf ((b.drop i).take k) env cE pos B) = some (.next, s', cE, p')) (g : topRun treeTable p w m0 ann N s' (restOf (b.drop (i + k)) env cE p' B) = some r) : topRun treeTable p w m0 ann (n + N) s (restOf (b.drop i) env cE pos B) = some r := by
  have z := piece_app h g
  rwa [← List.drop_drop, List.take_append_drop] at z
theorem bend : b.drop 59 = [] := by kernel_rfl
theorem run (w : World) (os : OsState) : topRun treeTable p w m0 ann (12 + (1 + (3021 + 2))) (⟨boot_heap w.params, ⟨[]⟩, boot_drawn, boot_toks, os⟩ : Shared) (topStub p) = some (⟨H1 w.params, ⟨[]⟩, dr1, nat_lit 743, os⟩ : Shared) := go_top (pre w os) (piece_block (blk w os) (show topRun treeTable p w m0 ann _ _ (restOf (b.drop 0) env cE _ B) = _ from (at_ (i := 0) (k := 59) (pc0 w os) (by rw [show b.drop 59 = [] from bend]; exact piece_nil (fin w os)))))
theorem size (w : World) : ((boot_heap w.params).isNs mainGlobals && (⟨[]⟩ : Array GenState).size == 0, (boot_heap w.params).objs.size, (boot_heap w.params).nsMap mainGlobals "__annotations__") = (true, m0, ann) := by kernel_rfl
def qv : Program := view p [58]
def loose : List Str := [Str.ofString "_wall", Str.ofString "YardError", Str.ofString "NoLength", Str.ofString "NoDeed", Str.ofString "NoName", Str.ofString "Grain", Str.ofString "Unfit", Str.ofString "NOUGHT", Str.ofString "GREAT_BITS", Str.ofString "HEAD_BITS", Str.ofString "is_whole", Str.ofString "common_divisor", Str.ofString "far_rests", Str.ofString "sure_steps", Str.ofString "with_sign_of", Str.ofString "length", Str.ofString "added", Str.ofString "taken", Str.ofString "is_above_nought", Str.ofString "under", Str.ofString "is_length", Str.ofString "CUTS", Str.ofString "GLUINGS", Str.ofString "SHIFTS", Str.ofString "TURN", Str.ofString "is_deed", Str.ofString "names_taken", Str.ofString "turned", Str.ofString "cut_across", Str.ofString "glued_beside", Str.ofString "stacked", Str.ofString "Yard", Str.ofString "_law_cell", Str.ofString "_law_whole", Str.ofString "_law_great", Str.ofString "_law_digits", Str.ofString "_law_divisor", Str.ofString "_law_lowest", Str.ofString "_law_sign", Str.ofString "_law_plus", Str.ofString "_law_share", Str.ofString "_law_below", Str.ofString "_law_root", Str.ofString "_law_side", Str.ofString "_law_heap", Str.ofString "_law_new", Str.ofString "_law_at", Str.ofString "_law_deed", Str.ofString "_law_done", Str.ofString "_law_begin", Str.ofString "_law_is_length", Str.ofString "_law_is_heap", Str.ofString "_law_right"]
def Xt (s : Shared) : Bool := xlAt qv [] s && recOk [] s
def Yf (s : Shared) : List (Option Obj) := as.map s.heap.get?
def Ya (w : World) : List (Option Obj) := (K w.params).map fun p => some p.2
theorem looks1 (w : World) : (fun os : OsState => (staticsOk (importedModules p.main.body) (boot_heap w.params) (H1 w.params) && namesBound p (H1 w.params) && gensDone (⟨H1 w.params, ⟨[]⟩, dr1, nat_lit 743, os⟩ : Shared) && laidKept (boot_heap w.params) (H1 w.params))) = fun _ => true := by kernel_rfl
theorem looks2 (w : World) : (fun os : OsState => openSeen qv loose (importedModules p.main.body) Xt true (⟨H1 w.params, ⟨[]⟩, dr1, nat_lit 743, os⟩ : Shared)) = fun _ => openGood qv loose := by kernel_rfl
theorem looks3 (w : World) : (fun os : OsState => Yf (⟨H1 w.params, ⟨[]⟩, dr1, nat_lit 743, os⟩ : Shared)) = fun _ => Ya w := by kernel_rfl
theorem left : LeftO p qv loose Xt Yf Ya 6166 := by
  refine LeftO.of_pieces (H₀ := boot_heap) (H₁ := H1) (gs₀ := ⟨[]⟩) (gs₁ := ⟨[]⟩) (d₀ := boot_drawn) (d₁ := dr1) (k₀ := boot_toks) (k₁ := nat_lit 743) (m₀ := m0) (ann := ann) (M := (12 + (1 + (3021 + 2)))) (boot_open (by kernel_rfl) (by decide) (fun s => by kernel_rfl)) size run (by decide) (fun w => funext fun os => ?_)
  exact looks_pair (congrFun (looks1 w) os) (looks_pair (congrFun (looks2 w) os) (congrFun (looks3 w) os))
end Hd
end
noncomputable section
namespace Hd
open PySem PySem.W PySem.Calls PyProof.Rows
abbrev pm0 : Value := (.str "boardglue.lengths" 294)
abbrev pm1 : Value := (.str "boardglue.yard" 412)
abbrev pm2 : Value := (.str "law_boardglue_k31_deeds_one_by_one" 552)
abbrev pm3 : Value := (.str "boardglue.boards" 404)
def cs : Bk.Cs := ⟨31, 44, 56, 68, 80, 92, 273⟩
section
variable {w : World} {mg : Str → Option Value} {h : Heap} (KX : (K w.params).In h) (G : h.Ns mainGlobals mg)
include KX G
theorem tp {x : Str} {st : Stmt} (f cd : Addr) (pm : Value) (a : nsIn (K w.params) mainGlobals x = some (some (.ref f))) (l : (K w.params).lookup f = some ⟨.type "function", none, .func (fnOf x x (L2.defArgs st) (L2.defBody st) (L2.defScope st) .none .none .none pm none (.ref cd) .none), #[]⟩) (c : codeIn (K w.params) (.ref cd) x = true) (k : keepIn (K w.params) (.ref f) = true) : L2.Top (K w.params) mg x st := L2.top_mk KX G a l c k
theorem tm {C : Addr} {m q : Str} {st : Stmt} (f cd : Addr) (pm : Value) (l : (K w.params).lookup f = some ⟨.type "function", none, .func (fnOf m q (L2.defArgs st) (L2.defBody st) (L2.defScope st) .none .none .none pm none (.ref cd) .none), #[]⟩) (c : codeIn (K w.params) (.ref cd) q = true) (k : keepIn (K w.params) (.ref f) = true) (a : findIn (K w.params) (.ref C) m = some (some (.ref f))) (n : isFn (K w.params) (.ref f) = true) : L2.TopM (K w.params) C m q st := L2.topM_mk l c k a n
theorem bl  : Bk.Bl mg := ⟨mg_none_of KX G (by kernel_rfl), mg_none_of KX G (by kernel_rfl), mg_none_of KX G (by kernel_rfl), mg_none_of KX G (by kernel_rfl), mg_none_of KX G (by kernel_rfl), mg_none_of KX G (by kernel_rfl), mg_none_of KX G (by kernel_rfl), mg_none_of KX G (by kernel_rfl), mg_none_of KX G (by kernel_rfl), mg_none_of KX G (by kernel_rfl), mg_none_of KX G (by kernel_rfl), mg_none_of KX G (by kernel_rfl), mg_none_of KX G (by kernel_rfl), mg_none_of KX G (by kernel_rfl)⟩
theorem t_is_whole : L2.Top (K w.params) mg "is_whole" Bk.s_is_whole := tp KX G 102 101 pm0 (by kernel_rfl) (by kernel_rfl) (by kernel_rfl) (by kernel_rfl)
theorem t_common_divisor : L2.Top (K w.params) mg "common_divisor" Bk.s_common_divisor := tp KX G 109 108 pm0 (by kernel_rfl) (by kernel_rfl) (by kernel_rfl) (by kernel_rfl)
theorem t_with_sign_of : L2.Top (K w.params) mg "with_sign_of" Bk.s_with_sign_of := tp KX G 130 129 pm0 (by kernel_rfl) (by kernel_rfl) (by kernel_rfl) (by kernel_rfl)
theorem t_is_above_nought : L2.Top (K w.params) mg "is_above_nought" Bk.s_is_above_nought := tp KX G 159 158 pm0 (by kernel_rfl) (by kernel_rfl) (by kernel_rfl) (by kernel_rfl)
theorem t_names_taken : L2.Top (K w.params) mg "names_taken" Bk.s_names_taken := tp KX G 188 187 pm1 (by kernel_rfl) (by kernel_rfl) (by kernel_rfl) (by kernel_rfl)
theorem t_turned : L2.Top (K w.params) mg "turned" Bk.s_turned := tp KX G 195 194 pm1 (by kernel_rfl) (by kernel_rfl) (by kernel_rfl) (by kernel_rfl)
theorem t__law_cell : L2.Top (K w.params) mg "_law_cell" Bk.s__law_cell := tp KX G 284 283 pm2 (by kernel_rfl) (by kernel_rfl) (by kernel_rfl) (by kernel_rfl)
theorem t__law_whole : L2.Top (K w.params) mg "_law_whole" Bk.s__law_whole := tp KX G 291 290 pm2 (by kernel_rfl) (by kernel_rfl) (by kernel_rfl) (by kernel_rfl)
theorem t__law_great : L2.Top (K w.params) mg "_law_great" Bk.s__law_great := tp KX G 298 297 pm2 (by kernel_rfl) (by kernel_rfl) (by kernel_rfl) (by kernel_rfl)
theorem t__law_divisor : L2.Top (K w.params) mg "_law_divisor" Bk.s__law_divisor := tp KX G 312 311 pm2 (by kernel_rfl) (by kernel_rfl) (by kernel_rfl) (by kernel_rfl)
theorem t__law_sign : L2.Top (K w.params) mg "_law_sign" Bk.s__law_sign := tp KX G 326 325 pm2 (by kernel_rfl) (by kernel_rfl) (by kernel_rfl) (by kernel_rfl)
theorem t__law_begin : L2.Top (K w.params) mg "_law_begin" Bk.s__law_begin := tp KX G 395 394 pm2 (by kernel_rfl) (by kernel_rfl) (by kernel_rfl) (by kernel_rfl)
theorem t_Yard___init__  : L2.TopIn (K w.params) mg 273 "Yard" "Yard.__init__" Bk.s_Yard___init__ [(.bool false)] := L2.topIn_mk (f := 229) (T := 224) (its := [(.bool false)]) (n := 0) (to := o132 w.params) (oc := (.type "function")) (od := none) (osl := #[]) (kV := .none) (doc := .none) (pm := (.str "boardglue.yard" 412)) (an := none) (cdv := (.ref 228)) (ct := .none) KX G (by kernel_rfl) (by kernel_rfl) (by kernel_rfl) (by kernel_rfl) rfl (by kernel_rfl) (by kernel_rfl) (by kernel_rfl) (by kernel_rfl) (by kernel_rfl)
theorem t_Yard_boards : L2.TopM (K w.params) 273 "boards" "Yard.boards" Bk.s_Yard_boards := tm KX G 258 257 pm1 (by kernel_rfl) (by kernel_rfl) (by kernel_rfl) (by kernel_rfl) (by kernel_rfl)
theorem t_Yard_heap : L2.TopM (K w.params) 273 "heap" "Yard.heap" Bk.s_Yard_heap := tm KX G 263 262 pm1 (by kernel_rfl) (by kernel_rfl) (by kernel_rfl) (by kernel_rfl) (by kernel_rfl)
theorem t_Yard_log : L2.TopM (K w.params) 273 "log" "Yard.log" Bk.s_Yard_log := tm KX G 270 269 pm1 (by kernel_rfl) (by kernel_rfl) (by kernel_rfl) (by kernel_rfl) (by kernel_rfl)
theorem t_length  : L2.TopD (K w.params) mg "length" Bk.s_length [(.int (0) 352), (.int (1) 353)] := L2.topD_mk (f := 138) (T := 131) (its := [(.int (0) 352), (.int (1) 353)]) (n := 0) (to := o77 w.params) (oc := (.type "function")) (od := none) (osl := #[]) (kV := .none) (doc := .none) (pm := (.str "boardglue.lengths" 294)) (an := none) (cdv := (.ref 137)) (ct := .none) KX G (by kernel_rfl) (by kernel_rfl) (by kernel_rfl) (by kernel_rfl) (by kernel_rfl) rfl
theorem t_added : L2.Top (K w.params) mg "added" Bk.s_added := tp KX G 145 144 pm0 (by kernel_rfl) (by kernel_rfl) (by kernel_rfl) (by kernel_rfl)
theorem t_under : L2.Top (K w.params) mg "under" Bk.s_under := tp KX G 166 165 pm0 (by kernel_rfl) (by kernel_rfl) (by kernel_rfl) (by kernel_rfl)
theorem t__law_digits : L2.Top (K w.params) mg "_law_digits" Bk.s__law_digits := tp KX G 305 304 pm2 (by kernel_rfl) (by kernel_rfl) (by kernel_rfl) (by kernel_rfl)
theorem t__law_lowest : L2.Top (K w.params) mg "_law_lowest" Bk.s__law_lowest := tp KX G 319 318 pm2 (by kernel_rfl) (by kernel_rfl) (by kernel_rfl) (by kernel_rfl)
theorem t__law_root : L2.Top (K w.params) mg "_law_root" Bk.s__law_root := tp KX G 352 351 pm2 (by kernel_rfl) (by kernel_rfl) (by kernel_rfl) (by kernel_rfl)
theorem t__law_is_length : L2.Top (K w.params) mg "_law_is_length" Bk.s__law_is_length := tp KX G 402 401 pm2 (by kernel_rfl) (by kernel_rfl) (by kernel_rfl) (by kernel_rfl)
theorem t_Yard_check_names : L2.TopM (K w.params) 273 "check_names" "Yard.check_names" Bk.s_Yard_check_names := tm KX G 241 240 pm1 (by kernel_rfl) (by kernel_rfl) (by kernel_rfl) (by kernel_rfl) (by kernel_rfl)
theorem t_taken : L2.Top (K w.params) mg "taken" Bk.s_taken := tp KX G 152 151 pm0 (by kernel_rfl) (by kernel_rfl) (by kernel_rfl) (by kernel_rfl)
theorem t_is_length : L2.Top (K w.params) mg "is_length" Bk.s_is_length := tp KX G 171 170 pm3 (by kernel_rfl) (by kernel_rfl) (by kernel_rfl) (by kernel_rfl)
theorem t_glued_beside : L2.Top (K w.params) mg "glued_beside" Bk.s_glued_beside := tp KX G 209 208 pm1 (by kernel_rfl) (by kernel_rfl) (by kernel_rfl) (by kernel_rfl)
theorem t_stacked : L2.Top (K w.params) mg "stacked" Bk.s_stacked := tp KX G 216 215 pm1 (by kernel_rfl) (by kernel_rfl) (by kernel_rfl) (by kernel_rfl)
theorem t__law_plus : L2.Top (K w.params) mg "_law_plus" Bk.s__law_plus := tp KX G 333 332 pm2 (by kernel_rfl) (by kernel_rfl) (by kernel_rfl) (by kernel_rfl)
theorem t__law_share : L2.Top (K w.params) mg "_law_share" Bk.s__law_share := tp KX G 340 339 pm2 (by kernel_rfl) (by kernel_rfl) (by kernel_rfl) (by kernel_rfl)
theorem t__law_side : L2.Top (K w.params) mg "_law_side" Bk.s__law_side := tp KX G 359 358 pm2 (by kernel_rfl) (by kernel_rfl) (by kernel_rfl) (by kernel_rfl)
theorem t__law_is_heap : L2.Top (K w.params) mg "_law_is_heap" Bk.s__law_is_heap := tp KX G 409 408 pm2 (by kernel_rfl) (by kernel_rfl) (by kernel_rfl) (by kernel_rfl)
theorem t_is_deed : L2.Top (K w.params) mg "is_deed" Bk.s_is_deed := tp KX G 181 180 pm1 (by kernel_rfl) (by kernel_rfl) (by kernel_rfl) (by kernel_rfl)
theorem t_cut_across : L2.Top (K w.params) mg "cut_across" Bk.s_cut_across := tp KX G 202 201 pm1 (by kernel_rfl) (by kernel_rfl) (by kernel_rfl) (by kernel_rfl)
theorem t__law_below : L2.Top (K w.params) mg "_law_below" Bk.s__law_below := tp KX G 347 346 pm2 (by kernel_rfl) (by kernel_rfl) (by kernel_rfl) (by kernel_rfl)
theorem t__law_heap : L2.Top (K w.params) mg "_law_heap" Bk.s__law_heap := tp KX G 364 363 pm2 (by kernel_rfl) (by kernel_rfl) (by kernel_rfl) (by kernel_rfl)
theorem t__law_new : L2.Top (K w.params) mg "_law_new" Bk.s__law_new := tp KX G 371 370 pm2 (by kernel_rfl) (by kernel_rfl) (by kernel_rfl) (by kernel_rfl)
theorem t__law_right : L2.Top (K w.params) mg "_law_right" Bk.s__law_right := tp KX G 414 413 pm2 (by kernel_rfl) (by kernel_rfl) (by kernel_rfl) (by kernel_rfl)
theorem t__law_at : L2.Top (K w.params) mg "_law_at" Bk.s__law_at := tp KX G 378 377 pm2 (by kernel_rfl) (by kernel_rfl) (by kernel_rfl) (by kernel_rfl)
theorem t__law_done : L2.Top (K w.params) mg "_law_done" Bk.s__law_done := tp KX G 388 387 pm2 (by kernel_rfl) (by kernel_rfl) (by kernel_rfl) (by kernel_rfl)
theorem t_Yard_put_by : L2.TopM (K w.params) 273 "put_by" "Yard.put_by" Bk.s_Yard_put_by := tm KX G 246 245 pm1 (by kernel_rfl) (by kernel_rfl) (by kernel_rfl) (by kernel_rfl) (by kernel_rfl)
theorem t__law_deed : L2.Top (K w.params) mg "_law_deed" Bk.s__law_deed := tp KX G 383 382 pm2 (by kernel_rfl) (by kernel_rfl) (by kernel_rfl) (by kernel_rfl)
theorem t_Yard_do : L2.TopM (K w.params) 273 "do" "Yard.do" Bk.s_Yard_do := tm KX G 234 233 pm1 (by kernel_rfl) (by kernel_rfl) (by kernel_rfl) (by kernel_rfl) (by kernel_rfl)
theorem t_law : L2.Top (K w.params) mg "law" Bk.s_law := tp KX G 419 418 pm2 (by kernel_rfl) (by kernel_rfl) (by kernel_rfl) (by kernel_rfl)
theorem g_NOUGHT  : L2.TopT (K w.params) mg "NOUGHT" [.int 0, .int 0, .int 1] := L2.topT_mk (a := 95) (o := o56 w.params) (its := #[(.int (0) 296), (.int (0) 297), (.int (1) 298)]) (n := 0) KX G (by kernel_rfl) (by kernel_rfl) rfl rfl (by decide) (.cons ⟨_, rfl⟩ (.cons ⟨_, rfl⟩ (.cons ⟨_, rfl⟩ .nil)))
theorem g_GREAT_BITS  : L2.TopI mg "GREAT_BITS" (8192) := L2.topI_mk (t := 300) KX G (by kernel_rfl)
theorem g_CUTS  : L2.TopT (K w.params) mg "CUTS" [.str "across", .str "along"] := L2.topT_mk (a := 172) (o := o101 w.params) (its := #[(.str "across" 414), (.str "along" 415)]) (n := 0) KX G (by kernel_rfl) (by kernel_rfl) rfl rfl (by decide) (.cons ⟨_, rfl⟩ (.cons ⟨_, rfl⟩ .nil))
theorem g_GLUINGS  : L2.TopT (K w.params) mg "GLUINGS" [.str "beside", .str "atop"] := L2.topT_mk (a := 173) (o := o102 w.params) (its := #[(.str "beside" 417), (.str "atop" 418)]) (n := 0) KX G (by kernel_rfl) (by kernel_rfl) rfl rfl (by decide) (.cons ⟨_, rfl⟩ (.cons ⟨_, rfl⟩ .nil))
theorem g_SHIFTS  : L2.TopT (K w.params) mg "SHIFTS" [.str "stack", .str "spread"] := L2.topT_mk (a := 174) (o := o103 w.params) (its := #[(.str "stack" 420), (.str "spread" 421)]) (n := 0) KX G (by kernel_rfl) (by kernel_rfl) rfl rfl (by decide) (.cons ⟨_, rfl⟩ (.cons ⟨_, rfl⟩ .nil))
theorem g_TURN  : L2.TopS mg "TURN" (Str.ofString "turn") := L2.topS_mk (t := 423) KX G (by kernel_rfl)
theorem xs  : Bk.Xs (K w.params) mg cs := ⟨(mg_of KX G (by kernel_rfl)), (mg_of KX G (by kernel_rfl)), (mg_of KX G (by kernel_rfl)), (mg_of KX G (by kernel_rfl)), (mg_of KX G (by kernel_rfl)), (mg_of KX G (by kernel_rfl)), (mg_of KX G (by kernel_rfl)), ⟨(by kernel_rfl), (by kernel_rfl), (by kernel_rfl), (by kernel_rfl)⟩, (by unfold L2.NoAttr; kernel_rfl), (by unfold L2.NoAttr; kernel_rfl), (by unfold L2.NoAttr; kernel_rfl), (by unfold L2.NoAttr; kernel_rfl), (by unfold L2.NoAttr; kernel_rfl)⟩
end
end Hd
end
open PySem PySem.W PyProof.Rows
set_option maxRecDepth 100000 in
set_option maxHeartbeats 0 in
theorem PySem.Challenge.cw_boardglue_k31_deeds_one_by_one_holds : PySem.Challenge.rw_boardglue_k31_deeds_one_by_one.Holds := by
  w_on; o_law
  rename_i said
  refine holds_open (r := PySem.Challenge.rw_boardglue_k31_deeds_one_by_one.row) (q := Hd.qv) (loose := Hd.loose) (Xt := Hd.Xt) (XP := XL Hd.qv []) (Yf := Hd.Yf) (Ya := Hd.Ya) (YP := InK Hd.K) (N := 6166) Hd.left (InK.of Hd.asK) InK.keeps (fun s e => xl_of s (Bool.and_eq_true_iff.mp e).1) XL.keeps (by rfl) (by rfl) (by rfl) (fun s e => recFacts_of (Bool.and_eq_true_iff.mp e).2) (by rfl) said (by decide +kernel) ⟨rfl, rfl, rfl, rfl, rfl, by decide +kernel⟩ ?hw ?hc
  case hw => w_witness2
  refine L2.walk_B (l := PySem.Challenge.rw_boardglue_k31_deeds_one_by_one) (k := 7) (x := "_law_script") rfl rfl ⟨rfl, by decide, by decide⟩ (fun w h Y => Y) ?F
  case F =>
    intro w mg fa h KX G hmg
    have B : Bk.Bl mg := Hd.bl KX G
    have T_is_whole := Hd.t_is_whole KX G
    have T_common_divisor := Hd.t_common_divisor KX G
    have T_with_sign_of := Hd.t_with_sign_of KX G
    have T_is_above_nought := Hd.t_is_above_nought KX G
    have T_names_taken := Hd.t_names_taken KX G
    have T_turned := Hd.t_turned KX G
    have T__law_cell := Hd.t__law_cell KX G
    have T__law_whole := Hd.t__law_whole KX G
    have T__law_great := Hd.t__law_great KX G
    have T__law_divisor := Hd.t__law_divisor KX G
    have T__law_sign := Hd.t__law_sign KX G
    have T__law_begin := Hd.t__law_begin KX G
    have T_Yard___init__ := Hd.t_Yard___init__ KX G
    have T_Yard_boards := Hd.t_Yard_boards KX G
    have T_Yard_heap := Hd.t_Yard_heap KX G
    have T_Yard_log := Hd.t_Yard_log KX G
    have T_length := Hd.t_length KX G
    have T_added := Hd.t_added KX G
    have T_under := Hd.t_under KX G
    have T__law_digits := Hd.t__law_digits KX G
    have T__law_lowest := Hd.t__law_lowest KX G
    have T__law_root := Hd.t__law_root KX G
    have T__law_is_length := Hd.t__law_is_length KX G
    have T_Yard_check_names := Hd.t_Yard_check_names KX G
    have T_taken := Hd.t_taken KX G
    have T_is_length := Hd.t_is_length KX G
    have T_glued_beside := Hd.t_glued_beside KX G
    have T_stacked := Hd.t_stacked KX G
    have T__law_plus := Hd.t__law_plus KX G
    have T__law_share := Hd.t__law_share KX G
    have T__law_side := Hd.t__law_side KX G
    have T__law_is_heap := Hd.t__law_is_heap KX G
    have T_is_deed := Hd.t_is_deed KX G
    have T_cut_across := Hd.t_cut_across KX G
    have T__law_below := Hd.t__law_below KX G
    have T__law_heap := Hd.t__law_heap KX G
    have T__law_new := Hd.t__law_new KX G
    have T__law_right := Hd.t__law_right KX G
    have T__law_at := Hd.t__law_at KX G
    have T__law_done := Hd.t__law_done KX G
    have T_Yard_put_by := Hd.t_Yard_put_by KX G
    have T__law_deed := Hd.t__law_deed KX G
    have T_Yard_do := Hd.t_Yard_do KX G
    have T_law := Hd.t_law KX G
    have g_NOUGHT := Hd.g_NOUGHT KX G
    have g_GREAT_BITS := Hd.g_GREAT_BITS KX G
    have g_CUTS := Hd.g_CUTS KX G
    have g_GLUINGS := Hd.g_GLUINGS KX G
    have g_SHIFTS := Hd.g_SHIFTS KX G
    have g_TURN := Hd.g_TURN KX G
    have X := Hd.xs KX G
    refine L2.law_mk T_law hmg (fun _ _ _ _ _ _ _ => rfl) fun base f fd F => ?_
    have o_is_whole : L2.Own PySem.Challenge.pw_boardglue_k31_deeds_one_by_one w (Hd.K w.params) mg base 1 "is_whole" ["thing"] [] Bk.sp_is_whole := T_is_whole.own (fun _ _ _ _ _ _ us hl => match us, hl with | [_], _ => rfl) (fun f fd F => Bk.ok_is_whole F B )
    have o_common_divisor : L2.Own PySem.Challenge.pw_boardglue_k31_deeds_one_by_one w (Hd.K w.params) mg base 1 "common_divisor" ["one", "other"] [] Bk.sp_common_divisor := T_common_divisor.own (fun _ _ _ _ _ _ us hl => match us, hl with | [_, _], _ => rfl) (fun f fd F => Bk.ok_common_divisor F B g_GREAT_BITS)
    have o_with_sign_of : L2.Own PySem.Challenge.pw_boardglue_k31_deeds_one_by_one w (Hd.K w.params) mg base 1 "with_sign_of" ["divisor", "bottom"] [] Bk.sp_with_sign_of := T_with_sign_of.own (fun _ _ _ _ _ _ us hl => match us, hl with | [_, _], _ => rfl) (fun f fd F => Bk.ok_with_sign_of F B )
    have o_is_above_nought : L2.Own PySem.Challenge.pw_boardglue_k31_deeds_one_by_one w (Hd.K w.params) mg base 1 "is_above_nought" ["d", "a", "b"] [] Bk.sp_is_above_nought := T_is_above_nought.own (fun _ _ _ _ _ _ us hl => match us, hl with | [_, _, _], _ => rfl) (fun f fd F => Bk.ok_is_above_nought F B )
    have o_names_taken : L2.Own PySem.Challenge.pw_boardglue_k31_deeds_one_by_one w (Hd.K w.params) mg base 1 "names_taken" ["deed"] [] Bk.sp_names_taken := T_names_taken.own (fun _ _ _ _ _ _ us hl => match us, hl with | [_], _ => rfl) (fun f fd F => Bk.ok_names_taken F B g_GLUINGS)
    have o_turned : L2.Own PySem.Challenge.pw_boardglue_k31_deeds_one_by_one w (Hd.K w.params) mg base 1 "turned" ["one"] [] Bk.sp_turned := T_turned.own (fun _ _ _ _ _ _ us hl => match us, hl with | [_], _ => rfl) (fun f fd F => Bk.ok_turned F B )
    have o__law_cell : L2.Own PySem.Challenge.pw_boardglue_k31_deeds_one_by_one w (Hd.K w.params) mg base 1 "_law_cell" ["_law_script", "_law_k"] [] (Bk.sp__law_cell (Hd.K w.params)) := T__law_cell.own (fun _ _ _ _ _ _ us hl => match us, hl with | [_, _], _ => rfl) (fun f fd F => Bk.ok__law_cell F B )
    have o__law_whole : L2.Own PySem.Challenge.pw_boardglue_k31_deeds_one_by_one w (Hd.K w.params) mg base 1 "_law_whole" ["_law_found"] [] Bk.sp__law_whole := T__law_whole.own (fun _ _ _ _ _ _ us hl => match us, hl with | [_], _ => rfl) (fun f fd F => Bk.ok__law_whole F B )
    have o__law_great : L2.Own PySem.Challenge.pw_boardglue_k31_deeds_one_by_one w (Hd.K w.params) mg base 1 "_law_great" ["_law_cell_here", "_law_k"] [] Bk.sp__law_great := T__law_great.own (fun _ _ _ _ _ _ us hl => match us, hl with | [_, _], _ => rfl) (fun f fd F => Bk.ok__law_great F B )
    have o__law_divisor : L2.Own PySem.Challenge.pw_boardglue_k31_deeds_one_by_one w (Hd.K w.params) mg base 1 "_law_divisor" ["_law_one", "_law_other"] [] Bk.sp__law_divisor := T__law_divisor.own (fun _ _ _ _ _ _ us hl => match us, hl with | [_, _], _ => rfl) (fun f fd F => Bk.ok__law_divisor F B )
    have o__law_sign : L2.Own PySem.Challenge.pw_boardglue_k31_deeds_one_by_one w (Hd.K w.params) mg base 1 "_law_sign" ["_law_d", "_law_a", "_law_b"] [] Bk.sp__law_sign := T__law_sign.own (fun _ _ _ _ _ _ us hl => match us, hl with | [_, _, _], _ => rfl) (fun f fd F => Bk.ok__law_sign F B )
    have o__law_begin : L2.Own PySem.Challenge.pw_boardglue_k31_deeds_one_by_one w (Hd.K w.params) mg base 1 "_law_begin" ["_law_heap_here"] [] Bk.sp__law_begin := T__law_begin.own (fun _ _ _ _ _ _ us hl => match us, hl with | [_], _ => rfl) (fun f fd F => Bk.ok__law_begin F B )
    have o_Yard___init___3 : L2.OwnI PySem.Challenge.pw_boardglue_k31_deeds_one_by_one w (Hd.K w.params) mg base L2.CX0 Hd.cs.Yard 1 "Yard" ["self", "d", "heap", "turning"] [.bl false] (Bk.sp_Yard___init__ Hd.cs) := T_Yard___init__.own (ds := [.bool false]) (fun T _ _ _ _ _ _ us hl => by have hl' : us.length = 3 := (by simpa using hl); match us, hl' with | [_, _, _], _ => exact ⟨_, rfl, rfl⟩) (.cons rfl .nil) (fun f fd F => Bk.ok_Yard___init__ F B X)
    have o_Yard___init___3_k_turning : L2.OwnIK PySem.Challenge.pw_boardglue_k31_deeds_one_by_one w (Hd.K w.params) mg base L2.CX0 Hd.cs.Yard 1 "Yard" ["self", "d", "heap", "turning"] ["turning"] Bk.gV_Yard___init___3_k_turning (Bk.sp_Yard___init__ Hd.cs) := by
      refine T_Yard___init__.ownK (g := Bk.g_Yard___init___3_k_turning (.bool false)) (fun T _ _ _ _ _ _ us ws hl => ?_) (fun {vs us zs ws} r r' => ?_) (fun f fd F => Bk.ok_Yard___init__ F B X)
      · match us, ws, hl with
        | [_, _, _], [_], _ => exact ⟨_, rfl, rfl⟩
      · rcases r with _ | ⟨a0, _ | ⟨a1, _ | ⟨a2, _ | ⟨_, _⟩⟩⟩⟩ <;> rcases r' with _ | ⟨z0, _ | ⟨_, _⟩⟩ <;> first | exact (.cons a0 (.cons a1 (.cons a2 (.cons z0 .nil)))) | exact .nil
    have o_Yard_boards : L2.OwnM PySem.Challenge.pw_boardglue_k31_deeds_one_by_one w (Hd.K w.params) mg base L2.CX0 Hd.cs.Yard 1 "boards" ["self"] [] (Bk.sp_Yard_boards Hd.cs) := T_Yard_boards.own X.c_Yard (fun _ _ _ _ _ _ us hl => match us, hl with | [_], _ => rfl) (fun f fd F => Bk.ok_Yard_boards F B X)
    have o_Yard_heap : L2.OwnM PySem.Challenge.pw_boardglue_k31_deeds_one_by_one w (Hd.K w.params) mg base L2.CX0 Hd.cs.Yard 1 "heap" ["self"] [] (Bk.sp_Yard_heap Hd.cs) := T_Yard_heap.own X.c_Yard (fun _ _ _ _ _ _ us hl => match us, hl with | [_], _ => rfl) (fun f fd F => Bk.ok_Yard_heap F B X)
    have o_Yard_log : L2.OwnM PySem.Challenge.pw_boardglue_k31_deeds_one_by_one w (Hd.K w.params) mg base L2.CX0 Hd.cs.Yard 1 "log" ["self"] [] (Bk.sp_Yard_log Hd.cs) := T_Yard_log.own X.c_Yard (fun _ _ _ _ _ _ us hl => match us, hl with | [_], _ => rfl) (fun f fd F => Bk.ok_Yard_log F B X)
    have o_length : L2.Own PySem.Challenge.pw_boardglue_k31_deeds_one_by_one w (Hd.K w.params) mg base 2 "length" ["a", "b", "n"] [] Bk.sp_length := T_length.own (ds := []) (fun T _ _ _ _ _ _ us hl => by have hl' : us.length = 3 := (by simpa using hl); match us, hl' with | [_, _, _], _ => exact ⟨_, rfl, rfl⟩) .nil (fun f fd F => Bk.ok_length F B o_with_sign_of o_common_divisor o_is_whole)
    have o_added : L2.Own PySem.Challenge.pw_boardglue_k31_deeds_one_by_one w (Hd.K w.params) mg base 2 "added" ["one", "other"] [] Bk.sp_added := T_added.own (fun _ _ _ _ _ _ us hl => match us, hl with | [_, _], _ => rfl) (fun f fd F => Bk.ok_added F B o_common_divisor)
    have o_under : L2.Own PySem.Challenge.pw_boardglue_k31_deeds_one_by_one w (Hd.K w.params) mg base 2 "under" ["d", "one", "other"] [] (Bk.sp_under (Hd.K w.params)) := T_under.own (fun _ _ _ _ _ _ us hl => match us, hl with | [_, _, _], _ => rfl) (fun f fd F => Bk.ok_under F B o_is_above_nought)
    have o__law_digits : L2.Own PySem.Challenge.pw_boardglue_k31_deeds_one_by_one w (Hd.K w.params) mg base 2 "_law_digits" ["_law_cell_here", "_law_many"] [] Bk.sp__law_digits := T__law_digits.own (fun _ _ _ _ _ _ us hl => match us, hl with | [_, _], _ => rfl) (fun f fd F => Bk.ok__law_digits F B o__law_great)
    have o__law_lowest : L2.Own PySem.Challenge.pw_boardglue_k31_deeds_one_by_one w (Hd.K w.params) mg base 2 "_law_lowest" ["_law_a", "_law_b", "_law_n"] [] Bk.sp__law_lowest := T__law_lowest.own (fun _ _ _ _ _ _ us hl => match us, hl with | [_, _, _], _ => rfl) (fun f fd F => Bk.ok__law_lowest F B o__law_divisor)
    have o__law_root : L2.Own PySem.Challenge.pw_boardglue_k31_deeds_one_by_one w (Hd.K w.params) mg base 2 "_law_root" ["_law_cell_here", "_law_k"] [] Bk.sp__law_root := T__law_root.own (fun _ _ _ _ _ _ us hl => match us, hl with | [_, _], _ => rfl) (fun f fd F => Bk.ok__law_root F B o__law_great)
    have o__law_is_length : L2.Own PySem.Challenge.pw_boardglue_k31_deeds_one_by_one w (Hd.K w.params) mg base 2 "_law_is_length" ["_law_found"] [] Bk.sp__law_is_length := T__law_is_length.own (fun _ _ _ _ _ _ us hl => match us, hl with | [_], _ => rfl) (fun f fd F => Bk.ok__law_is_length F B o__law_whole)
    have o_Yard_check_names : L2.OwnM PySem.Challenge.pw_boardglue_k31_deeds_one_by_one w (Hd.K w.params) mg base L2.CX0 Hd.cs.Yard 2 "check_names" ["self", "names"] [] (Bk.sp_Yard_check_names Hd.cs) := T_Yard_check_names.own X.c_Yard (fun _ _ _ _ _ _ us hl => match us, hl with | [_, _], _ => rfl) (fun f fd F => Bk.ok_Yard_check_names F B X o_is_whole)
    have o_taken : L2.Own PySem.Challenge.pw_boardglue_k31_deeds_one_by_one w (Hd.K w.params) mg base 3 "taken" ["one", "other"] [] Bk.sp_taken := T_taken.own (fun _ _ _ _ _ _ us hl => match us, hl with | [_, _], _ => rfl) (fun f fd F => Bk.ok_taken F B o_added)
    have o_is_length : L2.Own PySem.Challenge.pw_boardglue_k31_deeds_one_by_one w (Hd.K w.params) mg base 3 "is_length" ["thing"] [] Bk.sp_is_length := T_is_length.own (fun _ _ _ _ _ _ us hl => match us, hl with | [_], _ => rfl) (fun f fd F => Bk.ok_is_length F B o_length o_is_whole)
    have o_glued_beside : L2.Own PySem.Challenge.pw_boardglue_k31_deeds_one_by_one w (Hd.K w.params) mg base 3 "glued_beside" ["one", "other"] [] Bk.sp_glued_beside := T_glued_beside.own (fun _ _ _ _ _ _ us hl => match us, hl with | [_, _], _ => rfl) (fun f fd F => Bk.ok_glued_beside F B o_added)
    have o_stacked : L2.Own PySem.Challenge.pw_boardglue_k31_deeds_one_by_one w (Hd.K w.params) mg base 3 "stacked" ["one", "many"] [] Bk.sp_stacked := T_stacked.own (fun _ _ _ _ _ _ us hl => match us, hl with | [_, _], _ => rfl) (fun f fd F => Bk.ok_stacked F B o_length)
    have o__law_plus : L2.Own PySem.Challenge.pw_boardglue_k31_deeds_one_by_one w (Hd.K w.params) mg base 3 "_law_plus" ["_law_one", "_law_other", "_law_sign_here"] [] Bk.sp__law_plus := T__law_plus.own (fun _ _ _ _ _ _ us hl => match us, hl with | [_, _, _], _ => rfl) (fun f fd F => Bk.ok__law_plus F B o__law_lowest)
    have o__law_share : L2.Own PySem.Challenge.pw_boardglue_k31_deeds_one_by_one w (Hd.K w.params) mg base 3 "_law_share" ["_law_one", "_law_top", "_law_bottom"] [] Bk.sp__law_share := T__law_share.own (fun _ _ _ _ _ _ us hl => match us, hl with | [_, _, _], _ => rfl) (fun f fd F => Bk.ok__law_share F B o__law_lowest)
    have o__law_side : L2.Own PySem.Challenge.pw_boardglue_k31_deeds_one_by_one w (Hd.K w.params) mg base 3 "_law_side" ["_law_d", "_law_cell_here", "_law_at_here"] [] Bk.sp__law_side := T__law_side.own (fun _ _ _ _ _ _ us hl => match us, hl with | [_, _, _], _ => rfl) (fun f fd F => Bk.ok__law_side F B o__law_sign o__law_lowest o__law_digits)
    have o__law_is_heap : L2.Own PySem.Challenge.pw_boardglue_k31_deeds_one_by_one w (Hd.K w.params) mg base 3 "_law_is_heap" ["_law_found", "_law_due"] [] Bk.sp__law_is_heap := T__law_is_heap.own (fun _ _ _ _ _ _ us hl => match us, hl with | [_, _], _ => rfl) (fun f fd F => Bk.ok__law_is_heap F B o__law_is_length)
    have o_is_deed : L2.Own PySem.Challenge.pw_boardglue_k31_deeds_one_by_one w (Hd.K w.params) mg base 4 "is_deed" ["thing"] [] Bk.sp_is_deed := T_is_deed.own (fun _ _ _ _ _ _ us hl => match us, hl with | [_], _ => rfl) (fun f fd F => Bk.ok_is_deed F B g_CUTS g_SHIFTS g_GLUINGS g_TURN o_is_length o_is_whole)
    have o_cut_across : L2.Own PySem.Challenge.pw_boardglue_k31_deeds_one_by_one w (Hd.K w.params) mg base 4 "cut_across" ["d", "one", "at"] [] Bk.sp_cut_across := T_cut_across.own (fun _ _ _ _ _ _ us hl => match us, hl with | [_, _, _], _ => rfl) (fun f fd F => Bk.ok_cut_across F B g_NOUGHT o_under o_taken)
    have o__law_below : L2.Own PySem.Challenge.pw_boardglue_k31_deeds_one_by_one w (Hd.K w.params) mg base 4 "_law_below" ["_law_d", "_law_one", "_law_other"] [] Bk.sp__law_below := T__law_below.own (fun _ _ _ _ _ _ us hl => match us, hl with | [_, _, _], _ => rfl) (fun f fd F => Bk.ok__law_below F B o__law_plus o__law_sign)
    have o__law_heap : L2.Own PySem.Challenge.pw_boardglue_k31_deeds_one_by_one w (Hd.K w.params) mg base 4 "_law_heap" ["_law_script", "_law_d", "_law_first"] [] (Bk.sp__law_heap (Hd.K w.params)) := T__law_heap.own (fun _ _ _ _ _ _ us hl => match us, hl with | [_, _, _], _ => rfl) (fun f fd F => Bk.ok__law_heap F B o__law_side o__law_cell o__law_digits)
    have o__law_new : L2.Own PySem.Challenge.pw_boardglue_k31_deeds_one_by_one w (Hd.K w.params) mg base 4 "_law_new" ["_law_deed_here", "_law_some"] [] Bk.sp__law_new := T__law_new.own (fun _ _ _ _ _ _ us hl => match us, hl with | [_, _], _ => rfl) (fun f fd F => Bk.ok__law_new F B o__law_plus o__law_share)
    have o__law_right : L2.Own PySem.Challenge.pw_boardglue_k31_deeds_one_by_one w (Hd.K w.params) mg base 4 "_law_right" ["_law_yard", "_law_lying", "_law_log"] [] (Bk.sp__law_right Hd.cs) := T__law_right.own (fun _ _ _ _ _ _ us hl => match us, hl with | [_, _, _], _ => rfl) (fun f fd F => Bk.ok__law_right F B o_Yard_boards o__law_is_heap o_Yard_log o_Yard_heap o__law_whole)
    have o__law_at : L2.Own PySem.Challenge.pw_boardglue_k31_deeds_one_by_one w (Hd.K w.params) mg base 5 "_law_at" ["_law_d", "_law_digits_here", "_law_side_here", "_law_pool"] [] Bk.sp__law_at := T__law_at.own (fun _ _ _ _ _ _ us hl => match us, hl with | [_, _, _, _], _ => rfl) (fun f fd F => Bk.ok__law_at F B o__law_share o__law_below)
    have o__law_done : L2.Own PySem.Challenge.pw_boardglue_k31_deeds_one_by_one w (Hd.K w.params) mg base 5 "_law_done" ["_law_lying", "_law_used", "_law_deed_here"] [] Bk.sp__law_done := T__law_done.own (fun _ _ _ _ _ _ us hl => match us, hl with | [_, _, _], _ => rfl) (fun f fd F => Bk.ok__law_done F B o__law_new)
    have o_Yard_put_by : L2.OwnM PySem.Challenge.pw_boardglue_k31_deeds_one_by_one w (Hd.K w.params) mg base L2.CX0 Hd.cs.Yard 5 "put_by" ["self", "deed", "boards"] [] (Bk.sp_Yard_put_by Hd.cs) := T_Yard_put_by.own X.c_Yard (fun _ _ _ _ _ _ us hl => match us, hl with | [_, _, _], _ => rfl) (fun f fd F => Bk.ok_Yard_put_by F B X o_cut_across o_turned o_glued_beside o_stacked)
    have o__law_deed : L2.Own PySem.Challenge.pw_boardglue_k31_deeds_one_by_one w (Hd.K w.params) mg base 6 "_law_deed" ["_law_d", "_law_cell_here", "_law_lying", "_law_pool"] [] (Bk.sp__law_deed (Hd.K w.params)) := T__law_deed.own (fun _ _ _ _ _ _ us hl => match us, hl with | [_, _, _, _], _ => rfl) (fun f fd F => Bk.ok__law_deed F B o__law_digits o__law_at)
    have o_Yard_do : L2.OwnM PySem.Challenge.pw_boardglue_k31_deeds_one_by_one w (Hd.K w.params) mg base L2.CX0 Hd.cs.Yard 6 "do" ["self", "deed"] [] (Bk.sp_Yard_do Hd.cs) := T_Yard_do.own X.c_Yard (fun _ _ _ _ _ _ us hl => match us, hl with | [_, _], _ => rfl) (fun f fd F => Bk.ok_Yard_do F B X g_TURN o_names_taken o_Yard_check_names o_Yard_put_by o_is_deed)
    exact Bk.ok_law F B X o__law_root o__law_heap o_Yard___init___3 o_Yard_do o__law_begin o__law_cell o_Yard___init___3_k_turning o__law_right o__law_deed o__law_done o__law_great o_Yard_log o_Yard_boards o__law_digits
