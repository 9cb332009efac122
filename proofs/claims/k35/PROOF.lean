import PyProof.Rows.All
import Wide.All
import OpenK.AllK
import Wide.FinOn
import Lean
import PyProof.EqAt
import PyProof.EqKinds
import PyProof.TupleCall
import PySem.Challenge.RW_boardglue_k35_whole_plans_turned_about
set_option Elab.async false
set_option linter.all false
set_option maxRecDepth 100000
namespace L2
open PySem PySem.Spec PyProof.Rows
abbrev Key:=Sum Int Str
def AS:Key→Value→Bool
  | .inl k,v=>Value.isInt k v
  | .inr x,v=>Value.isStrOf x v
def keyH (w:World):Key→Int
  | .inl k=>hashInt k
  | .inr x=>hashStr w x
theorem keyIs_shape:∀ {k:Key} {v:Value},AS k v=true→(∃ i t,k=Sum.inl i∧v=Value.int i t) ∨ (∃ x t,k=Sum.inr x∧v=Value.str x t)
  | .inl i,v,h=>by
    obtain ⟨t,e⟩:=Value.isInt_shape (k:=i) (v:=v) h
    exact .inl ⟨i,t,rfl,e⟩
  | .inr x,v,h=>by
    obtain ⟨t,e⟩:=Value.isStrOf_shape (x:=x) (v:=v) h
    exact .inr ⟨x,t,rfl,e⟩
theorem Ck (i:Int) (t:Tok):AS (.inl i) (.int i t)=true:=by simp [AS,Value.isInt]
theorem BY (x:Str) (t:Tok):AS (.inr x) (.str x t)=true:=by simp [AS,Value.isStrOf]
theorem FM (a b:Int):decide ((Sum.inl a:Key)=Sum.inl b)=(a == b):=by
  by_cases e:a=b
  · subst e; simp
  · have h:¬ (Sum.inl a:Key)=Sum.inl b:=fun q=>e (Sum.inl.inj q)
    rw [decide_eq_false h]
    exact (beq_eq_false_iff_ne.mpr e).symm
theorem Gb (a b:Str):decide ((Sum.inr a:Key)=Sum.inr b)=decide (a=b):=by
  by_cases e:a=b
  · subst e; simp
  · have h:¬ (Sum.inr a:Key)=Sum.inr b:=fun q=>e (Sum.inr.inj q)
    rw [decide_eq_false h,decide_eq_false e]
theorem E3 (a:Int) (b:Str):decide ((Sum.inl a:Key)=Sum.inr b)=false:=decide_eq_false (fun q=>nomatch q)
theorem Gd (a:Str) (b:Int):decide ((Sum.inr a:Key)=Sum.inl b)=false:=decide_eq_false (fun q=>nomatch q)
def zV (prog:Program) (w:World):PySem.KeyKind prog w Key where
  is:=AS
  hash:=keyH w
  inj:=fun v a b ha hb=>by
    rcases keyIs_shape ha with ⟨i,t,rfl,rfl⟩ | ⟨x,t,rfl,rfl⟩
    · rcases keyIs_shape hb with ⟨j,u,rfl,e⟩ | ⟨y,u,rfl,e⟩
      · injection e with e1 _; rw [e1]
      · exact nomatch e
    · rcases keyIs_shape hb with ⟨j,u,rfl,e⟩ | ⟨y,u,rfl,e⟩
      · exact nomatch e
      · injection e with e1 _; rw [e1]
  byValue:=fun k v h=>by
    rcases keyIs_shape h with ⟨i,t,rfl,rfl⟩ | ⟨x,t,rfl,rfl⟩ <;> rfl
  pyHash:=fun hv h=>by
    rcases keyIs_shape hv with ⟨i,t,rfl,rfl⟩ | ⟨x,t,rfl,rfl⟩
    · exact wpAny_pyHash_int h
    · exact wpAny_pyHash_str h
  eqBool:=fun hu hv h=>by
    rcases keyIs_shape hu with ⟨i,t,rfl,rfl⟩ | ⟨x,t,rfl,rfl⟩
    · rcases keyIs_shape hv with ⟨j,u,rfl,rfl⟩ | ⟨y,u,rfl,rfl⟩
      · rw [FM] at h; exact wpAny_eqBool_int h
      · rw [E3] at h; exact SeqAt.EqAt.int_str i t y u _ _ _ _ h
    · rcases keyIs_shape hv with ⟨j,u,rfl,rfl⟩ | ⟨y,u,rfl,rfl⟩
      · rw [Gd] at h; exact SeqAt.EqAt.str_int x t j u _ _ _ _ h
      · rw [Gb] at h; exact wpAny_eqBool_str h
  «strs»:=fun k x t v h=>by
    rcases keyIs_shape h with ⟨i,u,rfl,e⟩ | ⟨y,u,rfl,e⟩
    · exact nomatch e
    · injection e with e1 _
      subst e1
      cases v <;> rfl
theorem tR (prog:Program) (w:World) (i:Int) (t:Tok):(zV prog w).is (.inl i) (.int i t)=true:=Ck i t
theorem tt (prog:Program) (w:World) (x:Str) (t:Tok):(zV prog w).is (.inr x) (.str x t)=true:=BY x t
end L2
namespace L2
open PySem PySem.Spec PyProof.Rows
inductive V where
  | non | bl (b:Bool) | int (i:Int) | str (x:Str) | byt (b:Array UInt8) | flt (b:UInt64) | ref (a:Addr) | ty (n:String)
  deriving DecidableEq
def RelV:V→Value→Prop
  | .non,u=>u=Value.none
  | .bl b,u=>u=Value.bool b
  | .int i,u=>∃ t,u=Value.int i t
  | .str x,u=>∃ t,u=Value.str x t
  | .byt b,u=>∃ t,u=Value.bytes b t
  | .flt b,u=>∃ t,u=Value.float b t
  | .ref a,u=>u=Value.ref a
  | .ty n,u=>u=Value.type n
abbrev Vals:List V→List Value→Prop:=Paired RelV
theorem Vals.length {xs:List V} {us:List Value} (r:Vals xs us):xs.length=us.length:=Paired.length r
theorem Vals.get:∀ {xs:List V} {us:List Value} {i:Nat} {x:V},Vals xs us→xs[i]?=some x→∃ u,us[i]?=some u∧RelV x u
  | _,_,_,_,.nil,e=>by simp at e
  | _,_,0,_,.cons r _,e=>by simp at e; subst e; exact ⟨_,rfl,r⟩
  | _,_,i + 1,x,.cons _ t,e=>by
    obtain ⟨u,h1,h2⟩:=Vals.get (i:=i) (x:=x) t (by simpa using e)
    exact ⟨u,by simpa using h1,h2⟩
theorem Vals.append:∀ {xs ys:List V} {us ws:List Value},Vals xs us→Vals ys ws→Vals (xs ++ ys) (us ++ ws)
  | _,_,_,_,.nil,s=>s
  | _,_,_,_,.cons r t,s=>.cons r (Vals.append t s)
theorem Vals.take:∀ {xs:List V} {us:List Value} (n:Nat),Vals xs us→Vals (xs.take n) (us.take n)
  | _,_,0,_=>.nil
  | _,_,_ + 1,.nil=>.nil
  | _,_,n + 1,.cons r t=>.cons r (Vals.take n t)
theorem Vals.drop:∀ {xs:List V} {us:List Value} (n:Nat),Vals xs us→Vals (xs.drop n) (us.drop n)
  | _,_,0,r=>r
  | _,_,_ + 1,.nil=>.nil
  | _,_,n + 1,.cons _ t=>Vals.drop n t
def RelO:Option V→Option Value→Prop
  | some v,some u=>RelV v u
  | none,none=>True
  | _,_=>False
def KV {κ:Type}:List (κ × V)→List (κ × Value)→Prop:=Paired fun (p:κ × V) (q:κ × Value)=>p.1=q.1∧RelV p.2 q.2
def kV:Key→V
  | .inl i=>.int i
  | .inr x=>.str x
inductive HO where
  | lst (xs:List V)
  | tup (xs:List V)
  | dK (kvs:List (Key × V)) | dT (kvs:List (List Key × V))
  | set (S:Int→Bool) (n:Nat)
  | ins (C dx:Addr) (fs:List (Str × V))
  | own (x:Addr)
  | xd (fs:List (Str × V))
  | met (f x:Addr)
  | rng (lo hi:Int)
  | frz (o:Obj) (u:HO)
  | tbl (ps:Array Value)
  | ext (φ:Heap→Prop)
abbrev Hp:=Addr→Option HO
def upd (H:Hp) (a:Addr) (o:HO):Hp:=fun b=>if b=a then some o else H b
theorem zk {H:Hp} {a:Addr} {o:HO}:upd H a o a=some o:=by unfold upd; rw [if_pos rfl]
theorem zt {H:Hp} {a b:Addr} {o:HO} (h:b ≠ a):upd H a o b=H b:=by unfold upd; rw [if_neg h]
theorem yf {H:Hp} {a b:Addr} {o u:HO} (h:H a=some o) (h':H b=some u) (d:o ≠ u):a ≠ b:=by
  intro e; subst e; rw [h] at h'; exact d (Option.some.inj h')
theorem ze {H:Hp} {a b:Addr} {o:HO} (h:H a=some o) (h':H b=none):a ≠ b:=by
  intro e; subst e; rw [h] at h'; cases h'
section
variable (P:Program) (w:World)
def ObjOk (H:Hp) (h:Heap) (a:Addr):HO→Prop
  | .lst xs=>xs.length ≤ sizeLine∧∃ (its:List Value) (n:Nat),Vals xs its∧h.get? a=some { cls:=.type "list",data:=.seq its.toArray n }
  | .tup xs=>xs.length ≤ sizeLine∧∃ its:List Value,Vals xs its∧IsTup h a its.toArray
  | .dK kvs=>kvs.length ≤ sizeLine∧(a == sysModules)=false∧∃ vs,KV kvs vs∧h.DictOf (zV P w) a vs
  | .dT kvs=>kvs.length ≤ sizeLine∧(a == sysModules)=false∧∃ xs:List (List Key × Addr × Value),
      Paired (fun (p:List Key × V) (q:List Key × Addr × Value)=>p.1=q.1∧H q.2.1=some (.tup (p.1.map kV))∧RelV p.2 q.2.2) kvs xs ∧
      ∃ o es ep,h.get? a=some o∧o.ExactDict∧o.data=.dict es ep∧es.toList=xs.map (entryOfKey (tupleKind (zV P w)))∧(xs.map (·.1)).Nodup
  | .set S n=>h.SetOf (intKind P w) a S n
  | .ins C dx fs=>H dx=some (.own a)∧fs.length ≤ 1000∧dx ≠ a∧h.get? a=some (PySem.W.instObj C dx) ∧
      ∃ mA,h.Ns1 dx mA∧(∀ f,RelO (fs.lookup f) (mA f))∧PySem.Within mA (fs.map (·.1))
  | .own _=>∃ o,h.get? a=some o
  | .xd fs=>∃ mA,h.Ns1 a mA∧∀ f,RelO (fs.lookup f) (mA f)
  | .rng lo hi=>∃ t u v,h.get? a=some { cls:=.type "range",data:=.fields #[.int lo t,.int hi u,.int 1 v] }
  | .frz o u=>h.get? a=some o∧ObjOk H h a u
  | .tbl ps=>h.get? a=some { cls:=.none,data:=.fields ps }
  | .met f x=>h.get? a=some (PySem.W.methodObj (.ref f) (.ref x))
  | .ext φ=>φ h∧(∃ o,h.get? a=some o)∧∀ h1 h2:Heap,φ h1→(∀ o,h1.get? a=some o→h2.get? a=some o)→φ h2
def HOk (H:Hp) (h:Heap):Prop:=∀ a o,H a=some o→ObjOk P w H h a o
end
section
variable {P:Program} {w:World} {H H':Hp} {h h':Heap} {a:Addr} {o:HO}
theorem ObjOk.lt (x:ObjOk P w H h a o):a < h.objs.size:=by
  cases o with
  | lst xs=>obtain ⟨_,_,_,_,e⟩:=x; exact Heap.lt_size e
  | tup xs=>obtain ⟨_,_,_,p⟩:=x; exact p.lt
  | dK kvs=>obtain ⟨_,_,_,_,o,_,_,e,_⟩:=x; exact Heap.lt_size e
  | dT kvs=>obtain ⟨_,_,_,_,o,_,_,e,_⟩:=x; exact Heap.lt_size e
  | set S n=>obtain ⟨o,_,_,_,e,_⟩:=x; exact Heap.lt_size e
  | ins C dx fs=>obtain ⟨_,_,_,e,_⟩:=x; exact Heap.lt_size e
  | own y=>obtain ⟨_,e⟩:=x; exact Heap.lt_size e
  | xd fs=>obtain ⟨_,⟨_,_,_,e,_⟩,_⟩:=x; exact Heap.lt_size e
  | rng lo hi=>obtain ⟨_,_,_,e⟩:=x; exact Heap.lt_size e
  | frz ob u=>obtain ⟨e,_⟩:=x; exact Heap.lt_size e
  | tbl ps=>exact Heap.lt_size (show h.get? a=some _ from x)
  | met f y=>exact Heap.lt_size (show h.get? a=some _ from x)
  | ext φ=>obtain ⟨_,⟨_,e⟩,_⟩:=x; exact Heap.lt_size e
theorem Paired.mapP {α β:Type} {F G:α→β→Prop}:∀ {l₁:List α} {l₂:List β},Paired F l₁ l₂→(∀ a b,F a b→G a b)→Paired G l₁ l₂
  | _,_,.nil,_=>.nil
  | _,_,.cons r t,f=>.cons (f _ _ r) (Paired.mapP t f)
theorem ObjOk.stay (x:ObjOk P w H h a o) (k:∀ b u,(b=a ∨ H b=some (.own a))→h.get? b=some u→h'.get? b=some u)
    (ho:∀ b,H b=some (.own a)→H' b=some (.own a)) (ht:∀ b xs,H b=some (.tup xs)→H' b=some (.tup xs)):ObjOk P w H' h' a o:=by
  induction o with
  | lst xs=>obtain ⟨z,its,n,r,e⟩:=x; exact ⟨z,its,n,r,k _ _ (.inl rfl) e⟩
  | tup xs=>obtain ⟨z,its,r,ob,e,c⟩:=x; exact ⟨z,its,r,ob,k _ _ (.inl rfl) e,c⟩
  | dK kvs=>obtain ⟨z,y,vs,r,ob,es,ep,e,c⟩:=x; exact ⟨z,y,vs,r,ob,es,ep,k _ _ (.inl rfl) e,c⟩
  | dT kvs =>
    obtain ⟨z,y,xs,r,ob,es,ep,e,c⟩:=x
    exact ⟨z,y,xs,Paired.mapP r fun p q z=>⟨z.1,ht _ _ z.2.1,z.2.2⟩,ob,es,ep,k _ _ (.inl rfl) e,c⟩
  | set S n=>obtain ⟨ob,es,ep,t,e,c⟩:=x; exact ⟨ob,es,ep,t,k _ _ (.inl rfl) e,c⟩
  | ins C dx fs =>
    obtain ⟨d,z,ne,e,mA,⟨od,es,ep,e2,c⟩,r⟩:=x
    exact ⟨ho _ d,z,ne,k _ _ (.inl rfl) e,mA,⟨od,es,ep,k _ _ (.inr d) e2,c⟩,r⟩
  | own y=>obtain ⟨ob,e⟩:=x; exact ⟨ob,k _ _ (.inl rfl) e⟩
  | xd fs=>obtain ⟨mA,⟨od,es,ep,e,c⟩,r⟩:=x; exact ⟨mA,⟨od,es,ep,k _ _ (.inl rfl) e,c⟩,r⟩
  | rng lo hi=>obtain ⟨t,u,v,e⟩:=x; exact ⟨t,u,v,k _ _ (.inl rfl) e⟩
  | frz ob u ih=>obtain ⟨e,q⟩:=x; exact ⟨k _ _ (.inl rfl) e,ih q⟩
  | tbl ps =>
    have e:h.get? a=some { cls:=.none,data:=.fields ps }:=x
    show h'.get? a=some { cls:=.none,data:=.fields ps }
    exact k a _ (.inl rfl) e
  | met f y =>
    have e:h.get? a=some (PySem.W.methodObj (.ref f) (.ref y)):=x
    show h'.get? a=some (PySem.W.methodObj (.ref f) (.ref y))
    exact k a _ (.inl rfl) e
  | ext φ=>obtain ⟨p,⟨o,e⟩,st⟩:=x; exact ⟨st _ _ p fun o q=>k _ _ (.inl rfl) q,⟨o,k _ _ (.inl rfl) e⟩,st⟩
theorem HOk.lt (x:HOk P w H h) (e:H a=some o):a < h.objs.size:=(x a o e).lt
theorem HOk.fresh (x:HOk P w H h) (e:h.objs.size ≤ a):H a=none:=by
  cases q:H a with
  | none=>rfl
  | some u=>exact absurd (Nat.lt_of_lt_of_le (x.lt q) e) (Nat.lt_irrefl _)
theorem HOk.kept (x:HOk P w H h) (k:∀ b u,h.get? b=some u→h'.get? b=some u):HOk P w H h':=fun a o e =>
  (x a o e).stay (fun b u _ q=>k b u q) (fun _ q=>q) fun _ _ q=>q
theorem HOk.laid (x:HOk P w H h) (k:∀ b u,h.get? b=some u→h'.get? b=some u) (hp:h.objs.size ≤ a) (new:ObjOk P w (upd H a o) h' a o):HOk P w (upd H a o) h':=fun b u e=>by
  have hn:=x.fresh hp
  by_cases hb:b=a
  · subst hb; rw [zk] at e; cases e; exact new
  · rw [zt hb] at e
    exact (x b u e).stay (fun c v _ q=>k c v q) (fun c q=>by rw [zt (ze q hn)]; exact q) fun c xs q=>by rw [zt (ze q hn)]; exact q
end
def Rd (H:Hp) (a:Addr) (u:HO):Prop:=H a=some u ∨ ∃ o,H a=some (.frz o u)
theorem Rd.ok {P:Program} {w:World} {H:Hp} {h:Heap} {a:Addr} {u:HO} (r:Rd H a u) (x:HOk P w H h):ObjOk P w H h a u:=by
  rcases r with r | ⟨o,r⟩
  · exact x a u r
  · obtain ⟨_,q⟩:=x a _ r
    exact q
def Mut:Option HO→Prop
  | some (.lst _)=>True
  | some (.dK _)=>True
  | some (.dT _)=>True
  | some (.set _ _)=>True
  | some (.ins _ _ _)=>True
  | some (.ext _)=>True
  | _=>False
section
variable {P:Program} {w:World} {H:Hp} {h h':Heap} {x e:Addr} {o':HO}
theorem HOk.write (ok:HOk P w H h) (mu:Mut (H x)) (he:e=x ∨ H e=some (.own x)) (k:∀ b u,b ≠ e→h.get? b=some u→h'.get? b=some u) (heo:∃ u,h'.get? e=some u)
    (new:ObjOk P w (upd H x o') h' x o'):HOk P w (upd H x o') h':=fun b u q=>by
  have nown:∀ c y,H c=some (.own y)→c ≠ x:=fun c y r z=>by subst z; rw [r] at mu; exact mu
  have ntup:∀ c xs,H c=some (.tup xs)→c ≠ x:=fun c xs r z=>by subst z; rw [r] at mu; exact mu
  by_cases hb:b=x
  · subst hb; rw [zk] at q; cases q; exact new
  · rw [zt hb] at q
    by_cases hbe:b=e
    · have q':H b=some (.own x):=by
        rcases he with z | z
        · exact absurd (hbe.trans z) hb
        · rw [hbe]; exact z
      rw [q] at q'; cases q'
      obtain ⟨v,hv⟩:=heo
      exact ⟨v,by rw [hbe]; exact hv⟩
    · refine (ok b u q).stay (fun c v hc r=>k c v ?_ r) (fun c r=>by rw [zt (nown c b r)]; exact r) fun c xs r=>by rw [zt (ntup c xs r)]; exact r
      rcases hc with rfl | hc
      · exact hbe
      · rintro rfl
        rcases he with z | z
        · exact nown c b hc z
        · rw [hc] at z; cases z; exact hb rfl
end
structure Un (fs ex:List Addr) (H H':Hp) (h h':Heap):Prop where
  keep:∀ b o,h.get? b=some o→H b=none→b ∉ fs→b ∉ ex→h'.get? b=some o
  slot:∀ b o,h.get? b=some o→H b=none→b ∈ fs→b ∉ ex→∃ sl,h'.get? b=some { o with slots:=sl }
  free:∀ b o,h.get? b=some o→H b=none→b ∉ ex→H' b=none
  there:∀ b o,h.get? b=some o→b ∉ ex→∃ o',h'.get? b=some o'
  tups:∀ b xs,H b=some (.tup xs)→H' b=some (.tup xs)
  frzs:∀ b o u,H b=some (.frz o u)→H' b=some (.frz o u)
  tbls:∀ b ps,H b=some (.tbl ps)→∃ more,H' b=some (.tbl (ps ++ more))
section
variable {fs fs' ex ex':List Addr} {H H1 H2:Hp} {h h1 h2 h':Heap} {a x e:Addr} {o:HO}
theorem Un.any (u:Un fs ex H H1 h h1) {b:Addr} {ob:Obj} (q:h.get? b=some ob) (n:H b=none) (hx:b ∉ ex):∃ sl,h1.get? b=some { ob with slots:=sl }:=by
  by_cases hb:b ∈ fs
  · exact u.slot b ob q n hb hx
  · exact ⟨ob.slots,u.keep b ob q n hb hx⟩
theorem Un.kept (k:∀ b u,h.get? b=some u→h'.get? b=some u):Un fs ex H H h h' :=
  ⟨fun b ob q _ _ _=>k b ob q,fun b ob q _ _ _=>⟨ob.slots,k b ob q⟩,fun _ _ _ n _=>n,fun b ob q _=>⟨ob,k b ob q⟩,fun _ _ q=>q,fun _ _ _ q=>q,fun _ ps q=>⟨#[],by rw [q]; simp⟩⟩
theorem Un.refl:Un fs ex H H h h:=Un.kept fun _ _ q=>q
theorem Un.laid (k:∀ b u,h.get? b=some u→h'.get? b=some u) (hp:h.objs.size ≤ a) (hn:H a=none):Un fs ex H (upd H a o) h h' where
  keep:=fun b u q _ _ _=>k b u q
  slot:=fun b u q _ _ _=>⟨u.slots,k b u q⟩
  free:=fun b u q n _=>by rw [zt (Nat.ne_of_lt (Nat.lt_of_lt_of_le (Heap.lt_size q) hp))]; exact n
  there:=fun b u q _=>⟨u,k b u q⟩
  tups:=fun b xs q=>by rw [zt (ze q hn)]; exact q
  frzs:=fun b u xs q=>by rw [zt (ze q hn)]; exact q
  tbls:=fun b ps q=>⟨#[],by rw [zt (ze q hn),q]; simp⟩
theorem Un.write (mu:Mut (H x)) (he:e=x ∨ H e=some (.own x)) (k:∀ b u,b ≠ e→h.get? b=some u→h'.get? b=some u) (heo:∃ u,h'.get? e=some u):Un fs ex H (upd H x o) h h':=by
  have hx:∀ b,H b=none→b ≠ x:=fun b n z=>by subst z; rw [n] at mu; exact mu
  have hb:∀ b,H b=none→b ≠ e:=fun b n z=>by
    subst z
    rcases he with r | r
    · exact hx b n r
    · rw [n] at r; cases r
  have hm:∀ b u,H b=some u→¬ Mut (some u)→b ≠ x:=fun b u q nm z=>by subst z; rw [q] at mu; exact nm mu
  refine ⟨fun b u q n _ _=>k b u (hb b n) q,fun b u q n _ _=>⟨u.slots,k b u (hb b n) q⟩,fun b u q n _=>by rw [zt (hx b n)]; exact n,fun b u q _=>?_,
    fun b xs q=>by rw [zt (hm b _ q fun z=>z)]; exact q,fun b u xs q=>by rw [zt (hm b _ q fun z=>z)]; exact q,fun b ps q=>⟨#[],by rw [zt (hm b _ q fun z=>z),q]; simp⟩⟩
  by_cases hbe:b=e
  · subst hbe; exact heo
  · exact ⟨u,k b u hbe q⟩
end
def trk (h:Heap) (H:Hp):List Addr:=(List.range h.objs.size).filter fun a=>(H a).isSome
def hidT (h:Heap) (H:Hp):Heap:=PySem.W.hideAll h (trk h H)
theorem BX (h:Heap) (H:Hp):(hidT h H).objs.size=h.objs.size:=PySem.W.hideAll_size _ _
theorem Dt {h:Heap} {H:Hp} {b:Addr} {o:Obj} (e:h.get? b=some o) (n:H b=none):(hidT h H).get? b=some o :=
  PySem.W.hideAll_get _ e fun hm=>by
    have q:(H b).isSome=true:=(List.mem_filter.mp hm).2
    rw [n] at q; simp at q
theorem Ev {h:Heap} {H:Hp} {b:Addr} {o:Obj} (e:(hidT h H).get? b=some o):h.get? b=some o∧H b=none:=by
  have e':h.get? b=some o:=PySem.W.of_hideAll (trk h H) e
  refine ⟨e',?_⟩
  cases q:H b with
  | none=>rfl
  | some x =>
    have hm:b ∈ trk h H:=List.mem_filter.mpr ⟨List.mem_range.mpr (Heap.lt_size e'),by simp [q]⟩
    have z:(hidT h H).get? b=none:=PySem.W.hideAll_none (trk h H) hm
    rw [z] at e; cases e
def EH (g h:Heap) (L:Addr):List (Addr × Obj):=(List.range h.objs.size).filterMap fun a=>if a=L ∨ (g.get? a).isSome=true then none else (h.get? a).map fun o=>(a,o)
def rest (g h:Heap) (L d:Addr):List (Addr × Obj):=(EH g h L).filter fun p=>decide (p.1 ≠ d)
end L2
namespace L2
open PySem PySem.Spec PyProof.Rows
structure Mod (K:PySem.W.Frag) (mg:Str→Option Value) (base:Heap):Prop where
  kin:K.In base
  glob:base.Ns mainGlobals mg
  blt:∃ mb,base.Ns builtinsNs mb∧∀ x:Str,x ≠ "__name__"→mb x=bootBuiltins x
  nolimit:base.NoLimit
structure Cx where
  prog:Program
  w:World
  K:PySem.W.Frag
  mg:Str→Option Value
  base:Heap
  A:Around
  N:List Str
  s₀:Shared
  H₀:Hp
  env:Env
  outer:List Env
  stack:List Env
  ex:List Addr
  fn:Str→Bool
  calm:Bool
  pn:List (Addr × Obj)
  xe:Value→Shared→Prop
def frs (l:List Env):List Addr:=l.filterMap (·.frame)
abbrev Cx.fs (X:Cx):List Addr:=frs X.outer
def Vis (sc:Scope) (x:Str):Prop:=sc.names.lookup x=some .local ∨ sc.names.lookup x=some .cell ∨ sc.names.lookup x=some .free
def Loc (sc:Scope) (x:Str):Prop:=sc.names.lookup x=some .local ∨ sc.names.lookup x=some .cell
def Look (env:Env) (h:Heap) (m:Str→Option Value) (x:Str) (u:Value):Prop :=
  (env.kindOf x=some .local∧m x=some u) ∨ ((env.kindOf x=some .cell ∨ env.kindOf x=some .free)∧∃ c,env.cells.lookup x=some c∧h.IsCell c (some u))
structure Cx.Ok (X:Cx):Prop where
  mod:Mod X.K X.mg X.base
  kind:X.env.scope.kind=.function
  glob:X.env.globals=mainGlobals
  blt:X.env.builtins=builtinsNs
  above:X.s₀.heap.objs.size ≤ X.env.locals
  inj:∀ x y c,X.env.cells.lookup x=some c→X.env.cells.lookup y=some c→x=y
  has:∀ x,(X.env.kindOf x=some .cell ∨ X.env.kindOf x=some .free)→∃ c,X.env.cells.lookup x=some c
  cab:∀ x c,X.fn x=true→X.env.cells.lookup x=some c→X.s₀.heap.objs.size ≤ c
  hd:X.calm=true→X.A.handled=none
  frames:X.A.frames=some X.stack
  stk:X.stack=X.outer ∨ (X.stack=X.env :: X.outer∧X.env.frame=some X.env.locals)
  exf:∀ b ∈ X.ex,b ≠ X.env.locals∧∀ x c,X.env.cells.lookup x=some c→c ≠ b
  bs:∀ b o,X.base.get? b=some o→X.s₀.heap.get? b=some o∧X.H₀ b=none
  bsz:X.base.objs.size ≤ X.s₀.heap.objs.size
  noex:∀ b o,X.base.get? b=some o→b ∉ X.ex
  exfs:∀ b ∈ X.ex,b ∉ X.fs
  funs:X.s₀.heap.FunFrames X.base X.outer
  frf:∀ b ∈ X.fs,X.H₀ b=none
structure Inv (X:Cx) (pins:List (Addr × Obj)) (σ:List (Option V)) (H:Hp) (s:Shared):Prop where
  ok:X.Ok
  os:s.os=X.s₀.os
  bare:AllBare s.gens
  base:Un X.fs X.ex X.H₀ H X.s₀.heap s.heap
  loc:∃ m,s.heap.Ns X.env.locals m∧∀ (i:Nat) (x:Str) (v:V),X.N[i]?=some x→σ[i]?=some (some v)→Vis X.env.scope x→∃ u,RelV v u∧Look X.env s.heap m x u
  cell:∀ x c,X.env.cells.lookup x=some c→∃ v,s.heap.IsCell c v
  free:H X.env.locals=none
  freeC:∀ x c,X.env.cells.lookup x=some c→H c=none
  pin:∀ p ∈ X.pn ++ pins,s.heap.get? p.1=some p.2∧H p.1=none∧p.1 ≠ X.env.locals∧p.1 ∉ X.fs∧∀ v,p.2.data ≠ .cell v
  hok:HOk X.prog X.w H s.heap
  len:σ.length=X.N.length
section
variable {X:Cx} {pins:List (Addr × Obj)} {σ:List (Option V)} {H H':Hp} {s:Shared} {h':Heap}
theorem Cx.Ok.nofr (ok:X.Ok) {b:Addr} {o:Obj} (e:X.base.get? b=some o):b ∉ X.fs:=fun hb=>by
  have:=(ok.funs.mem hb).1
  rw [e] at this; cases this
theorem Inv.bs (I:Inv X pins σ H s):∀ b o,X.base.get? b=some o→s.heap.get? b=some o∧H b=none:=fun b o e =>
  ⟨I.base.keep b o (I.ok.bs b o e).1 (I.ok.bs b o e).2 (I.ok.nofr e) (I.ok.noex b o e),I.base.free b o (I.ok.bs b o e).1 (I.ok.bs b o e).2 (I.ok.noex b o e)⟩
theorem Inv.bk (I:Inv X pins σ H s):∀ b o,X.base.get? b=some o→s.heap.get? b=some o:=fun b o e=>(I.bs b o e).1
theorem Inv.mod (I:Inv X pins σ H s):Mod X.K X.mg X.base:=I.ok.mod
theorem Inv.kIn (I:Inv X pins σ H s):X.K.In s.heap:=I.ok.mod.kin.keeps I.bk
theorem Inv.lt (I:Inv X pins σ H s):X.env.locals < s.heap.objs.size:=let ⟨_,hn,_⟩:=I.loc; hn.lt
theorem Inv.sz (I:Inv X pins σ H s):X.s₀.heap.objs.size ≤ s.heap.objs.size:=Nat.le_trans I.ok.above (Nat.le_of_lt I.lt)
theorem Inv.nofs (I:Inv X pins σ H s) {a:Addr} (h:s.heap.objs.size ≤ a):a ∉ X.fs:=fun hb=>by
  obtain ⟨_,o,ho,_⟩:=I.ok.funs.mem hb
  exact absurd (Nat.lt_of_lt_of_le (Heap.lt_size ho) (Nat.le_trans I.sz h)) (Nat.lt_irrefl _)
theorem Inv.cne (I:Inv X pins σ H s):∀ x c,X.env.cells.lookup x=some c→c ≠ X.env.locals:=fun x c e z=>by
  obtain ⟨v,o,ho,hd⟩:=I.cell x c e
  obtain ⟨m,⟨o',es,ep,ho',hd',_⟩,_⟩:=I.loc
  rw [z,ho'] at ho; cases ho; rw [hd'] at hd; cases hd
theorem Inv.funs (I:Inv X pins σ H s):s.heap.FunFrames X.base X.outer:=by
  have all:∀ (l:List Env),(∀ b ∈ frs l,b ∈ X.fs)→X.s₀.heap.FunFrames X.base l→s.heap.FunFrames X.base l:=by
    intro l
    induction l with
    | nil=>intro _ _; trivial
    | cons env r ih =>
      intro hs hl
      obtain ⟨hk,⟨L,o,hf,hn,ho,hd⟩,hr⟩:=hl
      have hL:L ∈ X.fs:=hs L (by unfold frs; rw [List.filterMap_cons,hf]; exact List.mem_cons_self)
      obtain ⟨sl,e⟩:=I.base.slot L o ho (I.ok.frf L hL) hL fun z=>I.ok.exfs L z hL
      exact ⟨hk,⟨L,_,hf,hn,e,hd⟩,ih (fun b hb=>hs b (by unfold frs; rw [List.filterMap_cons,hf]; exact List.mem_cons_of_mem _ hb)) hr⟩
  exact all X.outer (fun _ hb=>hb) I.ok.funs
theorem Inv.stack (I:Inv X pins σ H s):s.heap.FunFrames X.base X.stack:=by
  rcases I.ok.stk with e | ⟨e,hf⟩
  · rw [e]; exact I.funs
  · rw [e]
    obtain ⟨m,hn,_⟩:=I.loc
    refine .cons (by rw [I.ok.kind]; decide) hf hn ?_ I.funs
    exact Heap.get?_none_of_le (Nat.le_trans I.ok.bsz I.ok.above)
theorem Inv.stkSub (I:Inv X pins σ H s):∀ b ∈ frs X.stack,b ∈ X.env.locals :: X.fs:=fun b hb=>by
  rcases I.ok.stk with e | ⟨e,hf⟩
  · rw [e] at hb; exact List.mem_cons_of_mem _ hb
  · rw [e] at hb
    unfold frs at hb
    rw [List.filterMap_cons,hf] at hb
    exact hb
theorem Inv.stkFree (I:Inv X pins σ H s):∀ b ∈ frs X.stack,H b=none:=fun b hb=>by
  rcases List.mem_cons.mp (I.stkSub b hb) with e | hb
  · rw [e]; exact I.free
  · obtain ⟨_,o,ho,_⟩:=I.ok.funs.mem hb
    exact I.base.free b o ho (I.ok.frf b hb) fun z=>I.ok.exfs b z hb
theorem Inv.step {g':Array GenState} {t':Nat} {d':Drawn} {ch:List Addr} (I:Inv X pins σ H s)
    (hch:∀ b ∈ ch,(b ∈ X.ex ∨ X.s₀.heap.objs.size ≤ b)∧b ≠ X.env.locals∧(∀ x c,X.env.cells.lookup x=some c→c ≠ b)∧∀ p ∈ X.pn ++ pins,p.1 ≠ b)
    (keep:∀ b o,b ≠ X.env.locals→b ∉ X.fs→b ∉ ch→s.heap.get? b=some o→H b=none→h'.get? b=some o)
    (slot:∀ b o,b ≠ X.env.locals→b ∈ X.fs→b ∉ ch→s.heap.get? b=some o→H b=none→∃ sl,h'.get? b=some { o with slots:=sl }) (free:∀ b o,b ∉ ch→s.heap.get? b=some o→H b=none→H' b=none)
    (there:∀ b o,b ∉ ch→s.heap.get? b=some o→∃ o',h'.get? b=some o')
    (tups:∀ b xs,H b=some (.tup xs)→H' b=some (.tup xs)) (frzs:∀ b o u,H b=some (.frz o u)→H' b=some (.frz o u)) (tbls:∀ b ps,H b=some (.tbl ps)→∃ more,H' b=some (.tbl (ps ++ more)))
    (ns:∀ m,s.heap.Ns X.env.locals m→h'.Ns X.env.locals m) (hok:HOk X.prog X.w H' h') (hg:AllBare g') :
    Inv X pins σ H' { s with heap:=h',gens:=g',drawn:=d',toks:=t' }:=by
  have neL:∀ b o,X.s₀.heap.get? b=some o→b ≠ X.env.locals:=fun b o e=>Nat.ne_of_lt (Nat.lt_of_lt_of_le (Heap.lt_size e) I.ok.above)
  have neC:∀ b o,X.s₀.heap.get? b=some o→b ∉ X.ex→b ∉ ch:=fun b o e hx hb=>by
    rcases (hch b hb).1 with z | z
    · exact hx z
    · exact absurd (Nat.lt_of_lt_of_le (Heap.lt_size e) z) (Nat.lt_irrefl _)
  have cellK:∀ x c,X.env.cells.lookup x=some c→∀ v,s.heap.IsCell c v→h'.IsCell c v:=fun x c e v ⟨o,ho,hd⟩=>by
    have nch:c ∉ ch:=fun z=>(hch c z).2.2.1 x c e rfl
    by_cases hc:c ∈ X.fs
    · obtain ⟨sl,q⟩:=slot c o (I.cne x c e) hc nch ho (I.freeC x c e)
      exact ⟨_,q,hd⟩
    · exact ⟨o,keep c o (I.cne x c e) hc nch ho (I.freeC x c e),hd⟩
  refine ⟨I.ok,I.os,hg,⟨fun b o e n hb hx=>?_,fun b o e n hb hx=>?_,fun b o e n hx=>?_,fun b o e hx=>?_,fun b xs e=>tups b xs (I.base.tups b xs e),fun b o xs e=>frzs b o xs (I.base.frzs b o xs e),fun b ps e=>?_⟩,?_,fun x c e=>?_,?_,fun x c e=>?_,fun p hp=>?_,hok,I.len⟩
  · exact keep b o (neL b o e) hb (neC b o e hx) (I.base.keep b o e n hb hx) (I.base.free b o e n hx)
  · obtain ⟨sl,e1⟩:=I.base.slot b o e n hb hx
    obtain ⟨sl',e2⟩:=slot b _ (neL b o e) hb (neC b o e hx) e1 (I.base.free b o e n hx)
    exact ⟨sl',e2⟩
  · obtain ⟨o',e1⟩:=I.base.there b o e hx
    exact free b o' (neC b o e hx) e1 (I.base.free b o e n hx)
  · obtain ⟨o',e1⟩:=I.base.there b o e hx
    exact there b o' (neC b o e hx) e1
  · obtain ⟨m1,e1⟩:=I.base.tbls b ps e
    obtain ⟨m2,e2⟩:=tbls b _ e1
    exact ⟨m1 ++ m2,by rw [e2,Array.append_assoc]⟩
  · obtain ⟨m,hn,hl⟩:=I.loc
    refine ⟨m,ns m hn,fun i x v e1 e2 e3=>?_⟩
    obtain ⟨u,r,l⟩:=hl i x v e1 e2 e3
    refine ⟨u,r,?_⟩
    rcases l with l | ⟨k,c,e,z⟩
    · exact .inl l
    · exact .inr ⟨k,c,e,cellK x c e _ z⟩
  · obtain ⟨v,z⟩:=I.cell x c e
    exact ⟨v,cellK x c e v z⟩
  · obtain ⟨m,⟨o,_,_,ho,_⟩,_⟩:=I.loc
    exact free _ o (fun z=>(hch _ z).2.1 rfl) ho I.free
  · obtain ⟨v,o,ho,hd⟩:=I.cell x c e
    exact free c o (fun z=>(hch c z).2.2.1 x c e rfl) ho (I.freeC x c e)
  · obtain ⟨e,n,ne,nf,d⟩:=I.pin p hp
    have nch:p.1 ∉ ch:=fun z=>(hch p.1 z).2.2.2 p hp rfl
    exact ⟨keep p.1 p.2 ne nf nch e n,free p.1 p.2 nch e n,ne,nf,d⟩
theorem Inv.un {t':Nat} (I:Inv X pins σ H s) (u:Un X.fs [] H H' s.heap h') (hok:HOk X.prog X.w H' h'):Inv X pins σ H' { s with heap:=h',toks:=t' }:=by
  obtain ⟨m,⟨o,es,ep,ho,r⟩,_⟩:=id I.loc
  obtain ⟨sl,hL⟩:=u.any ho I.free (by simp)
  exact I.step (g':=s.gens) (d':=s.drawn) (ch:=[]) (fun _ z=>nomatch z) (fun b o _ hb _ e n=>u.keep b o e n hb (by simp)) (fun b o _ hb _ e n=>u.slot b o e n hb (by simp)) (fun b o _ e n=>u.free b o e n (by simp)) (fun b o _ e=>u.there b o e (by simp)) u.tups u.frzs u.tbls (fun m' hm=>by
    obtain ⟨o',es',ep',ho',r'⟩:=hm
    rw [ho] at ho'; cases ho'
    exact ⟨_,es',ep',hL,r'⟩) hok I.bare
theorem Inv.call {g':Array GenState} {t':Nat} {d':Drawn} {ch:List Addr} (I:Inv X pins σ H s) (u:Un (frs X.stack) ch H H' s.heap h') (hok:HOk X.prog X.w H' h') (hg:AllBare g')
    (hch:∀ b ∈ ch,(b ∈ X.ex ∨ X.s₀.heap.objs.size ≤ b)∧b ≠ X.env.locals∧(∀ x c,X.env.cells.lookup x=some c→c ≠ b)∧∀ p ∈ X.pn ++ pins,p.1 ≠ b) :
    Inv X pins σ H' { s with heap:=h',gens:=g',drawn:=d',toks:=t' }:=by
  obtain ⟨m,⟨o,es,ep,ho,r⟩,_⟩:=id I.loc
  obtain ⟨sl,hL⟩:=u.any ho I.free fun z=>(hch _ z).2.1 rfl
  exact I.step (ch:=ch) hch (fun b o hL hb hc e n=>u.keep b o e n (fun z=>(List.mem_cons.mp (I.stkSub b z)).elim hL hb) hc) (fun b o _ _ hc e n=>u.any e n hc) (fun b o hc e n=>u.free b o e n hc) (fun b o hc e=>u.there b o e hc) u.tups u.frzs u.tbls (fun m' hm=>by
    obtain ⟨o',es',ep',ho',r'⟩:=hm
    rw [ho] at ho'; cases ho'
    exact ⟨_,es',ep',hL,r'⟩) hok hg
theorem Inv.turned {t':Nat} {it:Addr} (I:Inv X pins σ H s) (k:∀ b o,b ≠ it→s.heap.get? b=some o→h'.get? b=some o) (hn:H it=none) (hL:it ≠ X.env.locals)
    (h1:it ∈ X.ex ∨ X.s₀.heap.objs.size ≤ it) (h2:∀ x c,X.env.cells.lookup x=some c→c ≠ it) (h3:∀ p ∈ X.pn ++ pins,p.1 ≠ it):Inv X pins σ H { s with heap:=h',toks:=t' }:=by
  have nit:∀ b u,H b=some u→b ≠ it:=fun b u e z=>by rw [z,hn] at e; cases e
  refine I.step (g':=s.gens) (d':=s.drawn) (ch:=[it]) (fun b hb=>?_) (fun b o _ _ hc e _=>k b o (fun z=>hc (by simp [z])) e) (fun b o _ _ hc e _=>⟨o.slots,k b o (fun z=>hc (by simp [z])) e⟩) (fun _ _ _ _ n=>n)
    (fun b o hc e=>⟨o,k b o (fun z=>hc (by simp [z])) e⟩) (fun _ _ e=>e) (fun _ _ _ e=>e) (fun b ps e=>⟨#[],by rw [e]; simp⟩) (fun m hm=>?_) (fun b u e=>?_) I.bare
  · have e:b=it:=by simpa using hb
    subst e
    exact ⟨h1,hL,h2,h3⟩
  · obtain ⟨o,es,ep,ho,r⟩:=hm
    exact ⟨o,es,ep,k _ o (Ne.symm hL) ho,r⟩
  · refine (I.hok b u e).stay (fun c v hc q=>k c v ?_ q) (fun _ q=>q) fun _ _ q=>q
    rcases hc with z | z
    · rw [z]; exact nit b u e
    · exact nit c _ z
theorem Inv.tok (I:Inv X pins σ H s) (t:Nat):Inv X pins σ H { s with toks:=t }:=I.un (h':=s.heap) (t':=t) Un.refl I.hok
theorem Inv.kept {t':Nat} (I:Inv X pins σ H s) (k:∀ b u,s.heap.get? b=some u→h'.get? b=some u):Inv X pins σ H { s with heap:=h',toks:=t' }:=I.un (Un.kept k) (I.hok.kept k)
theorem Inv.laid {a:Addr} {o:HO} {t':Nat} (I:Inv X pins σ H s) (k:∀ b u,s.heap.get? b=some u→h'.get? b=some u) (hp:s.heap.objs.size ≤ a) (new:ObjOk X.prog X.w (upd H a o) h' a o) :
    Inv X pins σ (upd H a o) { s with heap:=h',toks:=t' }:=I.un (Un.laid k hp (I.hok.fresh hp)) (I.hok.laid k hp new)
theorem Inv.write {x e:Addr} {o:HO} {t':Nat} (I:Inv X pins σ H s) (mu:Mut (H x)) (he:e=x ∨ H e=some (.own x)) (k:∀ b u,b ≠ e→s.heap.get? b=some u→h'.get? b=some u) (heo:∃ u,h'.get? e=some u)
    (new:ObjOk X.prog X.w (upd H x o) h' x o):Inv X pins σ (upd H x o) { s with heap:=h',toks:=t' }:=I.un (Un.write mu he k heo) (I.hok.write mu he k heo new)
theorem Inv.pins_of {pins':List (Addr × Obj)} (I:Inv X pins σ H s) (h:∀ p ∈ pins',s.heap.get? p.1=some p.2∧H p.1=none∧p.1 ≠ X.env.locals∧p.1 ∉ X.fs∧∀ v,p.2.data ≠ .cell v):Inv X pins' σ H s :=
  ⟨I.ok,I.os,I.bare,I.base,I.loc,I.cell,I.free,I.freeC,fun p hp=>(List.mem_append.mp hp).elim (fun z=>I.pin p (List.mem_append_left _ z)) (h p),I.hok,I.len⟩
theorem AB {N:List Str} (hN:N.Nodup) {i j:Nat} {x:Str} (a:N[i]?=some x) (b:N[j]?=some x):i=j:=by
  obtain ⟨h1,e1⟩:=List.getElem?_eq_some_iff.mp a
  obtain ⟨h2,e2⟩:=List.getElem?_eq_some_iff.mp b
  exact (List.getElem_inj hN).mp (e1.trans e2.symm)
theorem ua {M:Model} {A:Around} {E:Value→Shared→Prop} {i:Nat} {x:Str} {v:V} {u:Value} {Q:Unit→Shared→Prop} (I:Inv X pins σ H s) (hN:X.N.Nodup) (hi:X.N[i]?=some x) (hx:Loc X.env.scope x) (r:RelV v u)
    (h:∀ s',Inv X pins (σ.set i (some v)) H s'→(∃ a,Heap.SameBut a s.heap s'.heap∧(a=X.env.locals ∨ X.env.cells.lookup x=some a))→Q () s') (hf:X.fn x=true ∨ X.env.scope.names.lookup x=some .local:=by first | exact .inl rfl | exact .inr rfl | assumption):wpAny M A (storeName X.env x u) Q E s:=by
  obtain ⟨m,hn,hl⟩:=id I.loc
  have hcls:(X.env.scope.kind == .class || (X.env.scope.kind == .module && X.env.locals != X.env.globals))=false:=by rw [I.ok.kind]; rfl
  have hiσ:i < σ.length:=by rw [I.len]; exact (List.getElem?_eq_some_iff.mp hi).1
  have cne:=I.cne
  have tracked:∀ {a:Addr} {h':Heap},(∃ o,s.heap.get? a=some o∧H a=none)→Heap.SameBut a s.heap h'→HOk X.prog X.w H h':=fun {a h'} ha hs b ob e=>by
    obtain ⟨_,_,hfree⟩:=ha
    refine (I.hok b ob e).stay (fun c w' hc q=>(hs.2 c ?_).trans q) (fun _ q=>q) fun _ _ q=>q
    rintro rfl
    rcases hc with rfl | hc
    · rw [hfree] at e; cases e
    · rw [hfree] at hc; cases hc
  rcases hx with hk | hk
  · refine wpAny_storeName_local hk hn (fun h' hn' hs=>?_) hcls
    obtain ⟨oL,_,_,hoL,_⟩:=id hn
    refine h _ ⟨I.ok,I.os,I.bare,⟨fun b o e n hb hx=>?_,fun b o e n hb hx=>?_,I.base.free,fun b o e hx=>?_,I.base.tups,I.base.frzs,I.base.tbls⟩,⟨_,hn',fun j y v' e1 e2 e3=>?_⟩,fun y c e=>?_,I.free,I.freeC,fun p hp=>?_,tracked ⟨oL,hoL,I.free⟩ hs,by simpa using I.len⟩ ⟨_,hs,.inl rfl⟩
    · exact (hs.2 b (Nat.ne_of_lt (Nat.lt_of_lt_of_le (Heap.lt_size e) I.ok.above))).trans (I.base.keep b o e n hb hx)
    · obtain ⟨sl,e1⟩:=I.base.slot b o e n hb hx
      exact ⟨sl,(hs.2 b (Nat.ne_of_lt (Nat.lt_of_lt_of_le (Heap.lt_size e) I.ok.above))).trans e1⟩
    · obtain ⟨o',e1⟩:=I.base.there b o e hx
      exact ⟨o',(hs.2 b (Nat.ne_of_lt (Nat.lt_of_lt_of_le (Heap.lt_size e) I.ok.above))).trans e1⟩
    · by_cases hj:j=i
      · subst hj
        rw [hi] at e1; cases e1
        rw [List.getElem?_set_self hiσ] at e2
        cases e2
        exact ⟨u,r,.inl ⟨hk,by simp⟩⟩
      · rw [List.getElem?_set_ne (Ne.symm hj)] at e2
        obtain ⟨u',r',q⟩:=hl j y v' e1 e2 e3
        refine ⟨u',r',?_⟩
        rcases q with ⟨k,e⟩ | ⟨k,c,e,z⟩
        · refine .inl ⟨k,?_⟩
          have:y ≠ x:=fun e=>hj (AB hN e1 (e ▸ hi))
          simp [this,e]
        · exact .inr ⟨k,c,e,z.sameBut hs (cne y c e)⟩
    · obtain ⟨w',z⟩:=I.cell y c e
      exact ⟨w',z.sameBut hs (cne y c e)⟩
    · obtain ⟨e,n,ne,nf,d⟩:=I.pin p hp
      exact ⟨(hs.2 p.1 ne).trans e,n,ne,nf,d⟩
  · have hfn:X.fn x=true:=by
      rcases hf with z | z
      · exact z
      · rw [z] at hk; cases hk
    obtain ⟨c,hc⟩:=I.ok.has x (.inl hk)
    obtain ⟨w',z⟩:=I.cell x c hc
    refine wpAny_storeName_cell I.ok.kind hk hc z (fun h' hc' hs=>?_)
    obtain ⟨oc,hoc,hocd⟩:=id z
    refine h { s with heap:=h' } ⟨I.ok,I.os,I.bare,⟨fun b o e n hb hx=>?_,fun b o e n hb hx=>?_,I.base.free,fun b o e hx=>?_,I.base.tups,I.base.frzs,I.base.tbls⟩,⟨m,hn.sameBut hs (Ne.symm (cne x c hc)),fun j y v' e1 e2 e3=>?_⟩,fun y c' e=>?_,I.free,I.freeC,fun p hp=>?_,tracked ⟨oc,hoc,I.freeC x c hc⟩ hs,by simpa using I.len⟩ ⟨c,hs,.inr hc⟩
    · exact (hs.2 b (Nat.ne_of_lt (Nat.lt_of_lt_of_le (Heap.lt_size e) (I.ok.cab x c hfn hc)))).trans (I.base.keep b o e n hb hx)
    · obtain ⟨sl,e1⟩:=I.base.slot b o e n hb hx
      exact ⟨sl,(hs.2 b (Nat.ne_of_lt (Nat.lt_of_lt_of_le (Heap.lt_size e) (I.ok.cab x c hfn hc)))).trans e1⟩
    · obtain ⟨o',e1⟩:=I.base.there b o e hx
      exact ⟨o',(hs.2 b (Nat.ne_of_lt (Nat.lt_of_lt_of_le (Heap.lt_size e) (I.ok.cab x c hfn hc)))).trans e1⟩
    · by_cases hj:j=i
      · subst hj
        rw [hi] at e1; cases e1
        rw [List.getElem?_set_self hiσ] at e2
        cases e2
        exact ⟨u,r,.inr ⟨.inl hk,c,hc,hc'⟩⟩
      · rw [List.getElem?_set_ne (Ne.symm hj)] at e2
        obtain ⟨u',r',q⟩:=hl j y v' e1 e2 e3
        refine ⟨u',r',?_⟩
        rcases q with q | ⟨k,c',e,z'⟩
        · exact .inl q
        · refine .inr ⟨k,c',e,z'.sameBut hs ?_⟩
          rintro rfl
          exact hj (AB hN e1 (I.ok.inj _ _ _ e hc ▸ hi))
    · by_cases hcc:c'=c
      · subst hcc; exact ⟨_,hc'⟩
      · obtain ⟨w2,z2⟩:=I.cell y c' e
        exact ⟨w2,z2.sameBut hs hcc⟩
    · obtain ⟨e,n,ne,nf,d⟩:=I.pin p hp
      refine ⟨(hs.2 p.1 ?_).trans e,n,ne,nf,d⟩
      intro q
      rw [q,hoc] at e
      have q':oc=p.2:=Option.some.inj e
      exact d w' (by rw [← q']; exact hocd)
theorem wD {M:Model} {A:Around} {E:Value→Shared→Prop} {i:Nat} {x:Str} {v:V} {u:Value} {Q:Unit→Shared→Prop} (I:Inv X pins σ H s) (hN:X.N.Nodup) (hi:X.N[i]?=some x) (hx:Loc X.env.scope x) (r:RelV v u)
    (h:∀ s',Inv X pins (σ.set i (some v)) H s'→Q () s') (hf:X.fn x=true ∨ X.env.scope.names.lookup x=some .local:=by first | exact .inl rfl | exact .inr rfl | assumption):wpAny M A (storeName X.env x u) Q E s :=
  ua I hN hi hx r (fun s' I' _=>h s' I') hf
theorem Inv.call' {s':Shared} {ch:List Addr} (I:Inv X pins σ H s) (ho:s'.os=s.os) (u:Un (frs X.stack) ch H H' s.heap s'.heap) (hok:HOk X.prog X.w H' s'.heap) (hg:AllBare s'.gens)
    (hch:∀ b ∈ ch,(b ∈ X.ex ∨ X.s₀.heap.objs.size ≤ b)∧b ≠ X.env.locals∧(∀ x c,X.env.cells.lookup x=some c→c ≠ b)∧∀ p ∈ X.pn ++ pins,p.1 ≠ b):Inv X pins σ H' s':=by
  obtain ⟨h',g',d',t',o'⟩:=s'
  have e:o'=s.os:=ho
  subst e
  exact I.call (g':=g') (t':=t') (d':=d') u hok hg hch
end
abbrev XK:=Value→Option Addr→Hp→Prop
abbrev St:=List (Option V)
abbrev VK:=V→Hp→Prop
abbrev TE:=St→Hp→VK→Prop
abbrev TT:=St→Hp→(Bool→Hp→Prop)→Prop
abbrev TA:=St→Hp→(List V→Hp→Prop)→Prop
structure Ends where
  nx:St→Hp→Prop
  rt:VK
  bk:St→Hp→Prop:=fun _ _=>False
  ct:St→Hp→Prop:=fun _ _=>False
abbrev TS:=Ends→St→Hp→Prop
def EP (X:Cx) (pins:List (Addr × Obj)) (σ:St) (Q:VK) (u:Value) (s':Shared):Prop:=∃ v H',Inv X pins σ H' s'∧RelV v u∧Q v H'
def TP (X:Cx) (pins:List (Addr × Obj)) (σ:St) (Q:Bool→Hp→Prop) (b:Bool) (s':Shared):Prop:=∃ H',Inv X pins σ H' s'∧Q b H'
def AP (X:Cx) (pins:List (Addr × Obj)) (σ:St) (Q:List V→Hp→Prop) (us:List Value) (s':Shared):Prop:=∃ vs H',Inv X pins σ H' s'∧Vals vs us∧Q vs H'
def SP (X:Cx) (pins:List (Addr × Obj)) (D:Ends) (f:Flow) (s':Shared):Prop :=
  match f with
  | .next=>∃ σ' H',Inv X pins σ' H' s'∧D.nx σ' H'
  | .brk=>∃ σ' H',Inv X pins σ' H' s'∧D.bk σ' H'
  | .cont=>∃ σ' H',Inv X pins σ' H' s'∧D.ct σ' H'
  | .ret u=>∃ v σ' H',Inv X pins σ' H' s'∧RelV v u∧D.rt v H'
def PE (X:Cx) (e:Expr) (t:TE):Prop :=
  ∀ (pins:List (Addr × Obj)) (s:Shared) (σ:St) (H:Hp) (Q:VK),Inv X pins σ H s→t σ H Q→wpAny (model X.prog X.w) X.A (eval e X.env) (EP X pins σ Q) X.xe s
def PT (X:Cx) (e:Expr) (t:TT):Prop :=
  ∀ (pins:List (Addr × Obj)) (s:Shared) (σ:St) (H:Hp) (Q:Bool→Hp→Prop),Inv X pins σ H s→t σ H Q→wpAny (model X.prog X.w) X.A (isTrue e X.env (eval e X.env)) (TP X pins σ Q) X.xe s
def PW (X:Cx) (e:Expr) (t:TT):Prop :=
  ∀ (whole:Sem Value) (pins:List (Addr × Obj)) (s:Shared) (σ:St) (H:Hp) (Q:Bool→Hp→Prop),Inv X pins σ H s→t σ H Q→wpAny (model X.prog X.w) X.A (isTrue e X.env whole) (TP X pins σ Q) X.xe s
theorem PW.pt {X:Cx} {e:Expr} {t:TT} (h:PW X e t):PT X e t:=h _
def PA (X:Cx) (es:List Expr) (t:TA):Prop :=
  ∀ (pos:Pos) (pins:List (Addr × Obj)) (s:Shared) (σ:St) (H:Hp) (Q:List V→Hp→Prop),Inv X pins σ H s→t σ H Q→wpAny (model X.prog X.w) X.A (spliced (backTo pos (starEach es X.env))) (AP X pins σ Q) X.xe s
def PS (X:Cx) (st:Stmt) (t:TS):Prop :=
  ∀ (pins:List (Addr × Obj)) (s:Shared) (σ:St) (H:Hp) (D:Ends),Inv X pins σ H s→t D σ H→wpAny (model X.prog X.w) X.A (exec st X.env) (SP X pins D) X.xe s
def PSs (X:Cx) (st:List Stmt) (t:TS):Prop :=
  ∀ (pins:List (Addr × Obj)) (s:Shared) (σ:St) (H:Hp) (D:Ends),Inv X pins σ H s→t D σ H→wpAny (model X.prog X.w) X.A (execs st X.env) (SP X pins D) X.xe s
theorem thn {α:Type} {t:Sem α} {Q Q':α→Shared→Prop} {M:Model} {A:Around} {E:Value→Shared→Prop} {s:Shared} (h:wpAny M A t Q E s) (hQ:∀ a s,Q a s→Q' a s):wpAny M A t Q' E s:=wpAny_mono h hQ fun _ _ x=>x
end L2
namespace L2
open PySem PySem.Spec PyProof.Rows
section
variable {X:Cx}
def tVar (i:Nat):TE:=fun σ H Q=>∃ v,σ[i]?=some (some v)∧Q v H
def tC (v:V):TE:=fun _ H Q=>Q v H
theorem Fi {i:Nat} {x:Str} {pos:Pos} (hN:X.N[i]?=some x) (hv:Vis X.env.scope x) (hd:(x == ("__debug__":Str))=false:=by decide) (hcd:(x == ("__classdict__":Str))=false:=by decide):PE X (.Name x pos) (tVar i):=by
  intro pins s σ H Q I h
  obtain ⟨v,e,h⟩:=h
  obtain ⟨m,hn,hl⟩:=I.loc
  obtain ⟨u,r,l⟩:=hl i x v hN e hv
  have fin:EP X pins σ Q u s:=⟨v,H,I,r,h⟩
  rcases l with ⟨hk,hm⟩ | ⟨hk,c,hc,hcell⟩
  · exact wpAny_Name (wpAny_loadName_local I.ok.kind hk hn hm fin) hd
  · rcases hk with hk | hk
    · exact wpAny_Name (wpAny_loadName_cell I.ok.kind hk hc hcell fin) hd
    · exact wpAny_Name (wpAny_loadName_free I.ok.kind hk hc hcell fin hcd) hd
theorem zb {i j pos}:PE X (.Constant (.int i) j pos) (tC (.int i)):=fun _ _ _ H _ I h=>wpAny_Constant_int ⟨.int i,H,I.tok _,⟨_,rfl⟩,h⟩
theorem yT {b j pos}:PE X (.Constant (.bool b) j pos) (tC (.bl b)):=fun _ _ _ H _ I h=>Constant_bool ⟨.bl b,H,I,rfl,h⟩
theorem Dx {j pos}:PE X (.Constant .none j pos) (tC .non):=fun _ _ _ H _ I h=>Constant_none ⟨.non,H,I,rfl,h⟩
theorem zG {x j pos}:PE X (.Constant (.str x) j pos) (tC (.str x)):=fun _ _ _ H _ I h=>Calls.Constant_str ⟨.str x,H,I.tok _,⟨_,rfl⟩,h⟩
def Gl (X:Cx) (x:Str):Prop:=X.env.kindOf x=some .globalImplicit
theorem tU {E:Value→Shared→Prop} {pins:List (Addr × Obj)} {s:Shared} {σ:St} {H:Hp} {x:Str} {u:Value} {pos:Pos} {Q:Value→Shared→Prop} (I:Inv X pins σ H s) (hg:Gl X x) (hm:X.mg x=some u) (h:Q u s)
    (hd:(x == ("__debug__":Str))=false:=by decide):wpAny (model X.prog X.w) X.A (eval (.Name x pos) X.env) Q E s :=
  Calls.Name_function_global I.ok.kind hg (Calls.loadGlobal_global (by rw [I.ok.glob]; exact I.mod.glob.keeps I.bk) hm h) hd
theorem xT {E:Value→Shared→Prop} {pins:List (Addr × Obj)} {s:Shared} {σ:St} {H:Hp} {x:Str} {u:Value} {pos:Pos} {Q:Value→Shared→Prop} (I:Inv X pins σ H s) (hg:Gl X x) (hm:X.mg x=none) (hv:bootBuiltins x=some u) (h:Q u s)
    (hn:x ≠ "__name__":=by decide) (hd:(x == ("__debug__":Str))=false:=by decide):wpAny (model X.prog X.w) X.A (eval (.Name x pos) X.env) Q E s:=by
  obtain ⟨mb,h1,h2⟩:=I.mod.blt
  exact Calls.Name_function_global I.ok.kind hg (Calls.loadGlobal_builtin (by rw [I.ok.glob]; exact I.mod.glob.keeps I.bk) hm (by rw [I.ok.blt]; exact h1.keeps I.bk) ((h2 x hn).trans hv) h) hd
theorem yY {x:Str} {v:V} {u:Value} {pos:Pos} (hg:Gl X x) (hm:X.mg x=some u) (r:RelV v u) (hd:(x == ("__debug__":Str))=false:=by decide):PE X (.Name x pos) (tC v) :=
  fun _ _ _ H _ I h=>tU I hg hm ⟨v,H,I,r,h⟩ hd
theorem yw {x:Str} {v:V} {u:Value} {pos:Pos} (hg:Gl X x) (hm:X.mg x=none) (hv:bootBuiltins x=some u) (r:RelV v u) (hn:x ≠ "__name__":=by decide) (hd:(x == ("__debug__":Str))=false:=by decide):PE X (.Name x pos) (tC v) :=
  fun _ _ _ H _ I h=>xT I hg hm hv ⟨v,H,I,r,h⟩ hn hd
variable {a b:Expr} {ta tb:TE} {pos:Pos}
def PC (X:Cx) (op:CmpOp) (a b:Expr) (t:TE):Prop :=
  ∀ (pins:List (Addr × Obj)) (s:Shared) (σ:St) (H:Hp) (Q:VK),Inv X pins σ H s→t σ H Q →
    wpAny (model X.prog X.w) X.A (eval a X.env) (fun v s₁=>wpAny (model X.prog X.w) X.A (eval b X.env) (fun u s₂=>wpAny (model X.prog X.w) X.A (compareOp op v u) (EP X pins σ Q) X.xe s₂) X.xe s₁) X.xe s
def tB (t:TE):TT:=fun σ H Q=>t σ H fun x H1=>∃ c,x=.bl c∧Q c H1
theorem Cu {op:CmpOp} {t:TE} (h:PC X op a b t) (h1:behindInMarks op b=false:=by first | exact nobehind _ (by decide) (by decide) | rfl):PT X (.Compare a [op] [b] pos) (tB t):=by
  intro pins s σ H Q I hw
  refine wpAny_isTrue_Compare1 (thn (h pins s σ H _ I hw) fun v s1 h1=>thn h1 fun u s2 h2=>thn h2 fun c s3 ⟨x,H1,I1,r1,q1⟩=>?_) h1
  obtain ⟨d,rfl,q⟩:=q1
  cases r1
  exact wpAny_truthy_bool ⟨H1,I1,q⟩
theorem zT {e:Expr} {t:TE} (h:PE X e t) (he:∀ whole,isTrue e X.env whole=(do let v ← whole; standAt e.pos; holding [v] (truthy v)):=by intro _; rfl):PT X e (tB t):=by
  intro pins s σ H Q I hw
  refine isTrue_plain (thn (h pins s σ H _ I hw) fun v s1 ⟨x,H1,I1,r1,q1⟩=>?_) (he _)
  obtain ⟨d,rfl,q⟩:=q1
  cases r1
  exact wpAny_truthy_bool ⟨H1,I1,q⟩
variable {tA tB':TT} {rest:List Expr}
def tAnd (t u:TT):TT:=fun σ H Q=>t σ H fun c H1=>if c=true then u σ H1 Q else Q false H1
def tOr (t u:TT):TT:=fun σ H Q=>t σ H fun c H1=>if c=true then Q true H1 else u σ H1 Q
def tNot (t:TT):TT:=fun σ H Q=>t σ H fun c H1=>Q (!c) H1
theorem yn (ha:PT X a tA):PW X (.BoolOp .And [a] pos) tA:=by
  intro wh pins s σ H Q I h
  refine isTrue_and (thn (ha pins s σ H Q I h) fun c s1 e=>?_)
  cases c with
  | true=>exact isTrue_and_nil e
  | false=>exact e
theorem y8 (ha:PT X a tA):PW X (.BoolOp .Or [a] pos) tA:=by
  intro wh pins s σ H Q I h
  refine isTrue_or (thn (ha pins s σ H Q I h) fun c s1 e=>?_)
  cases c with
  | false=>exact isTrue_or_nil e
  | true=>exact e
theorem yH (ha:PT X a tA) (hb:PW X (.BoolOp .And (b :: rest) pos) tB'):PW X (.BoolOp .And (a :: b :: rest) pos) (tAnd tA tB'):=by
  intro wh pins s σ H Q I h
  refine isTrue_and (thn (ha pins s σ H _ I h) fun c s1 ⟨H1,I1,q1⟩=>?_)
  cases c with
  | true=>exact hb wh pins s1 σ H1 Q I1 q1
  | false=>exact ⟨H1,I1,q1⟩
theorem yZ (ha:PT X a tA) (hb:PW X (.BoolOp .Or (b :: rest) pos) tB'):PW X (.BoolOp .Or (a :: b :: rest) pos) (tOr tA tB'):=by
  intro wh pins s σ H Q I h
  refine isTrue_or (thn (ha pins s σ H _ I h) fun c s1 ⟨H1,I1,q1⟩=>?_)
  cases c with
  | true=>exact ⟨H1,I1,q1⟩
  | false=>exact hb wh pins s1 σ H1 Q I1 q1
theorem z8 (ha:PT X a tA):PT X (.UnaryOp .Not a pos) (tNot tA):=by
  intro pins s σ H Q I h
  exact isTrue_not (ha pins s σ H (fun c H1=>Q (!c) H1) I h)
def Fp (ta tb:TE):TE:=fun σ H Q=>ta σ H fun x H1=>∃ c,x=.bl c∧if c=true then tb σ H1 Q else Q (.bl false) H1
def tOrV (ta tb:TE):TE:=fun σ H Q=>ta σ H fun x H1=>∃ c,x=.bl c∧if c=true then Q (.bl true) H1 else tb σ H1 Q
def Gx (ta:TE):TE:=fun σ H Q=>ta σ H fun x H1=>∃ c,x=.bl c∧Q (.bl (!c)) H1
theorem wq {op} {t:TE} (h:PE X a t):PE X (.BoolOp op [a] pos) t:=fun pins s σ H Q I hw=>BoolOp_one (h pins s σ H Q I hw)
theorem wo (ha:PE X a ta) (hb:PE X (.BoolOp .And (b :: rest) pos) tb):PE X (.BoolOp .And (a :: b :: rest) pos) (Fp ta tb):=by
  intro pins s σ H Q I h
  refine BoolOp_and (thn (ha pins s σ H _ I h) fun v s1 ⟨x,H1,I1,r1,q1⟩=>?_)
  obtain ⟨c,rfl,q1⟩:=q1
  cases r1
  refine wpAny_truthy_bool ?_
  cases c with
  | true=>exact hb pins s1 σ H1 Q I1 q1
  | false=>exact ⟨.bl false,H1,I1,rfl,q1⟩
theorem GW (ha:PE X a ta) (hb:PE X (.BoolOp .Or (b :: rest) pos) tb):PE X (.BoolOp .Or (a :: b :: rest) pos) (tOrV ta tb):=by
  intro pins s σ H Q I h
  refine BoolOp_or (thn (ha pins s σ H _ I h) fun v s1 ⟨x,H1,I1,r1,q1⟩=>?_)
  obtain ⟨c,rfl,q1⟩:=q1
  cases r1
  refine wpAny_truthy_bool ?_
  cases c with
  | false=>exact hb pins s1 σ H1 Q I1 q1
  | true=>exact ⟨.bl true,H1,I1,rfl,q1⟩
theorem DR (ha:PE X a ta):PE X (.UnaryOp .Not a pos) (Gx ta):=by
  intro pins s σ H Q I h
  refine UnaryOp_ (thn (ha pins s σ H _ I h) fun v s1 ⟨x,H1,I1,r1,q1⟩=>?_)
  obtain ⟨c,rfl,q1⟩:=q1
  cases r1
  exact not_of (wpAny_truthy_bool ⟨.bl (!c),H1,I1,rfl,q1⟩)
def tIf (t:TT) (ta tb:TE):TE:=fun σ H Q=>t σ H fun c H1=>if c=true then ta σ H1 Q else tb σ H1 Q
theorem vV {c:Expr} (hc:PT X c tA) (ha:PE X a ta) (hb:PE X b tb):PE X (.IfExp c a b pos) (tIf tA ta tb):=by
  intro pins s σ H Q I h
  refine wpAny_IfExp (thn (hc pins s σ H _ I h) fun d s1 ⟨H1,I1,q1⟩=>?_)
  cases d with
  | true=>exact ha pins s1 σ H1 Q I1 q1
  | false=>exact hb pins s1 σ H1 Q I1 q1
end
end L2
namespace L2
open PySem PySem.Spec PyProof.Rows
def SqL (K:PySem.W.Frag) (H:Hp) (a:Addr) (xs:List V):Prop :=
  Rd H a (.lst xs) ∨
    ∃ (o:Obj) (its:Array Value) (n:Nat),K.lookup a=some o∧o.cls=.type "list"∧o.dict=none∧o.data=.seq its n∧its.size ≤ sizeLine∧Vals xs its.toList
def SqT (K:PySem.W.Frag) (H:Hp) (a:Addr) (xs:List V):Prop :=
  Rd H a (.tup xs) ∨
    ∃ (o:Obj) (its:Array Value) (n:Nat),K.lookup a=some o∧o.cls=.type "tuple"∧o.data=.seq its n∧its.size ≤ sizeLine∧Vals xs its.toList
def absV:Value→Option V
  | .none=>some .non
  | .bool b=>some (.bl b)
  | .int i _=>some (.int i)
  | .str x _=>some (.str x)
  | .bytes b _=>some (.byt b)
  | .float b _=>some (.flt b)
  | .ref a=>some (.ref a)
  | .type n=>some (.ty n)
  | _=>none
theorem RelV.abs {x:V} {u:Value} (r:RelV x u):absV u=some x:=by
  cases x with
  | non=>cases r; rfl
  | bl _=>cases r; rfl
  | int _=>obtain ⟨t,rfl⟩:=r; rfl
  | str _=>obtain ⟨t,rfl⟩:=r; rfl
  | byt _=>obtain ⟨t,rfl⟩:=r; rfl
  | flt _=>obtain ⟨t,rfl⟩:=r; rfl
  | ref _=>cases r; rfl
  | ty _=>cases r; rfl
theorem RelV.inj {x y:V} {u:Value} (r:RelV x u) (q:RelV y u):x=y:=Option.some.inj (r.abs.symm.trans q.abs)
theorem Vals.inj:∀ {xs ys:List V} {us:List Value},Vals xs us→Vals ys us→xs=ys
  | _,_,_,.nil,.nil=>rfl
  | _,_,_,.cons r t,.cons r' t'=>by rw [r.inj r',Vals.inj t t']
section
variable {X:Cx} {pins:List (Addr × Obj)} {σ:St} {H:Hp} {s:Shared} {a:Addr} {xs ys:List V}
theorem SqL.of {K:PySem.W.Frag} (h:H a=some (.lst xs)):SqL K H a xs:=.inl (.inl h)
theorem SqT.of {K:PySem.W.Frag} (h:H a=some (.tup xs)):SqT K H a xs:=.inl (.inl h)
theorem Inv.list (I:Inv X pins σ H s) (h:SqL X.K H a xs):∃ its:List Value,Vals xs its∧PlainL s.heap a its.toArray∧xs.length ≤ sizeLine:=by
  rcases h with h | ⟨o,its,n,hk,hc,hd,hs,hz,r⟩
  · obtain ⟨z,its,n,r,e⟩:=h.ok I.hok
    exact ⟨its,r,⟨_,n,e,rfl,rfl,rfl⟩,z⟩
  · refine ⟨its.toList,r,⟨o,n,I.kIn a o hk,hc,hd,by simpa using hs⟩,?_⟩
    have e:=r.length
    simp only [Array.length_toList] at e
    omega
theorem Inv.tuple (I:Inv X pins σ H s) (h:SqT X.K H a xs):∃ its:List Value,Vals xs its∧IsTup s.heap a its.toArray∧xs.length ≤ sizeLine:=by
  rcases h with h | ⟨o,its,n,hk,hc,hs,hz,r⟩
  · obtain ⟨z,its,r,p⟩:=h.ok I.hok
    exact ⟨its,r,p,z⟩
  · refine ⟨its.toList,r,⟨o,I.kIn a o hk,hc,n,by simpa using hs⟩,?_⟩
    have e:=r.length
    simp only [Array.length_toList] at e
    omega
theorem Inv.list_inj (I:Inv X pins σ H s) (h:SqL X.K H a xs) (h':SqL X.K H a ys):xs=ys:=by
  obtain ⟨its,r,⟨o,n,e,_,_,d⟩,_⟩:=I.list h
  obtain ⟨its',r',⟨o',n',e',_,_,d'⟩,_⟩:=I.list h'
  rw [e] at e'; cases e'
  rw [d] at d'
  injection d' with d1 _
  have:its=its':=by simpa using congrArg Array.toList d1
  subst this
  exact r.inj r'
theorem Inv.tuple_inj (I:Inv X pins σ H s) (h:SqT X.K H a xs) (h':SqT X.K H a ys):xs=ys:=by
  obtain ⟨its,r,⟨o,e,_,n,d⟩,_⟩:=I.tuple h
  obtain ⟨its',r',⟨o',e',_,n',d'⟩,_⟩:=I.tuple h'
  rw [e] at e'; cases e'
  rw [d] at d'
  injection d' with d1 _
  have:its=its':=by simpa using congrArg Array.toList d1
  subst this
  exact r.inj r'
end
abbrev Cx.wish (X:Cx) (E:Value→Shared→Prop):Cx:={ X with xe:=E }
abbrev Cx.nox (X:Cx):Cx:=X.wish fun _ _=>False
theorem Cx.Ok.wish {X:Cx} (ok:X.Ok) (E:Value→Shared→Prop):(X.wish E).Ok :=
  ⟨ok.mod,ok.kind,ok.glob,ok.blt,ok.above,ok.inj,ok.has,ok.cab,ok.hd,ok.frames,ok.stk,ok.exf,ok.bs,ok.bsz,ok.noex,ok.exfs,ok.funs,ok.frf⟩
theorem Cx.Ok.unwish {X:Cx} {E:Value→Shared→Prop} (ok:(X.wish E).Ok):X.Ok :=
  ⟨ok.mod,ok.kind,ok.glob,ok.blt,ok.above,ok.inj,ok.has,ok.cab,ok.hd,ok.frames,ok.stk,ok.exf,ok.bs,ok.bsz,ok.noex,ok.exfs,ok.funs,ok.frf⟩
section
variable {X:Cx} {pins:List (Addr × Obj)} {σ:St} {H:Hp} {s:Shared} {E:Value→Shared→Prop}
theorem Inv.wish (I:Inv X pins σ H s) (E:Value→Shared→Prop):Inv (X.wish E) pins σ H s:=⟨I.ok.wish E,I.os,I.bare,I.base,I.loc,I.cell,I.free,I.freeC,I.pin,I.hok,I.len⟩
theorem Inv.unwish (I:Inv (X.wish E) pins σ H s):Inv X pins σ H s:=⟨I.ok.unwish,I.os,I.bare,I.base,I.loc,I.cell,I.free,I.freeC,I.pin,I.hok,I.len⟩
theorem SP.unwish {D:Ends} {f:Flow} {s':Shared} (h:SP (X.wish E) pins D f s'):SP X pins D f s':=by
  cases f with
  | next=>obtain ⟨σ',H',I,q⟩:=h; exact ⟨σ',H',I.unwish,q⟩
  | brk=>obtain ⟨σ',H',I,q⟩:=h; exact ⟨σ',H',I.unwish,q⟩
  | cont=>obtain ⟨σ',H',I,q⟩:=h; exact ⟨σ',H',I.unwish,q⟩
  | ret u=>obtain ⟨v,σ',H',I,r,q⟩:=h; exact ⟨v,σ',H',I.unwish,r,q⟩
theorem PSs.nox {st:List Stmt} {t:TS} (h:PSs X.nox st t):PSs X st t:=fun pins s σ H D I hw =>
  wpAny_mono (h pins s σ H D (I.wish _) hw) (fun _ _ q=>q.unwish) fun _ _ z=>False.elim z
end
section
variable {X:Cx} {st:Stmt} {rest:List Stmt} {t u:TS} {e:Expr} {te:TE} {pos:Pos}
def F6:TS:=fun D σ H=>D.nx σ H
def tSeq (t u:TS):TS:=fun D σ H=>t { D with nx:=u D } σ H
theorem zn:PSs X [] F6:=fun _ _ σ H _ I h=>wpAny_execs_nil ⟨σ,H,I,h⟩
theorem zc (h1:PS X st t) (h2:PSs X rest u):PSs X (st :: rest) (tSeq t u):=by
  intro pins s σ H D I h
  refine wpAny_execs_cons (thn (h1 pins s σ H { D with nx:=u D } I h) fun f s1 q=>?_)
  cases f with
  | next =>
    obtain ⟨σ',H',I',q⟩:=q
    exact h2 pins s1 σ' H' D I' q
  | ret v=>exact q
  | brk=>exact q
  | cont=>exact q
theorem zf (h1:PS X st t):PSs X [st] t:=by
  intro pins s σ H D I h
  refine wpAny_execs_cons (thn (h1 pins s σ H D I h) fun f s1 q=>?_)
  cases f with
  | next=>exact wpAny_execs_nil q
  | ret v=>exact q
  | brk=>exact q
  | cont=>exact q
theorem Inv.quiet {pins:List (Addr × Obj)} {σ:St} {H:Hp} {s:Shared} (I:Inv X pins σ H s):interactive X.env=false:=by simp [interactive,I.ok.kind]
def Gq (te:TE):TS:=fun D σ H=>te σ H fun _ H1=>D.nx σ H1
theorem yh (he:PE X e te) (hs:swapsWith e none pos.line X.env=pure false:=by rfl):PS X (.Expr e pos) (Gq te):=by
  intro pins s σ H D I h
  exact wpAny_Expr_any (thn (he pins s σ H _ I h) fun v s1 ⟨x,H1,I1,r1,q1⟩=>⟨σ,H1,I1,q1⟩) I.quiet hs
def tRet (te:TE):TS:=fun D σ H=>te σ H D.rt
theorem zm (he:PE X e te):PS X (.Return (some e) pos) (tRet te):=by
  intro pins s σ H D I h
  exact wpAny_Return_some (thn (he pins s σ H _ I h) fun v s1 ⟨x,H1,I1,r1,q1⟩=>⟨x,σ,H1,I1,r1,q1⟩)
def tIfS (c:TT) (t u:TS):TS:=fun D σ H=>c σ H fun b H1=>if b=true then t D σ H1 else u D σ H1
theorem zE {c:Expr} {a b:List Stmt} {tc:TT} (hc:PT X c tc) (ha:PSs X a t) (hb:PSs X b u):PS X (.If c a b pos) (tIfS tc t u):=by
  intro pins s σ H D I h
  refine wpAny_If (thn (hc pins s σ H _ I h) fun d s1 ⟨H1,I1,q1⟩=>?_)
  cases d with
  | true=>exact ha pins s1 σ H1 D I1 q1
  | false=>exact hb pins s1 σ H1 D I1 q1
def DZ:TS:=fun _ _ _=>False
theorem yK:PS X st DZ:=fun _ _ _ _ _ _ h=>h.elim
theorem B9 {sts:List Stmt}:PSs X sts DZ:=fun _ _ _ _ _ _ h=>h.elim
end
abbrev TG:=V→St→Hp→(St→Hp→Prop)→Prop
abbrev TGs:=List V→St→Hp→(St→Hp→Prop)→Prop
def PG (X:Cx) (target:Expr) (t:TG):Prop :=
  ∀ (pins:List (Addr × Obj)) (s:Shared) (σ:St) (H:Hp) (v:V) (u:Value) (Q:St→Hp→Prop),Inv X pins σ H s→RelV v u→t v σ H Q →
    wpAny (model X.prog X.w) X.A (assign target X.env u) (fun _ s'=>∃ σ' H',Inv X pins σ' H' s'∧Q σ' H') X.xe s
def PGs (X:Cx) (ts:List Expr) (t:TGs):Prop :=
  ∀ (pins:List (Addr × Obj)) (s:Shared) (σ:St) (H:Hp) (vs:List V) (us:List Value) (Q:St→Hp→Prop),Inv X pins σ H s→Vals vs us→t vs σ H Q →
    wpAny (model X.prog X.w) X.A (assignInOrder ((assignEach ts X.env).map (·.2)) us) (fun _ s'=>∃ σ' H',Inv X pins σ' H' s'∧Q σ' H') X.xe s
section
variable {X:Cx} {pos:Pos}
def CW (i:Nat):TG:=fun v σ H Q=>Q (σ.set i (some v)) H
theorem zw {i:Nat} {x:Str} (hN:X.N.Nodup) (hi:X.N[i]?=some x) (hx:Loc X.env.scope x) (hf:X.fn x=true ∨ X.env.scope.names.lookup x=some .local:=by first | exact .inl rfl | exact .inr rfl | assumption):PG X (.Name x pos) (CW i):=by
  intro pins s σ H v u Q I r h
  exact wpAny_assign_Name (wD I hN hi hx r (fun s' I'=>⟨_,H,I',h⟩) hf)
def gNil:TGs:=fun vs σ H Q=>vs=[]∧Q σ H
def Fj (t:TG) (u:TGs):TGs:=fun vs σ H Q=>∃ v r,vs=v :: r∧t v σ H fun σ' H'=>u r σ' H' Q
theorem yN:PGs X [] gNil:=by
  intro pins s σ H vs us Q I r h
  obtain ⟨e,h⟩:=h
  subst e
  cases r
  exact assignInOrder_nil ⟨σ,H,I,h⟩
theorem zM {e:Expr} {es:List Expr} {t:TG} {u:TGs} (h1:PG X e t) (h2:PGs X es u)
    (hs:(assignEach (e :: es) X.env).map (·.2)=assign e X.env :: (assignEach es X.env).map (·.2):=by rfl):PGs X (e :: es) (Fj t u):=by
  intro pins s σ H vs us Q I r h
  obtain ⟨v,vr,e1,h⟩:=h
  subst e1
  cases r with
  | cons r rr =>
    rw [hs]
    refine assignInOrder_cons (thn (h1 pins s σ H _ _ _ I r h) fun _ s1 ⟨σ1,H1,I1,q1⟩=>?_)
    exact h2 pins s1 σ1 H1 _ _ Q I1 rr q1
def gTup (K:PySem.W.Frag) (n:Nat) (t:TGs):TG:=fun v σ H Q=>∃ a xs,v=.ref a∧SqT K H a xs∧xs.length=n∧t xs σ H Q
theorem xv {es:List Expr} {k:Nat} {t:TGs} {n:Nat} (hc:X.calm=true) (h:PGs X es t)
    (hn:(assignEach es X.env).length=n:=by rfl) (hst:(assignEach es X.env).findIdx? (·.1)=none:=by rfl):PG X (.Tuple es k pos) (gTup X.K n t):=by
  intro pins s σ H v u Q I r hw
  obtain ⟨a,xs,e1,hq,hl,hw⟩:=hw
  subst e1
  cases r
  obtain ⟨its,rv,ht,hz⟩:=I.tuple hq
  refine assign_Tuple_tuple (I.ok.hd hc) ht (by simp [hn,← hl,rv.length]) hst fun h' hx=>?_
  have I1:Inv X pins σ H { s with heap:=h' }:=I.kept (t':=s.toks) fun b o e=>hx b o (Nat.ne_of_lt (Heap.lt_size e)) e
  exact h pins _ σ H xs _ Q I1 (by simpa using rv) hw
def tAsg (te:TE) (g:TG):TS:=fun D σ H=>te σ H fun x H1=>g x σ H1 D.nx
theorem wp {tg e:Expr} {te:TE} {g:TG} (he:PE X e te) (hg:PG X tg g) (hs:swapsWithSole [tg] e pos.line X.env=pure false:=by rfl) (hw:swappedStores [tg] e X.env=pure none:=by rfl)
    (h1:(assignEach [tg] X.env).map (·.2)=[assign tg X.env]:=by rfl):PS X (.Assign [tg] e pos) (tAsg te g):=by
  intro pins s σ H D I h
  refine wpAny_Assign_stores (thn (he pins s σ H _ I h) fun v s1 ⟨x,H1,I1,r1,q1⟩=>?_) hs hw
  rw [h1]
  exact thn (hg pins s1 σ H1 x v _ I1 r1 q1) fun _ s2 q=>q
theorem zv {i:Nat} {x:Str} {e:Expr} {te:TE} {pos':Pos} (hN:X.N.Nodup) (hi:X.N[i]?=some x) (hx:Loc X.env.scope x) (he:PE X e te) (hs:swapsWith e (some (.Name x pos')) pos.line X.env=pure false:=by rfl) (hf:X.fn x=true ∨ X.env.scope.names.lookup x=some .local:=by first | exact .inl rfl | exact .inr rfl | assumption) :
    PS X (.Assign [.Name x pos'] e pos) (tAsg te (CW i)):=by
  intro pins s σ H D I h
  refine wpAny_Assign_Name (thn (he pins s σ H _ I h) fun v s1 ⟨y,H1,I1,r1,q1⟩=>?_) hs
  exact wD I1 hN hi hx r1 (fun s2 I2=>⟨_,H1,I2,q1⟩) hf
def tPar (i j:Nat) (ta:TA):TS:=fun D σ H=>ta σ H fun vs H1=>∃ v w,vs=[v,w]∧D.nx ((σ.set i (some v)).set j (some w)) H1
theorem E4 {i j:Nat} {x y:Str} {a b:Expr} {ta:TA} {px py pt:Pos} {kt k2 pt2} (hc:X.calm=true) (hN:X.N.Nodup) (hi:X.N[i]?=some x) (hj:X.N[j]?=some y) (hij:i ≠ j)
    (hx:X.env.scope.names.lookup x=some .local) (hy:X.env.scope.names.lookup y=some .local) (ha:PA X [a,b] ta)
    (hw:swappedStores [.Tuple [.Name x px,.Name y py] kt pt] (.Tuple [a,b] k2 pt2) X.env=pure (some [x,y]))
    (hs:swapsWithSole [.Tuple [.Name x px,.Name y py] kt pt] (.Tuple [a,b] k2 pt2) pos.line X.env=pure false:=by rfl) :
    PS X (.Assign [.Tuple [.Name x px,.Name y py] kt pt] (.Tuple [a,b] k2 pt2) pos) (tPar i j ta):=by
  intro pins s σ H D I h
  rw [exec_Assign_arm]
  refine wpAny_bind (wpAny_standAt ?_)
  rw [hs]
  refine wpAny_bind (wpAny_pure ?_)
  rw [if_neg (by decide)]
  refine wpAny_bind (Tuple_ (thn (ha _ pins s σ H _ I h) fun us s1 ⟨vs,H1,I1,r1,q1⟩=>?_))
  obtain ⟨v,w,e1,q1⟩:=q1
  subst e1
  obtain ⟨u1,u2,rfl,rv,rw'⟩:∃ u1 u2,us=[u1,u2]∧RelV v u1∧RelV w u2:=by
    cases r1 with
    | cons p q =>
      cases q with
      | cons p' q' =>
        cases q'
        exact ⟨_,_,rfl,p,p'⟩
  refine wpAny_newObj_type ?_ (by show 2 ≤ sizeLine; decide)
  have I2:Inv X pins σ H1 { s1 with heap:=s1.heap.push { cls:=.type "tuple",data:=.seq [u1,u2].toArray } }:=I1.kept (t':=s1.toks) fun b o e=>Heap.get?_push_of_some _ e
  rw [hw]
  refine wpAny_bind (wpAny_pure ?_)
  show wpAny (model X.prog X.w) X.A (do rule "assign.swapped-stores"; let items ← unpackItems (.ref s1.heap.objs.size) 2 none; assignInOrder [fun v=>bindName X.env y v,fun v=>bindName X.env x v] items.reverse; pure Flow.next) _ _ _
  refine wpAny_bind (wpAny_rule (wpAny_bind (unpackItems_tuple (items:=#[u1,u2]) (I.ok.hd hc) (IsTup.new s1.heap _) fun h' hx'=>?_)))
  have I3:=I2.kept (h':=h') (t':=s1.toks) fun b o e=>hx' b o (Nat.ne_of_lt (Heap.lt_size e)) e
  show wpAny _ _ (assignInOrder [fun v=>bindName X.env y v,fun v=>bindName X.env x v] [u2,u1] >>= fun _=>pure Flow.next) _ _ _
  refine wpAny_bind (assignInOrder_cons (wpAny_bindName (wD I3 hN hj (.inl hy) rw' (fun s2 I4=>?_) (.inr hy))))
  refine assignInOrder_cons (wpAny_bindName (wD I4 hN hi (.inl hx) rv (fun s3 I5=>assignInOrder_nil (wpAny_pure ?_)) (.inr hx)))
  rw [List.set_comm _ _ (Ne.symm hij)] at I5
  exact ⟨_,H1,I5,q1⟩
end
section
variable {X:Cx} {pos:Pos}
def DW (c:TT) (tb:TS):TS:=fun D σ H=>∃ W:Nat→St→Hp→Prop,(∃ m,W m σ H)∧∀ m σ H,W m σ H →
  c σ H fun b H1=>if b=true then ∃ N:St→Hp→Prop,(∀ σ' H',N σ' H'→∃ m',m' < m∧W m' σ' H')∧tb { D with nx:=N,ct:=N,bk:=D.nx } σ H1 else D.nx σ H1
theorem Af {c:Expr} {body:List Stmt} {tc:TT} {tb:TS} (hp:PassesOwn (model X.prog X.w) X.A X.env X.xe) (hc:PT X c tc) (hb:PSs X body tb):PS X (.While c body [] pos) (DW tc tb):=by
  intro pins s σ H D I h
  obtain ⟨W,⟨m0,w0⟩,turn⟩:=h
  refine wpAny_While (codeAny_whileLoop (fun n s'=>∃ σ' H',Inv X pins σ' H' s'∧W n σ' H') ?_ m0 ⟨σ,H,I,w0⟩)
  rintro n s1 ⟨σ1,H1,I1,w1⟩
  refine wpAny_passesOwn hp (thn (hc pins s1 σ1 H1 _ I1 (turn n σ1 H1 w1)) fun b s2 ⟨H2,I2,q2⟩=>?_)
  cases b with
  | true =>
    obtain ⟨N,hN,q2⟩:=q2
    rw [if_pos rfl]
    refine wpAny_passesOwn hp (thn (hb pins s2 σ1 H2 _ I2 q2) fun f s3 q3=>?_)
    cases f with
    | next =>
      obtain ⟨σ3,H3,I3,n3⟩:=q3
      obtain ⟨m',hm,w3⟩:=hN σ3 H3 n3
      exact ⟨m',hm,σ3,H3,I3,w3⟩
    | cont =>
      obtain ⟨σ3,H3,I3,n3⟩:=q3
      obtain ⟨m',hm,w3⟩:=hN σ3 H3 n3
      exact ⟨m',hm,σ3,H3,I3,w3⟩
    | brk=>exact q3
    | ret v=>exact q3
  | false =>
    rw [if_neg Bool.false_ne_true]
    exact wpAny_execs_nil ⟨σ1,H2,I2,q2⟩
end
structure It where
  go:Nat→Hp→Prop
  yld:Nat→Hp→V→Hp→Prop
  stop:Nat→Hp→Prop
def FpOk (X:Cx) (pins:List (Addr × Obj)) (H:Hp) (b:Addr):Prop :=
  H b=none∧b ≠ X.env.locals∧b ∉ X.fs∧(b ∈ X.ex ∨ X.s₀.heap.objs.size ≤ b)∧(∀ x c,X.env.cells.lookup x=some c→c ≠ b)∧∀ p ∈ X.pn ++ pins,p.1 ≠ b
theorem Inv.fpOk {X:Cx} {pins:List (Addr × Obj)} {σ:St} {H H':Hp} {s:Shared} {b:Addr} (I:Inv X pins σ H s) (hb:s.heap.objs.size ≤ b) (hn:H' b=none):FpOk X pins H' b:=by
  refine ⟨hn,Nat.ne_of_gt (Nat.lt_of_lt_of_le I.lt hb),I.nofs hb,.inr (Nat.le_trans I.sz hb),fun x c e z=>?_,fun p hp z=>?_⟩
  · obtain ⟨v,q⟩:=I.cell x c e
    exact absurd (Nat.lt_of_lt_of_le q.lt (by rw [z]; exact hb)) (Nat.lt_irrefl _)
  · exact absurd (Nat.lt_of_lt_of_le (Heap.lt_size (I.pin p hp).1) (by rw [z]; exact hb)) (Nat.lt_irrefl _)
structure Turn (P:Program) (w:World) (K:PySem.W.Frag) (tg:Expr) (J:It) (fp:List Addr) (it:Addr) (tn:Nat→Heap→Prop):Prop where
  mem:it ∈ fp
  obj:∀ i h,tn i h→∀ b ∈ fp,∃ o,h.get? b=some o∧∀ v,o.data ≠ .cell v
  keep:∀ i h h',tn i h→(∀ b ∈ fp,∀ o,h.get? b=some o→h'.get? b=some o)→tn i h'
  item:∀ (X:Cx),X.prog=P→X.w=w→X.K=K→X.calm=true→∀ (i:Nat) (pins:List (Addr × Obj)) (s:Shared) (σ:St) (H:Hp) (E:Value→Shared→Prop),Inv X pins σ H s→(∀ b ∈ fp,FpOk X pins H b)→tn i s.heap→J.go i H →
    wpAny (model P w) X.A (pyNext (.ref it)) (fun r s1=>∃ u,r=some u ∧
      wpAny (model P w) X.A (letOwnedTupleGo tg (.ref it) u) (fun _ s2=>∃ x H',Inv X pins σ H' s2∧RelV x u∧J.yld i H x H'∧tn (i + 1) s2.heap∧∀ b ∈ fp,H' b=none) E s1) E s
  done:∀ (X:Cx),X.prog=P→X.w=w→X.K=K→X.calm=true→∀ (i:Nat) (pins:List (Addr × Obj)) (s:Shared) (σ:St) (H:Hp) (E:Value→Shared→Prop),Inv X pins σ H s→(∀ b ∈ fp,FpOk X pins H b)→tn i s.heap→J.stop i H →
    wpAny (model P w) X.A (pyNext (.ref it)) (fun r s1=>r=none∧Inv X pins σ H s1) E s
  self:∀ (A:Around) (i:Nat) (s:Shared) (Q:Value→Shared→Prop) (E:Value→Shared→Prop),tn i s.heap→Q (.ref it) s→wpAny (model P w) A (pyIter (.ref it)) Q E s
abbrev TI:=St→Hp→(It→Hp→Prop)→Prop
def PIE (X:Cx) (pins:List (Addr × Obj)) (σ:St) (tg:Expr) (R:It→Hp→Prop) (itv:Value) (s2:Shared):Prop :=
  ∃ (it:Addr) (fp:List Addr) (tn:Nat→Heap→Prop) (J:It) (H':Hp),itv=.ref it∧Inv X pins σ H' s2∧Turn X.prog X.w X.K tg J fp it tn∧tn 0 s2.heap∧(∀ b ∈ fp,FpOk X pins H' b)∧R J H'
def PI (X:Cx) (tg iter:Expr) (wi:TI):Prop :=
  ∀ (pins:List (Addr × Obj)) (s:Shared) (σ:St) (H:Hp) (R:It→Hp→Prop),Inv X pins σ H s→wi σ H R →
    wpAny (model X.prog X.w) X.A (eval iter X.env) (fun v s1=>wpAny (model X.prog X.w) X.A (pyIter v) (PIE X pins σ tg R) X.xe s1) X.xe s
theorem BG {M:Model} {A:Around} {E:Value→Shared→Prop} {s:Shared} {tg:Expr} {it:Addr} {u:Value} {o:Obj} {n:String} {vs:Array Value} {Q:Unit→Shared→Prop} (ho:s.heap.get? it=some o) (hc:o.cls=.type n) (hd:o.data=.fields vs)
    (hn:["enumerate","zip","dict_itemiterator","dict_reverseitemiterator","odict_iterator","itertools.zip_longest","itertools.pairwise"].contains n=false) (hQ:Q () s):wpAny M A (letOwnedTupleGo tg (.ref it) u) Q E s:=by
  unfold letOwnedTupleGo
  cases tg <;> first
    | exact wpAny_pure hQ
    | (cases u <;> first
        | exact wpAny_pure hQ
        | (refine wpAny_bind (wpAny_load ho ?_)
           rw [hc,hd]
           show wpAny M A (if (["enumerate","zip","dict_itemiterator","dict_reverseitemiterator","odict_iterator","itertools.zip_longest","itertools.pairwise"].contains n && vs[0]? == some (rawInt _))=true then _ else _) Q E s
           rw [if_neg (by intro h; rw [hn,Bool.false_and] at h; cases h)]
           exact wpAny_pure hQ))
def Itl (K:PySem.W.Frag) (a:Addr):It :=
  ⟨fun i H=>∃ xs x,SqL K H a xs∧xs[i]?=some x,fun i H x H'=>H'=H∧∀ xs,SqL K H a xs→xs[i]?=some x,fun i H=>∃ xs,SqL K H a xs∧xs.length ≤ i⟩
def Itt (K:PySem.W.Frag) (a:Addr):It :=
  ⟨fun i H=>∃ xs x,SqT K H a xs∧xs[i]?=some x,fun i H x H'=>H'=H∧∀ xs,SqT K H a xs→xs[i]?=some x,fun i H=>∃ xs,SqT K H a xs∧xs.length ≤ i⟩
def Itr (lo:Int) (n:Nat):It:=⟨fun i _=>i < n,fun i H x H'=>H'=H∧x=.int (lo + i),fun i _=>n ≤ i⟩
theorem Bz {P:Program} {w:World} {K:PySem.W.Frag} {tg:Expr} (a it:Addr):Turn P w K tg (Itl K a) [it] it (fun i h=>h.IsListIter it a i) where
  mem:=by simp
  obj:=fun i h st b hb=>by
    have e:b=it:=by simpa using hb
    subst e
    obtain ⟨o,e,c,d⟩:=st
    exact ⟨o,e,fun v z=>by rw [d] at z; cases z⟩
  keep:=fun i h h' st k=>st.at fun o e=>k it (by simp) o e
  item:=by
    intro X hP hw hK hc i pins s σ H E I hf st hg
    subst hP hw hK
    obtain ⟨xs,x,hq,hx⟩:=hg
    obtain ⟨its,rv,p,hz⟩:=I.list hq
    obtain ⟨u,hu,ru⟩:=rv.get hx
    obtain ⟨f0,f1,f2,f3,f4,f5⟩:=hf it (by simp)
    refine wpAny_pyNext_list_item st p.isList (x:=u) (by simpa using hu) fun h' st' sb=>?_
    have I1:Inv X pins σ H { s with heap:=h' }:=I.turned (t':=s.toks) (fun b o hb e=>(sb.2 b hb).trans e) f0 f1 f3 f4 f5
    obtain ⟨o,e,c,d⟩:=id st'
    exact ⟨u,rfl,BG (s:={ s with heap:=h' }) e c d (by decide) ⟨x,H,I1,ru,⟨rfl,fun ys hy=>by rw [I.list_inj hy hq]; exact hx⟩,st',fun b hb=>(hf b hb).1⟩⟩
  done:=by
    intro X hP hw hK hc i pins s σ H E I hf st hg
    subst hP hw hK
    obtain ⟨xs,hq,hx⟩:=hg
    obtain ⟨its,rv,p,hz⟩:=I.list hq
    obtain ⟨f0,f1,f2,f3,f4,f5⟩:=hf it (by simp)
    have hl:=rv.length
    exact wpAny_pyNext_list_end (I.ok.hd hc) st p.isList (by simp; omega) fun h' eb=>⟨rfl,I.turned (t':=s.toks) (fun b o hb e=>eb b o hb e) f0 f1 f3 f4 f5⟩
  self:=fun _ _ _ _ _ st h=>wpAny_pyIter_listiter st h
theorem AF {P:Program} {w:World} {K:PySem.W.Frag} {tg:Expr} (a it:Addr):Turn P w K tg (Itt K a) [it] it (fun i h=>h.IsTupleIter it a i) where
  mem:=by simp
  obj:=fun i h st b hb=>by
    have e:b=it:=by simpa using hb
    subst e
    obtain ⟨o,e,c,d⟩:=st
    exact ⟨o,e,fun v z=>by rw [d] at z; cases z⟩
  keep:=fun i h h' st k=>st.at fun o e=>k it (by simp) o e
  item:=by
    intro X hP hw hK hc i pins s σ H E I hf st hg
    subst hP hw hK
    obtain ⟨xs,x,hq,hx⟩:=hg
    obtain ⟨its,rv,p,hz⟩:=I.tuple hq
    obtain ⟨u,hu,ru⟩:=rv.get hx
    obtain ⟨f0,f1,f2,f3,f4,f5⟩:=hf it (by simp)
    refine wpAny_pyNext_tuple_item st (show s.heap.IsTuple a its.toArray from p) (x:=u) (by simpa using hu) fun h' st' sb=>?_
    have I1:Inv X pins σ H { s with heap:=h' }:=I.turned (t':=s.toks) (fun b o hb e=>(sb.2 b hb).trans e) f0 f1 f3 f4 f5
    obtain ⟨o,e,c,d⟩:=id st'
    exact ⟨u,rfl,BG (s:={ s with heap:=h' }) e c d (by decide) ⟨x,H,I1,ru,⟨rfl,fun ys hy=>by rw [I.tuple_inj hy hq]; exact hx⟩,st',fun b hb=>(hf b hb).1⟩⟩
  done:=by
    intro X hP hw hK hc i pins s σ H E I hf st hg
    subst hP hw hK
    obtain ⟨xs,hq,hx⟩:=hg
    obtain ⟨its,rv,p,hz⟩:=I.tuple hq
    obtain ⟨f0,f1,f2,f3,f4,f5⟩:=hf it (by simp)
    have hl:=rv.length
    exact wpAny_pyNext_tuple_end (I.ok.hd hc) st (show s.heap.IsTuple a its.toArray from p) (by simp; omega) fun h' eb=>⟨rfl,I.turned (t':=s.toks) (fun b o hb e=>eb b o hb e) f0 f1 f3 f4 f5⟩
  self:=fun _ _ _ _ _ st h=>wpAny_pyIter_tupleiter st h
theorem AC {P:Program} {w:World} {K:PySem.W.Frag} {tg:Expr} (it:Addr) (lo:Int) (n:Nat):Turn P w K tg (Itr lo n) [it] it (fun i h=>IsRangeIter h it (lo + (i:Nat) * 1) ((n:Int) - (i:Nat)) 1) where
  mem:=by simp
  obj:=fun i h st b hb=>by
    have e:b=it:=by simpa using hb
    subst e
    exact ⟨_,st,fun v z=>by
      have z':Data.fields _=Data.cell v:=z
      cases z'⟩
  keep:=fun i h h' st k=>k it (by simp) _ st
  item:=by
    intro X hP hw hK hc i pins s σ H E I hf st hg
    subst hP hw hK
    obtain ⟨f0,f1,f2,f3,f4,f5⟩:=hf it (by simp)
    have W:=Walks.range (prog:=X.prog) (w:=X.w) (I.ok.hd hc) it lo 1 n
    refine W.item i s _ _ hg st fun v h' tk hv st' kk=>?_
    obtain ⟨t,rfl⟩:=hv
    have I1:Inv X pins σ H { s with heap:=h',toks:=tk }:=I.turned (fun b o hb e=>kk b o (by simpa using hb) e) f0 f1 f3 f4 f5
    refine ⟨_,rfl,BG (s:={ s with heap:=h',toks:=tk }) (n:="range_iterator") st' rfl rfl (by decide) ⟨.int (lo + i),H,I1,⟨t,?_⟩,⟨rfl,rfl⟩,st',fun b hb=>(hf b hb).1⟩⟩
    rw [Int.mul_one]
  done:=by
    intro X hP hw hK hc i pins s σ H E I hf st hg
    subst hP hw hK
    obtain ⟨f0,f1,f2,f3,f4,f5⟩:=hf it (by simp)
    exact wpAny_pyNext_range_end (I.ok.hd hc) st (by have:n ≤ i:=hg; omega) fun h' eb=>⟨rfl,I.turned (t':=s.toks) (fun b o hb e=>eb b o hb e) f0 f1 f3 f4 f5⟩
  self:=fun _ _ _ _ _ st h=>wpAny_pyIter_rangeiter st h
end L2
namespace L2
open PySem PySem.Spec PyProof.Rows
section
variable {X:Cx} {tg:Expr}
def Eo (K:PySem.W.Frag) (tl:TE):TI:=fun σ H R=>tl σ H fun x H1=>∃ a,x=.ref a∧(∃ xs,SqL K H1 a xs)∧R (Itl K a) H1
def iTup (K:PySem.W.Frag) (tl:TE):TI:=fun σ H R=>tl σ H fun x H1=>∃ a,x=.ref a∧(∃ xs,SqT K H1 a xs)∧R (Itt K a) H1
theorem zW {l:Expr} {tl:TE} (hl:PE X l tl):PI X tg l (Eo X.K tl):=by
  intro pins s σ H R I h
  refine thn (hl pins s σ H _ I h) fun v s1 ⟨x,H1,I1,r1,q1⟩=>?_
  obtain ⟨a,e,⟨xs,hq⟩,q⟩:=q1
  subst e
  cases r1
  obtain ⟨its,rv,p,hz⟩:=I1.list hq
  refine wpAny_pyIter_list p.isList ?_
  refine ⟨s1.heap.objs.size,[s1.heap.objs.size],_,_,H1,rfl,I1.kept (t':=s1.toks) fun b o e=>Heap.get?_push_of_some _ e,Bz a _,⟨_,Heap.get?_push_size _ rfl,rfl,rfl⟩,fun b hb=>?_,q⟩
  have e:b=s1.heap.objs.size:=by simpa using hb
  subst e
  exact I1.fpOk (Nat.le_refl _) (I1.hok.fresh (Nat.le_refl _))
theorem Gr {l:Expr} {tl:TE} (hl:PE X l tl):PI X tg l (iTup X.K tl):=by
  intro pins s σ H R I h
  refine thn (hl pins s σ H _ I h) fun v s1 ⟨x,H1,I1,r1,q1⟩=>?_
  obtain ⟨a,e,⟨xs,hq⟩,q⟩:=q1
  subst e
  cases r1
  obtain ⟨its,rv,p,hz⟩:=I1.tuple hq
  refine wpAny_pyIter_tuple (show s1.heap.IsTuple a its.toArray from p) ?_
  refine ⟨s1.heap.objs.size,[s1.heap.objs.size],_,_,H1,rfl,I1.kept (t':=s1.toks) fun b o e=>Heap.get?_push_of_some _ e,AF a _,⟨_,Heap.get?_push_size _ rfl,rfl,rfl⟩,fun b hb=>?_,q⟩
  have e:b=s1.heap.objs.size:=by simpa using hb
  subst e
  exact I1.fpOk (Nat.le_refl _) (I1.hok.fresh (Nat.le_refl _))
theorem Aa {pins:List (Addr × Obj)} {σ:St} {H:Hp} {s:Shared} {R:It→Hp→Prop} {E:Value→Shared→Prop} {lo hi:Int} {t u v:Tok} {tk:Nat} (I:Inv X pins σ H s) (h1:-(2 ^ 62) ≤ lo) (h2:lo < 2 ^ 62) (h3:-(2 ^ 62) ≤ hi) (h4:hi < 2 ^ 62)
    (q:R (Itr lo (hi - lo).toNat) H):wpAny (model X.prog X.w) X.A (pyIter (.ref s.heap.objs.size)) (PIE X pins σ tg R) E { s with heap:=s.heap.push { cls:=.type "range",data:=.fields #[.int lo t,.int hi u,.int 1 v] },toks:=tk }:=by
  refine wpAny_pyIter_range (IsRange.new ..) (small_one h1 h2 h3 h4) ?_
  have I1:Inv X pins σ H { s with heap:=s.heap.push { cls:=.type "range",data:=.fields #[.int lo t,.int hi u,.int 1 v] },toks:=tk }:=I.kept fun b o e=>Heap.get?_push_of_some _ e
  refine ⟨(s.heap.push { cls:=.type "range",data:=.fields #[.int lo t,.int hi u,.int 1 v] }).objs.size,[(s.heap.push { cls:=.type "range",data:=.fields #[.int lo t,.int hi u,.int 1 v] }).objs.size],_,_,H,rfl,
    I1.kept (t':=tk) fun b o e=>Heap.get?_push_of_some _ e,AC _ lo (hi - lo).toNat,?_,fun b hb=>?_,q⟩
  · have e1:lo + ((0:Nat):Int) * 1=lo:=by simp
    have e2:(((hi - lo).toNat:Nat):Int) - ((0:Nat):Int)=Builtin.Range.rangeSize lo hi 1:=by rw [rangeSize_one]; split <;> omega
    show IsRangeIter _ _ (lo + ((0:Nat):Int) * 1) ((((hi - lo).toNat:Nat):Int) - ((0:Nat):Int)) 1
    rw [e1,e2]
    exact Heap.get?_push_size _ rfl
  · have e:b=(s.heap.push { cls:=.type "range",data:=.fields #[.int lo t,.int hi u,.int 1 v] }).objs.size:=by simpa using hb
    subst e
    exact I1.fpOk (Nat.le_refl _) (I1.hok.fresh (Nat.le_refl _))
def EZ (ta:TA):TI:=fun σ H R=>ta σ H fun vs H1=>∃ j:Int,vs=[.int j]∧-(2 ^ 62) ≤ j∧j < 2 ^ 62∧R (Itr 0 j.toNat) H1
def Gv (ta:TA):TI:=fun σ H R=>ta σ H fun vs H1=>∃ i j:Int,vs=[.int i,.int j]∧(-(2 ^ 62) ≤ i∧i < 2 ^ 62∧-(2 ^ 62) ≤ j∧j < 2 ^ 62)∧R (Itr i (j - i).toNat) H1
theorem yF {a:Expr} {ta:TA} {p pos:Pos} (hg:Gl X "range") (hm:X.mg "range"=none) (ha:PA X [a] ta) (hs:starEach [a] X.env=[(false,eval a X.env)]:=by rfl):PI X tg (.Call (.Name "range" p) [a] [] pos) (EZ ta):=by
  intro pins s σ H R I h
  refine Call_ (xT I hg hm boot_range (PyProof.Rows.callWith_type1 (thn (ha pos pins s σ H _ I h) fun us s1 ⟨vs,H1,I1,r1,q1⟩=>?_) hs rfl))
  obtain ⟨j,e,q1,q2,q⟩:=q1
  subst e
  cases r1 with
  | cons r rr =>
    cases rr
    obtain ⟨t,rfl⟩:=r
    exact call_range_1 (Aa I1 (by omega) (by omega) q1 q2 (by simpa using q))
theorem ul {a b:Expr} {ta:TA} {p pos:Pos} (hg:Gl X "range") (hm:X.mg "range"=none) (ha:PA X [a,b] ta) (hs:starEach [a,b] X.env=[(false,eval a X.env),(false,eval b X.env)]:=by rfl) (hs2:starEach [b] X.env=[(false,eval b X.env)]:=by rfl) :
    PI X tg (.Call (.Name "range" p) [a,b] [] pos) (Gv ta):=by
  intro pins s σ H R I h
  refine Call_ (xT I hg hm boot_range (PyProof.Rows.callWith_type1 (thn (ha pos pins s σ H _ I h) fun us s1 ⟨vs,H1,I1,r1,q1⟩=>?_) (by rw [hs,hs2]) (by rw [hs2]; rfl)))
  obtain ⟨i,j,e,⟨q1,q2,q3,q4⟩,q⟩:=q1
  subst e
  cases r1 with
  | cons r rr =>
    cases rr with
    | cons r' rr =>
      cases rr
      obtain ⟨t,rfl⟩:=r
      obtain ⟨t',rfl⟩:=r'
      exact call_range_2 (Aa I1 q1 q2 q3 q4 q)
def tFor (wi:TI) (g:TG) (tb:TS):TS:=fun D σ H=>wi σ H fun J H1=>∃ W:Nat→Nat→St→Hp→Prop,(∃ m,W 0 m σ H1)∧∀ i m σ H,W i m σ H →
  (J.stop i H∧D.nx σ H) ∨ (J.go i H∧∃ N:St→Hp→Prop,(∀ σ' H',N σ' H'→∃ m',m' < m∧W (i + 1) m' σ' H')∧∀ x H',J.yld i H x H'→g x σ H' fun σ2 H2=>tb { D with nx:=N,ct:=N,bk:=D.nx } σ2 H2)
def uk (fp:List Addr) (h:Heap):List (Addr × Obj):=fp.filterMap fun b=>(h.get? b).map fun o=>(b,o)
theorem xo {fp:List Addr} {h:Heap} {b:Addr} {o:Obj} (hb:b ∈ fp) (e:h.get? b=some o):(b,o) ∈ uk fp h:=List.mem_filterMap.mpr ⟨b,hb,by rw [e]; rfl⟩
theorem BN {fp:List Addr} {h:Heap} {p:Addr × Obj} (hp:p ∈ uk fp h):p.1 ∈ fp∧h.get? p.1=some p.2:=by
  obtain ⟨b,hb,e⟩:=List.mem_filterMap.mp hp
  cases q:h.get? b with
  | none=>rw [q] at e; cases e
  | some o =>
    rw [q] at e
    have e':(b,o)=p:=Option.some.inj e
    subst e'
    exact ⟨hb,q⟩
theorem Inv.pinned {pins:List (Addr × Obj)} {σ:St} {H:Hp} {s:Shared} {fp:List Addr} (I:Inv X pins σ H s) (hf:∀ b ∈ fp,FpOk X pins H b) (ho:∀ b ∈ fp,∃ o,s.heap.get? b=some o∧∀ v,o.data ≠ .cell v):Inv X (pins ++ uk fp s.heap) σ H s :=
  I.pins_of fun p hp=>(List.mem_append.mp hp).elim (fun z=>I.pin p (List.mem_append_right _ z)) fun z=>by
    obtain ⟨hb,e⟩:=BN z
    obtain ⟨f0,f1,f2,_⟩:=hf p.1 hb
    obtain ⟨o,e',d⟩:=ho p.1 hb
    rw [e] at e'; cases e'
    exact ⟨e,f0,f1,f2,d⟩
theorem Inv.unpinned {pins pl:List (Addr × Obj)} {σ:St} {H:Hp} {s:Shared} (I:Inv X (pins ++ pl) σ H s):Inv X pins σ H s:=I.pins_of fun p hp=>I.pin p (List.mem_append_right _ (List.mem_append_left _ hp))
theorem yE {iter:Expr} {body:List Stmt} {wi:TI} {g:TG} {tb:TS} {pos:Pos} (hp:PassesOwn (model X.prog X.w) X.A X.env X.xe) (hc:X.calm=true) (hi:PI X tg iter wi) (hg:PG X tg g) (hb:PSs X body tb)
    (hs:∀ x,foldedSetIterable iter X.env x=pure x:=by intro _; rfl):PS X (.For tg iter body [] pos) (tFor wi g tb):=by
  intro pins s σ H D I h
  refine wpAny_For (thn (hi pins s σ H _ I h) fun v s1 h1=>thn h1 fun itv s2 h2=>?_) hs
  obtain ⟨it,fp,tn,J,H2,e,I2,T,st2,f2,W,⟨m0,w0⟩,turn⟩:=h2
  subst e
  have stat:∀ {H':Hp},(∀ b ∈ fp,H' b=none)→∀ b ∈ fp,FpOk X pins H' b:=fun hn b hb=>⟨hn b hb,(f2 b hb).2⟩
  refine codeAny_forLoop_any (fun n s'=>∃ i σ' H',Inv X pins σ' H' s'∧tn i s'.heap∧(∀ b ∈ fp,H' b=none)∧W i n σ' H') ?_ m0 ⟨0,σ,H2,I2,st2,fun b hb=>(f2 b hb).1,w0⟩
  rintro n s3 ⟨i,σ3,H3,I3,st3,fr3,w3⟩
  rcases turn i n σ3 H3 w3 with ⟨stop,qn⟩ | ⟨go,N,hN,step⟩
  · refine wpAny_passesOwn hp (thn (T.done X rfl rfl rfl hc i pins s3 σ3 H3 X.xe I3 (stat fr3) st3 stop) fun r s4 ⟨hr,I4⟩=>?_)
    subst hr
    exact wpAny_execs_nil ⟨σ3,H3,I4,qn⟩
  · refine wpAny_passesOwn hp (thn (T.item X rfl rfl rfl hc i pins s3 σ3 H3 X.xe I3 (stat fr3) st3 go) fun r s4 ⟨u,hr,h4⟩=>?_)
    subst hr
    refine wpAny_passesOwn hp (thn h4 fun _ s5 ⟨x,H5,I5,r5,y5,st5,fr5⟩=>?_)
    have I5':=I5.pinned (stat fr5) (T.obj _ _ st5)
    refine wpAny_passesOwn hp (thn (hg _ s5 σ3 H5 x u _ I5' r5 (step x H5 y5)) fun _ s6 ⟨σ6,H6,I6,q6⟩=>?_)
    refine wpAny_passesOwn hp (thn (hb _ s6 σ6 H6 _ I6 q6) fun f s7 q7=>?_)
    have again:∀ {σ7:St} {H7:Hp},Inv X (pins ++ uk fp s5.heap) σ7 H7 s7→N σ7 H7→∃ m,m < n∧∃ i σ' H',Inv X pins σ' H' s7∧tn i s7.heap∧(∀ b ∈ fp,H' b=none)∧W i m σ' H':=fun {σ7 H7} I7 n7=>by
      obtain ⟨m',hm,w7⟩:=hN σ7 H7 n7
      refine ⟨m',hm,i + 1,σ7,H7,I7.unpinned,T.keep _ _ _ st5 fun b hb o e=>(I7.pin (b,o) (List.mem_append_right _ (List.mem_append_right _ (xo hb e)))).1,fun b hb=>?_,w7⟩
      obtain ⟨o,e,d⟩:=T.obj _ _ st5 b hb
      exact (I7.pin (b,o) (List.mem_append_right _ (List.mem_append_right _ (xo hb e)))).2.1
    cases f with
    | next=>obtain ⟨σ7,H7,I7,n7⟩:=q7; exact again I7 n7
    | cont=>obtain ⟨σ7,H7,I7,n7⟩:=q7; exact again I7 n7
    | brk=>obtain ⟨σ7,H7,I7,q7⟩:=q7; exact ⟨σ7,H7,I7.unpinned,q7⟩
    | ret v=>obtain ⟨x7,σ7,H7,I7,r7,q7⟩:=q7; exact ⟨x7,σ7,H7,I7.unpinned,r7,q7⟩
end
theorem yM {K:PySem.W.Frag} {a:Addr} {xs:List V} {g:TG} {tb:TS} {D:Ends} {σ:St} {H:Hp} (Pv:Nat→St→Hp→Prop) (h0:Pv 0 σ H) (hl:∀ i σ H,i ≤ xs.length→Pv i σ H→SqL K H a xs)
    (hs:∀ i x σ H,xs[i]?=some x→Pv i σ H→g x σ H fun σ2 H2=>tb { D with nx:=Pv (i + 1),ct:=Pv (i + 1),bk:=D.nx } σ2 H2) (hd:∀ σ H,Pv xs.length σ H→D.nx σ H) :
    ∃ W:Nat→Nat→St→Hp→Prop,(∃ m,W 0 m σ H)∧∀ i m σ H,W i m σ H →
      ((Itl K a).stop i H∧D.nx σ H) ∨ ((Itl K a).go i H∧∃ N:St→Hp→Prop,(∀ σ' H',N σ' H'→∃ m',m' < m∧W (i + 1) m' σ' H')∧∀ x H',(Itl K a).yld i H x H'→g x σ H' fun σ2 H2=>tb { D with nx:=N,ct:=N,bk:=D.nx } σ2 H2):=by
  refine ⟨fun i m σ H=>m=xs.length - i∧i ≤ xs.length∧Pv i σ H,⟨xs.length,by simp,Nat.zero_le _,h0⟩,?_⟩
  rintro i m σ H ⟨rfl,hi,p⟩
  have q:=hl i σ H hi p
  by_cases hlt:i < xs.length
  · refine .inr ⟨⟨xs,xs[i],q,by simp [hlt]⟩,Pv (i + 1),fun σ' H' p'=>⟨xs.length - (i + 1),by omega,rfl,hlt,p'⟩,fun x H' y=>?_⟩
    obtain ⟨e,y⟩:=y
    subst e
    exact hs i x σ _ (y xs q) p
  · have e:i=xs.length:=by omega
    subst e
    exact .inl ⟨⟨xs,q,Nat.le_refl _⟩,hd σ H p⟩
theorem xD {lo:Int} {n:Nat} {g:TG} {tb:TS} {D:Ends} {σ:St} {H:Hp} (Pv:Nat→St→Hp→Prop) (h0:Pv 0 σ H)
    (hs:∀ i σ H,i < n→Pv i σ H→g (.int (lo + i)) σ H fun σ2 H2=>tb { D with nx:=Pv (i + 1),ct:=Pv (i + 1),bk:=D.nx } σ2 H2) (hd:∀ σ H,Pv n σ H→D.nx σ H) :
    ∃ W:Nat→Nat→St→Hp→Prop,(∃ m,W 0 m σ H)∧∀ i m σ H,W i m σ H →
      ((Itr lo n).stop i H∧D.nx σ H) ∨ ((Itr lo n).go i H∧∃ N:St→Hp→Prop,(∀ σ' H',N σ' H'→∃ m',m' < m∧W (i + 1) m' σ' H')∧∀ x H',(Itr lo n).yld i H x H'→g x σ H' fun σ2 H2=>tb { D with nx:=N,ct:=N,bk:=D.nx } σ2 H2):=by
  refine ⟨fun i m σ H=>m=n - i∧i ≤ n∧Pv i σ H,⟨n,by simp,Nat.zero_le _,h0⟩,?_⟩
  rintro i m σ H ⟨rfl,hi,p⟩
  by_cases hlt:i < n
  · refine .inr ⟨hlt,Pv (i + 1),fun σ' H' p'=>⟨n - (i + 1),by omega,rfl,hlt,p'⟩,fun x H' y=>?_⟩
    obtain ⟨e,y⟩:=y
    subst e y
    exact hs i σ _ hlt p
  · have e:i=n:=by omega
    subst e
    exact .inl ⟨Nat.le_refl _,hd σ H p⟩
theorem Ag {c:TT} {tb:TS} {D:Ends} {σ:St} {H:Hp} (Pv:St→Hp→Prop) (μ:St→Hp→Nat) (h0:Pv σ H)
    (hs:∀ σ H,Pv σ H→c σ H fun b H1=>if b=true then tb { D with nx:=fun σ' H'=>Pv σ' H'∧μ σ' H' < μ σ H,ct:=fun σ' H'=>Pv σ' H'∧μ σ' H' < μ σ H,bk:=D.nx } σ H1 else D.nx σ H1)
    (mono:∀ σ H Q Q',(∀ b H1,Q b H1→Q' b H1)→c σ H Q→c σ H Q'):DW c tb D σ H:=by
  refine ⟨fun m σ H=>m=μ σ H∧Pv σ H,⟨_,rfl,h0⟩,?_⟩
  rintro m σ H ⟨rfl,p⟩
  refine mono σ H _ _ (fun b H1 q=>?_) (hs σ H p)
  cases b with
  | true=>exact ⟨_,fun σ' H' ⟨p',l⟩=>⟨_,l,rfl,p'⟩,q⟩
  | false=>exact q
end L2
namespace L2
open PySem PySem.Spec PyProof.Rows
abbrev R2:=V→V→Hp→VK→Prop
def OpR (X:Cx) (f:Value→Value→Sem Value) (r:R2):Prop :=
  ∀ (pins:List (Addr × Obj)) (s:Shared) (σ:St) (H:Hp) (x y:V) (v u:Value) (Q:VK),Inv X pins σ H s→RelV x v→RelV y u→r x y H Q →
    wpAny (model X.prog X.w) X.A (f v u) (EP X pins σ Q) X.xe s
def UnR (X:Cx) (f:Value→Sem Value) (r:V→Hp→VK→Prop):Prop :=
  ∀ (pins:List (Addr × Obj)) (s:Shared) (σ:St) (H:Hp) (x:V) (v:Value) (Q:VK),Inv X pins σ H s→RelV x v→r x H Q →
    wpAny (model X.prog X.w) X.A (f v) (EP X pins σ Q) X.xe s
def xh (X:Cx) (f:Value) (r:List V→Hp→VK→Prop):Prop :=
  ∀ (pins:List (Addr × Obj)) (s:Shared) (σ:St) (H:Hp) (xs:List V) (us:List Value) (Q:VK),Inv X pins σ H s→Vals xs us→r xs H Q →
    wpAny (model X.prog X.w) X.A (call f us) (EP X pins σ Q) X.xe s
def tOp (r:R2) (ta tb:TE):TE:=fun σ H Q=>ta σ H fun x H1=>tb σ H1 fun y H2=>r x y H2 Q
def tUn (r:V→Hp→VK→Prop) (ta:TE):TE:=fun σ H Q=>ta σ H fun x H1=>r x H1 Q
def rI (C:Int→Int→Prop) (g:Int→Int→V):R2:=fun x y H Q=>∃ i j,x=.int i∧y=.int j∧C i j∧Q (g i j) H
def rI0 (g:Int→Int→V):R2:=fun x y H Q=>∃ i j,x=.int i∧y=.int j∧Q (g i j) H
def rU (g:Int→V):V→Hp→VK→Prop:=fun x H Q=>∃ i,x=.int i∧Q (g i) H
section
variable {X:Cx} {a b c:Expr} {ta tb tc:TE} {pos:Pos}
theorem binT (ha:PE X a ta) (hb:PE X b tb) {pins:List (Addr × Obj)} {s:Shared} {σ:St} {H:Hp} {R:V→V→Hp→Prop} (I:Inv X pins σ H s)
    (h:ta σ H fun x H1=>tb σ H1 fun y H2=>R x y H2) {Q:Value→Shared→Prop} {f:Value→Value→Sem Value}
    (hf:∀ v u s2 x y H2,Inv X pins σ H2 s2→RelV x v→RelV y u→R x y H2→wpAny (model X.prog X.w) X.A (f v u) Q X.xe s2) :
    wpAny (model X.prog X.w) X.A (eval a X.env) (fun v s₁=>wpAny (model X.prog X.w) X.A (eval b X.env) (fun u s₂=>wpAny (model X.prog X.w) X.A (f v u) Q X.xe s₂) X.xe s₁) X.xe s:=by
  refine thn (ha pins s σ H _ I h) fun v s1 ⟨x,H1,I1,r1,q1⟩=>?_
  refine thn (hb pins s1 σ H1 _ I1 q1) fun u s2 ⟨y,H2,I2,r2,q2⟩=>?_
  exact hf v u s2 x y H2 I2 r1 r2 q2
theorem zr {op:Operator} {r:R2} (ho:OpR X (binaryOp op) r) (ha:PE X a ta) (hb:PE X b tb):PE X (.BinOp a op b pos) (tOp r ta tb):=by
  intro pins s σ H Q I h
  exact wpAny_BinOp (binT ha hb I h fun v u s2 x y H2 I2 rx ry q=>ho pins s2 σ H2 x y v u Q I2 rx ry q)
theorem vS {op:UnaryOp} {r:V→Hp→VK→Prop} (ho:UnR X (unaryOp op) r) (ha:PE X a ta):PE X (.UnaryOp op a pos) (tUn r ta):=by
  intro pins s σ H Q I h
  exact UnaryOp_ (thn (ha pins s σ H _ I h) fun v s1 ⟨x,H1,I1,r1,q1⟩=>ho pins s1 σ H1 x v Q I1 r1 q1)
theorem opI {f:Value→Value→Sem Value} {C:Int→Int→Prop} {g:Int→Int→Int}
    (rule:∀ (i j:Int) (t u:Tok) (s:Shared) (Q:Value→Shared→Prop) (E:Value→Shared→Prop),C i j→Q (.int (g i j) s.toks) { s with toks:=s.toks + 1 }→wpAny (model X.prog X.w) X.A (f (.int i t) (.int j u)) Q E s) :
    OpR X f (rI C fun i j=>.int (g i j)):=by
  intro pins s σ H x y v u Q I rx ry h
  obtain ⟨i,j,rfl,rfl,hc,q⟩:=h
  obtain ⟨t,rfl⟩:=rx
  obtain ⟨t',rfl⟩:=ry
  exact rule i j t t' s _ _ hc ⟨.int (g i j),H,I.tok _,⟨_,rfl⟩,q⟩
theorem opI0 {f:Value→Value→Sem Value} {g:Int→Int→Int}
    (rule:∀ (i j:Int) (t u:Tok) (s:Shared) (Q:Value→Shared→Prop) (E:Value→Shared→Prop),Q (.int (g i j) s.toks) { s with toks:=s.toks + 1 }→wpAny (model X.prog X.w) X.A (f (.int i t) (.int j u)) Q E s) :
    OpR X f (rI0 fun i j=>.int (g i j)):=by
  intro pins s σ H x y v u Q I rx ry h
  obtain ⟨i,j,rfl,rfl,q⟩:=h
  obtain ⟨t,rfl⟩:=rx
  obtain ⟨t',rfl⟩:=ry
  exact rule i j t t' s _ _ ⟨.int (g i j),H,I.tok _,⟨_,rfl⟩,q⟩
theorem opB0 {f:Value→Value→Sem Value} {g:Int→Int→Bool}
    (rule:∀ (i j:Int) (t u:Tok) (s:Shared) (Q:Value→Shared→Prop) (E:Value→Shared→Prop),Q (.bool (g i j)) s→wpAny (model X.prog X.w) X.A (f (.int i t) (.int j u)) Q E s) :
    OpR X f (rI0 fun i j=>.bl (g i j)):=by
  intro pins s σ H x y v u Q I rx ry h
  obtain ⟨i,j,rfl,rfl,q⟩:=h
  obtain ⟨t,rfl⟩:=rx
  obtain ⟨t',rfl⟩:=ry
  exact rule i j t t' s _ _ ⟨.bl (g i j),H,I,rfl,q⟩
theorem zZ:OpR X (binaryOp .Add) (rI0 fun i j=>.int (i + j)):=opI0 fun _ _ _ _ _ _ _ q=>add_int q
theorem xn:OpR X (binaryOp .Sub) (rI0 fun i j=>.int (i - j)):=opI0 fun _ _ _ _ _ _ _ q=>sub_int q
theorem zQ:OpR X (binaryOp .Mod) (rI (fun _ j=>0 < j) fun i j=>.int (i % j)):=opI fun i j _ _ _ _ _ hc q=>by
  have h1:(0:Int) < j:=hc
  exact mod_int' (by omega) (by rw [Int.fmod_eq_emod_of_nonneg i (by omega)]; exact q)
theorem EC:OpR X (binaryOp .Mod) (rI (fun _ j=>j ≠ 0) fun i j=>.int (i.fmod j)):=opI fun _ _ _ _ _ _ _ hc q=>mod_int' hc q
theorem unI {f:Value→Sem Value} {g:Int→Int}
    (rule:∀ (i:Int) (t:Tok) (s:Shared) (Q:Value→Shared→Prop) (E:Value→Shared→Prop),Q (.int (g i) s.toks) { s with toks:=s.toks + 1 }→wpAny (model X.prog X.w) X.A (f (.int i t)) Q E s) :
    UnR X f (rU fun i=>.int (g i)):=by
  intro pins s σ H x v Q I rx h
  obtain ⟨i,rfl,q⟩:=h
  obtain ⟨t,rfl⟩:=rx
  exact rule i t s _ _ ⟨.int (g i),H,I.tok _,⟨_,rfl⟩,q⟩
theorem xU:UnR X (unaryOp .USub) (rU fun i=>.int (-i)):=unI fun _ _ _ _ _ q=>neg_int q
end
def scal:V→V→Bool
  | .non,.non=>true | .non,.int _=>true | .int _,.non=>true | .non,.bl _=>true | .bl _,.non=>true | .non,.str _=>true | .str _,.non=>true
  | .int _,.int _=>true | .bl _,.bl _=>true | .str _,.str _=>true | .byt _,.byt _=>true
  | .int _,.str _=>true | .str _,.int _=>true | .bl _,.str _=>true | .str _,.bl _=>true
  | _,_=>false
def rEq:R2:=fun x y H Q=>scal x y=true∧Q (.bl (decide (x=y))) H
def rNe:R2:=fun x y H Q=>scal x y=true∧Q (.bl (!decide (x=y))) H
theorem vB {i j:Int}:decide (V.int i=V.int j)=(i == j):=by
  rw [Bool.eq_iff_iff]
  simp
theorem dec_bl {i j:Bool}:decide (V.bl i=V.bl j)=(i == j):=by
  rw [Bool.eq_iff_iff]
  simp
theorem BS {i j:Str}:decide (V.str i=V.str j)=(i == j):=by
  rw [Bool.eq_iff_iff]
  simp
theorem CC {i j:Array UInt8}:decide (V.byt i=V.byt j)=(i.toList == j.toList):=by
  rw [Bool.eq_iff_iff]
  cases i
  cases j
  simp
section
variable {X:Cx} {a b c:Expr} {ta tb tc:TE} {pos:Pos}
theorem fin_bl {pins:List (Addr × Obj)} {σ:St} {H:Hp} {s:Shared} {Q:VK} {k k':Bool} (I:Inv X pins σ H s) (q:Q (.bl k) H) (e:k=k'):EP X pins σ Q (.bool k') s:=by
  subst e
  exact ⟨.bl k,H,I,rfl,q⟩
theorem zY:OpR X (compareOp .Eq) rEq:=by
  intro pins s σ H x y v u Q I rx ry h
  obtain ⟨hs,q⟩:=h
  cases x with
  | non =>
    cases rx
    cases y with
    | non=>cases ry; exact PySem.EqNone.eq_none_none (fin_bl I q (by simp))
    | bl j=>cases ry; exact PySem.EqNone.eq_none_bool (fin_bl I q (by simp))
    | int j=>obtain ⟨t',rfl⟩:=ry; exact PySem.EqNone.eq_none_int (fin_bl I q (by simp))
    | str j=>obtain ⟨t',rfl⟩:=ry; exact PySem.EqNone.eq_none_str (fin_bl I q (by simp))
    | _=>exact absurd (show false=true from hs) Bool.false_ne_true
  | bl i =>
    cases rx
    cases y with
    | non=>cases ry; exact PySem.EqNone.eq_bool_none (fin_bl I q (by simp))
    | bl j=>cases ry; exact eq_bool (fin_bl I q dec_bl)
    | str j=>obtain ⟨t',rfl⟩:=ry; exact PySem.EqMixed.eq_bool_str (fin_bl I q (by simp))
    | _=>exact absurd (show false=true from hs) Bool.false_ne_true
  | int i =>
    obtain ⟨t,rfl⟩:=rx
    cases y with
    | non=>cases ry; exact PySem.EqNone.eq_int_none (fin_bl I q (by simp))
    | int j=>obtain ⟨t',rfl⟩:=ry; exact eq_int (fin_bl I q vB)
    | str j=>obtain ⟨t',rfl⟩:=ry; exact PySem.EqMixed.eq_int_str (fin_bl I q (by simp))
    | _=>exact absurd (show false=true from hs) Bool.false_ne_true
  | str i =>
    obtain ⟨t,rfl⟩:=rx
    cases y with
    | non=>cases ry; exact PySem.EqNone.eq_str_none (fin_bl I q (by simp))
    | bl j=>cases ry; exact PySem.EqMixed.eq_str_bool (fin_bl I q (by simp))
    | int j=>obtain ⟨t',rfl⟩:=ry; exact PySem.EqMixed.eq_str_int (fin_bl I q (by simp))
    | str j=>obtain ⟨t',rfl⟩:=ry; exact eq_str (fin_bl I q BS)
    | _=>exact absurd (show false=true from hs) Bool.false_ne_true
  | byt i =>
    obtain ⟨t,rfl⟩:=rx
    cases y with
    | byt j=>obtain ⟨t',rfl⟩:=ry; exact PySem.W.eq_bytes (fin_bl I q CC)
    | _=>exact absurd (show false=true from hs) Bool.false_ne_true
  | _=>cases y <;> exact absurd (show false=true from hs) Bool.false_ne_true
theorem uq:OpR X (compareOp .NotEq) rNe:=by
  intro pins s σ H x y v u Q I rx ry h
  obtain ⟨hs,q⟩:=h
  cases x with
  | non =>
    cases rx
    cases y with
    | non=>cases ry; exact PySem.EqNone.ne_none_none (fin_bl I q (by simp))
    | bl j=>cases ry; exact PySem.EqNone.ne_none_bool (fin_bl I q (by simp))
    | int j=>obtain ⟨t',rfl⟩:=ry; exact PySem.EqNone.ne_none_int (fin_bl I q (by simp))
    | str j=>obtain ⟨t',rfl⟩:=ry; exact PySem.EqNone.ne_none_str (fin_bl I q (by simp))
    | _=>exact absurd (show false=true from hs) Bool.false_ne_true
  | bl i =>
    cases rx
    cases y with
    | non=>cases ry; exact PySem.EqNone.ne_bool_none (fin_bl I q (by simp))
    | bl j=>cases ry; exact ne_bool (fin_bl I q (congrArg not dec_bl))
    | str j=>obtain ⟨t',rfl⟩:=ry; exact PySem.EqMixed.ne_bool_str (fin_bl I q (by simp))
    | _=>exact absurd (show false=true from hs) Bool.false_ne_true
  | int i =>
    obtain ⟨t,rfl⟩:=rx
    cases y with
    | non=>cases ry; exact PySem.EqNone.ne_int_none (fin_bl I q (by simp))
    | int j=>obtain ⟨t',rfl⟩:=ry; exact ne_int (fin_bl I q (congrArg not vB))
    | str j=>obtain ⟨t',rfl⟩:=ry; exact PySem.EqMixed.ne_int_str (fin_bl I q (by simp))
    | _=>exact absurd (show false=true from hs) Bool.false_ne_true
  | str i =>
    obtain ⟨t,rfl⟩:=rx
    cases y with
    | non=>cases ry; exact PySem.EqNone.ne_str_none (fin_bl I q (by simp))
    | bl j=>cases ry; exact PySem.EqMixed.ne_str_bool (fin_bl I q (by simp))
    | int j=>obtain ⟨t',rfl⟩:=ry; exact PySem.EqMixed.ne_str_int (fin_bl I q (by simp))
    | str j=>obtain ⟨t',rfl⟩:=ry; exact ne_str (fin_bl I q (congrArg not BS))
    | _=>exact absurd (show false=true from hs) Bool.false_ne_true
  | byt i =>
    obtain ⟨t,rfl⟩:=rx
    cases y with
    | byt j=>obtain ⟨t',rfl⟩:=ry; exact PySem.W.ne_bytes (fin_bl I q (congrArg not CC))
    | _=>exact absurd (show false=true from hs) Bool.false_ne_true
  | _=>cases y <;> exact absurd (show false=true from hs) Bool.false_ne_true
theorem vO:OpR X (compareOp .Lt) (rI0 fun i j=>.bl (decide (i < j))):=opB0 fun _ _ _ _ _ _ _ q=>lt_int q
theorem Dv:OpR X (compareOp .LtE) (rI0 fun i j=>.bl (decide (i ≤ j))):=opB0 fun _ _ _ _ _ _ _ q=>le_int q
theorem wb:OpR X (compareOp .Gt) (rI0 fun i j=>.bl (decide (j < i))):=opB0 fun _ _ _ _ _ _ _ q=>gt_int q
theorem Cd:OpR X (compareOp .GtE) (rI0 fun i j=>.bl (decide (j ≤ i))):=opB0 fun _ _ _ _ _ _ _ q=>ge_int q
theorem Gn:OpR X (compareOp .Is) (fun x y H Q=>y=.non∧Q (.bl (decide (x=.non))) H):=by
  intro pins s σ H x y v u Q I rx ry h
  obtain ⟨rfl,q⟩:=h
  cases ry
  refine is_none_gen (fin_bl I q ?_)
  cases x <;> first
    | (cases rx; rfl)
    | (obtain ⟨t,rfl⟩:=rx; rfl)
theorem zp (b:Expr) {op:CmpOp} (h:op ≠ .In:=by decide) (h2:op ≠ .NotIn:=by decide):behindInMarks op b=false:=by
  have e1:(op == CmpOp.In)=false:=by cases op <;> first | rfl | exact absurd rfl h
  have e2:(op == CmpOp.NotIn)=false:=by cases op <;> first | rfl | exact absurd rfl h2
  cases b <;> simp [behindInMarks,e1,e2]
theorem zO {op:CmpOp} {r:R2} (ho:OpR X (compareOp op) r) (ha:PE X a ta) (hb:PE X b tb) (hm:behindInMarks op b=false):PE X (.Compare a [op] [b] pos) (tOp r ta tb):=by
  intro pins s σ H Q I h
  exact wpAny_Compare1 (binT ha hb I h fun v u s2 x y H2 I2 rx ry q=>ho pins s2 σ H2 x y v u Q I2 rx ry q) hm
def Fz (t:TE):TT:=fun σ H Q=>t σ H fun x H'=>∃ k,x=.bl k∧Q k H'
theorem zj {op:CmpOp} {r:R2} (ho:OpR X (compareOp op) r) (ha:PE X a ta) (hb:PE X b tb) (hm:behindInMarks op b=false):PT X (.Compare a [op] [b] pos) (Fz (tOp r ta tb)):=by
  intro pins s σ H Q I h
  refine wpAny_isTrue_Compare1 (thn (ha pins s σ H _ I h) fun v s1 ⟨x,H1,I1,r1,q1⟩=>thn (hb pins s1 σ H1 _ I1 q1) fun u s2 ⟨y,H2,I2,r2,q2⟩ =>
    thn (ho pins s2 σ H2 x y v u _ I2 r1 r2 q2) fun c s3 ⟨z,H3,I3,r3,k,e,q3⟩=>?_) hm
  subst e
  cases r3
  exact wpAny_truthy_bool ⟨H3,I3,q3⟩
theorem Bj:(sizeLine:Nat) < 2 ^ 63:=by rw [sizeLine_eq]; decide
theorem BR {x:V} {us:List Value} (r:Vals [x] us):∃ u,us=[u]∧RelV x u:=by
  cases r with
  | cons r1 r2=>cases r2; exact ⟨_,rfl,r1⟩
theorem Hv {x y:V} {us:List Value} (r:Vals [x,y] us):∃ u w',us=[u,w']∧RelV x u∧RelV y w':=by
  cases r with
  | cons r1 r2 =>
    cases r2 with
    | cons r3 r4=>cases r4; exact ⟨_,_,rfl,r1,r3⟩
theorem Dl:xh X (.builtin "abs") (fun xs H Q=>∃ i,xs=[.int i]∧Q (.int (if i < 0 then -i else i)) H):=by
  intro pins s σ H xs us Q I r h
  obtain ⟨i,rfl,q⟩:=h
  obtain ⟨u,rfl,t,rfl⟩:=BR r
  exact call_abs_int fun u tk=>⟨.int (if i < 0 then -i else i),H,I.tok _,⟨_,rfl⟩,q⟩
theorem BM:xh X (.type "int") (fun xs H Q=>(∃ i,xs=[.int i]∧Q (.int i) H) ∨ ∃ k,xs=[.bl k]∧Q (.int (if k then 1 else 0)) H):=by
  intro pins s σ H xs us Q I r h
  rcases h with ⟨i,rfl,q⟩ | ⟨k,rfl,q⟩
  · obtain ⟨u,rfl,t,rfl⟩:=BR r
    exact call_int_int ⟨.int i,H,I,⟨_,rfl⟩,q⟩
  · obtain ⟨u,rfl,r1⟩:=BR r
    cases r1
    exact call_int_bool ⟨.int (if k then 1 else 0),H,I.tok _,⟨_,rfl⟩,q⟩
end
end L2
namespace L2
open PySem PySem.Spec PyProof.Rows
structure ObjM (h:Heap) (x dx C:Addr) (mA:Str→Option Value):Prop where
  obj:h.get? x=some (PySem.W.instObj C dx)
  ns:h.Ns1 dx mA
  ne:dx ≠ x
theorem By {h:Heap} {dx:Addr} {mA:Str→Option Value} (n:h.Ns1 dx mA):∃ od,h.get? dx=some od∧∀ name,PySem.W.lookIn name od=some (mA name):=by
  obtain ⟨o,es,ep,ho,hd,hk,_,hm⟩:=n
  refine ⟨o,ho,fun name=>?_⟩
  have e:=hm name
  unfold nsFind findBy at e
  rw [← Array.find?_toList] at e
  unfold PySem.W.lookIn
  rw [hd]
  dsimp only
  split
  · rename_i y q
    rw [q] at e
    exact congrArg some e
  · rename_i q
    rw [q] at e
    have a:es.toList.any (·.refKey)=false:=by
      rw [List.any_eq_false]
      intro y hy
      obtain ⟨z,t,hkey⟩:=hk y (Array.mem_toList_iff.mp hy)
      simp [DictEntry.refKey,hkey]
    have a':¬ es.toList.any (·.refKey)=true:=by rw [a]; exact Bool.false_ne_true
    rw [if_neg a']
    exact congrArg some e
theorem ObjM.look {h:Heap} {x dx C:Addr} {mA:Str→Option Value} (I:ObjM h x dx C mA):∃ od,PySem.W.InstAt h x (PySem.W.instObj C dx) C (some od)∧∀ name,PySem.W.lookIn name od=some (mA name) :=
  let ⟨od,ho,hl⟩:=By I.ns
  ⟨od,⟨I.obj,rfl,rfl,ho⟩,hl⟩
section
variable {prog:Program} {w:World} {A:Around} {E:Value→Shared→Prop} {s:Shared} {K:PySem.W.Frag} {x dx C f:Addr} {mA:Str→Option Value} {name:Str} {v:Value}
theorem En {expr:Bool} {Q:Value→Shared→Prop} (X:K.In s.heap) (I:ObjM s.heap x dx C mA) (hg:PySem.W.plainGet K C name=true) (hh:PySem.W.hasDictIn K C=true)
    (ha:PySem.W.findIn K (.ref C) name=some none) (hv:mA name=some v) (hv':PySem.W.handedIn v=true) (h:Q v { s with toks:=s.toks + 1 }) :
    wpAny (model prog w) A (getAttr (.ref x) name expr) Q E s:=by
  obtain ⟨od,J,hl⟩:=I.look
  exact PySem.W.get_value X J (PySem.W.plainGet_of hg).1 (PySem.W.findObj_own hh ha rfl (by rw [hl,hv])) hv' h
theorem CS {pl:Sem Bool} {Q:Value × List Value→Shared→Prop} (X:K.In s.heap) (I:ObjM s.heap x dx C mA) (hg:PySem.W.plainGet K C name=true)
    (hf:PySem.W.findIn K (.ref C) name=some (some (.ref f))) (ht:PySem.W.isFn K (.ref f)=true) (hv:mA name=none) (h:Q (.ref f,[.ref x]) s) :
    wpAny (model prog w) A (getMethod (.ref x) name pl) Q E s:=by
  obtain ⟨od,J,hl⟩:=I.look
  exact PySem.W.method_fn X J (PySem.W.plainGet_of hg).1 (PySem.W.plainGet_of hg).2 hf (beq_iff_eq.mp ht) (by show (PySem.W.lookIn name od).map (·.isSome)=some false; rw [hl,hv]; rfl) h
theorem EO {ns:List Str} {Q:Unit→Shared→Prop} (X:K.In s.heap) (I:ObjM s.heap x dx C mA)
    (hs:PySem.W.findIn K (.ref C) "__setattr__"=some (some (.builtin "object.__setattr__"))) (hp:PySem.W.plainOver K C=true) (ht:PySem.W.takerIn K C name=some none) (hh:PySem.W.hasDictIn K C=true)
    (hw:PySem.Within mA ns) (hsz:ns.length ≤ sizeLine)
    (h:∀ h',ObjM h' x dx C (fun y=>if y=name then some v else mA y)→Heap.SameBut dx s.heap h'→Q () { s with heap:=h',toks:=s.toks + 2 }) :
    wpAny (model prog w) A (setAttr (.ref x) name v) Q E s:=by
  obtain ⟨od,J,hl⟩:=I.look
  refine PySem.W.set_plain X J hs (PySem.W.osa_open (s:={ s with toks:=s.toks + 1 }) (r:=none) X J hp ht fun b=>?_)
  obtain ⟨cd,hc,hd'⟩:=PySem.W.any_some hh
  have hx:s.heap.get? x=some ⟨.ref C,some dx,.plain,#[]⟩:=I.obj
  refine wpAny_bind (wpAny_pure (wpAny_bind (wpAny_bind (wpAny_loadPart hx (wpAny_bind (PySem.W.Looks.here (s:={ s with toks:=s.toks + 1 }) (PySem.W.looks_clsIn X hc) ?_))))))
  rw [hd']
  refine wpAny_pure (a:=some dx) (wpAny_bind (wpAny_pure (wpAny_bind ?_)))
  refine wpAny_nsSet1 (s:={ s with toks:=s.toks + 1 }) I.ns fun h' hn2 hs2=>?_
  obtain ⟨oD,esD,epD,hoD,hdD,hcD⟩:=hn2.count (PySem.Within.cons name v hw)
  refine wpAny_bind (wpAny_lookBehind hoD (by rw [hdD]; exact pastItsLine_dict (Nat.le_trans hcD (by rw [List.length_cons]; omega))) ?_)
  exact wpAny_pure (h _ ⟨(hs2.2 _ (Ne.symm I.ne)).trans I.obj,hn2,I.ne⟩ hs2)
theorem CH {R:Result→Shared→Prop} {vs:List Value} {kw:List (Str × Value)} (X:K.In s.heap) (hm:PySem.W.makesIn K C=true)
    (hi:PySem.W.findIn K (.ref C) "__init__"=some (some (.ref f))) (hf:PySem.W.typeIn K (.ref f)=some (.type "function"))
    (h:codeAny (model prog w) (A.under (.builtin "type.__call__" ⟨.ref C :: vs,kw⟩)) (.call (.ref f) ⟨.ref (s.heap.objs.size + 1) :: vs,kw⟩) (PySem.W.InitBack (s.heap.objs.size + 1) R)
      { s with heap:=(s.heap.push PySem.W.emptyDict).push (PySem.W.instObj C s.heap.objs.size) }) :
    codeAny (model prog w) A (.call (.ref C) ⟨vs,kw⟩) R s:=by
  obtain ⟨hh,g,d,t,os⟩:=s
  exact PySem.W.make_core (PySem.W.makes_of X hm) (PySem.W.looks_findIn X hi) (fun self=>PySem.W.bind_fn X self hf) (.inl rfl) h
end
def putF (f:Str) (v:V):List (Str × V)→List (Str × V)
  | []=>[(f,v)]
  | (g,x) :: r=>if g=f then (g,v) :: r else (g,x) :: putF f v r
theorem wH (f g:Str) (v:V):∀ fs:List (Str × V),(putF f v fs).lookup g=if g=f then some v else fs.lookup g
  | []=>by
    show List.lookup g [(f,v)]=_
    by_cases h:g=f
    · have hb:(g == f)=true:=beq_iff_eq.mpr h
      simp only [List.lookup,hb,if_pos h]
    · have hb:(g == f)=false:=beq_eq_false_iff_ne.mpr h
      simp only [List.lookup,hb,if_neg h]
  | (k,x) :: r=>by
    have ih:=wH f g v r
    rw [show putF f v ((k,x) :: r)=(if k=f then (k,v) :: r else (k,x) :: putF f v r) from rfl]
    by_cases hk:k=f
    · rw [if_pos hk]
      by_cases h:g=k
      · have hb:(g == k)=true:=beq_iff_eq.mpr h
        simp only [List.lookup,hb,if_pos (h.trans hk)]
      · have hb:(g == k)=false:=beq_eq_false_iff_ne.mpr h
        simp only [List.lookup,hb,if_neg (fun e:g=f=>h (e.trans hk.symm))]
    · rw [if_neg hk]
      by_cases h:g=k
      · have hb:(g == k)=true:=beq_iff_eq.mpr h
        simp only [List.lookup,hb,if_neg (fun e:g=f=>hk (h.symm.trans e))]
      · have hb:(g == k)=false:=beq_eq_false_iff_ne.mpr h
        simp only [List.lookup,hb]
        exact ih
theorem va (f:Str) (v:V):∀ fs:List (Str × V),f ∈ (putF f v fs).map (·.1)∧∀ g,g ∈ fs.map (·.1)→g ∈ (putF f v fs).map (·.1)
  | []=>⟨by simp [putF],fun g h=>by simp at h⟩
  | (k,x) :: r=>by
    obtain ⟨i1,i2⟩:=va f v r
    rw [show putF f v ((k,x) :: r)=(if k=f then (k,v) :: r else (k,x) :: putF f v r) from rfl]
    by_cases hk:k=f
    · rw [if_pos hk]
      subst hk
      exact ⟨by simp,fun g h=>by simpa using h⟩
    · rw [if_neg hk]
      refine ⟨?_,fun g h=>?_⟩
      · rw [List.map_cons]
        exact List.mem_cons_of_mem _ i1
      · rw [List.map_cons] at h ⊢
        rcases List.mem_cons.mp h with e | e
        · exact List.mem_cons.mpr (.inl e)
        · exact List.mem_cons_of_mem _ (i2 g e)
theorem xz (f:Str) (v:V):∀ fs:List (Str × V),(putF f v fs).length ≤ fs.length + 1
  | []=>by simp [putF]
  | (k,x) :: r=>by
    have ih:=xz f v r
    rw [show putF f v ((k,x) :: r)=(if k=f then (k,v) :: r else (k,x) :: putF f v r) from rfl]
    by_cases hk:k=f
    · rw [if_pos hk,List.length_cons,List.length_cons]; omega
    · rw [if_neg hk,List.length_cons,List.length_cons]; omega
theorem RelO.some_of {v:V} {o:Option Value} (r:RelO (some v) o):∃ u,o=some u∧RelV v u:=by
  cases o with
  | none=>exact (show False from r).elim
  | some u=>exact ⟨u,rfl,r⟩
theorem RelO.none_of {o:Option Value} (r:RelO none o):o=none:=by
  cases o with
  | none=>rfl
  | some u=>exact (show False from r).elim
theorem CB {v:V} {u:Value} (r:RelV v u):PySem.W.handedIn u=true:=by
  cases v with
  | non=>cases (show u=Value.none from r); rfl
  | bl b=>cases (show u=Value.bool b from r); rfl
  | int i=>obtain ⟨t,e⟩:=(show ∃ t,u=Value.int i t from r); cases e; rfl
  | str x=>obtain ⟨t,e⟩:=(show ∃ t,u=Value.str x t from r); cases e; rfl
  | byt b=>obtain ⟨t,e⟩:=(show ∃ t,u=Value.bytes b t from r); cases e; rfl
  | flt b=>obtain ⟨t,e⟩:=(show ∃ t,u=Value.float b t from r); cases e; rfl
  | ref a=>cases (show u=Value.ref a from r); rfl
  | ty n=>cases (show u=Value.type n from r); rfl
section
variable {P:Program} {w:World} {H H':Hp} {h h':Heap} {a C dx:Addr} {fs fs':List (Str × V)}
theorem vE (hok:HOk P w H h) (e:H a=some (.ins C dx fs)):∃ mA,ObjM h a dx C mA∧(∀ f,RelO (fs.lookup f) (mA f))∧PySem.Within mA (fs.map (·.1))∧fs.length ≤ 1000∧H dx=some (.own a):=by
  obtain ⟨d,z,ne,ob,mA,n,r,q⟩:=(show ObjOk P w H h a (.ins C dx fs) from hok a _ e)
  exact ⟨mA,⟨ob,n,ne⟩,r,q,z,d⟩
end
structure Cls (K:PySem.W.Frag) (C:Addr):Prop where
  pg:PySem.W.plainGet K C Str.empty=true
  hd:PySem.W.hasDictIn K C=true
  po:PySem.W.plainOver K C=true
  sa:PySem.W.findIn K (.ref C) "__setattr__"=some (some (.builtin "object.__setattr__"))
theorem Cls.get {K:PySem.W.Frag} {C:Addr} (c:Cls K C) (f:Str):PySem.W.plainGet K C f=true:=c.pg
def NoAttr (K:PySem.W.Frag) (C:Addr) (f:Str):Prop:=PySem.W.findIn K (.ref C) f=some none
theorem NoAttr.taker {K:PySem.W.Frag} {C:Addr} {f:Str} (n:NoAttr K C f):PySem.W.takerIn K C f=some none:=by
  unfold PySem.W.takerIn
  rw [show PySem.W.findIn K (.ref C) f=some none from n]
  rfl
structure Meth (K:PySem.W.Frag) (C:Addr) (m:Str) (f:Addr):Prop where
  at_:PySem.W.findIn K (.ref C) m=some (some (.ref f))
  fn:PySem.W.isFn K (.ref f)=true
  kp:PySem.W.keepIn K (.ref f)=true
section
variable {X:Cx} {pins:List (Addr × Obj)} {σ:St} {H:Hp} {s:Shared} {a C dx:Addr} {fs:List (Str × V)} {f:Str} {v:V} {A:Around} {E:Value→Shared→Prop}
theorem AT {b:Bool} {Q:Value→Shared→Prop} (I:Inv X pins σ H s) (e:H a=some (.ins C dx fs)) (c:Cls X.K C) (n:NoAttr X.K C f) (l:fs.lookup f=some v)
    (h:∀ u s',Inv X pins σ H s'→RelV v u→Q u s'):wpAny (model X.prog X.w) A (getAttr (.ref a) f b) Q E s:=by
  obtain ⟨mA,O,r,_,_,_⟩:=vE I.hok e
  obtain ⟨u,hu,ru⟩:=RelO.some_of (v:=v) (o:=mA f) (by rw [← l]; exact r f)
  exact En I.kIn O (c.get f) c.hd n hu (CB ru) (h u _ (I.tok _) ru)
theorem vw {m:Str} {g:Addr} {pl:Sem Bool} {Q:Value × List Value→Shared→Prop} (I:Inv X pins σ H s) (e:H a=some (.ins C dx fs)) (c:Cls X.K C) (k:Meth X.K C m g) (l:fs.lookup m=none)
    (h:Q (.ref g,[.ref a]) s):wpAny (model X.prog X.w) A (getMethod (.ref a) m pl) Q E s:=by
  obtain ⟨mA,O,r,_,_,_⟩:=vE I.hok e
  have hn:mA m=none:=RelO.none_of (by rw [← l]; exact r m)
  exact CS I.kIn O (c.get m) k.at_ k.fn hn h
theorem AI {y:V} {u:Value} {Q:Unit→Shared→Prop} (I:Inv X pins σ H s) (e:H a=some (.ins C dx fs)) (c:Cls X.K C) (n:NoAttr X.K C f) (hl:fs.length < 1000) (ry:RelV y u)
    (h:∀ s',Inv X pins σ (upd H a (.ins C dx (putF f y fs))) s'→Q () s'):wpAny (model X.prog X.w) A (setAttr (.ref a) f u) Q E s:=by
  obtain ⟨mA,O,r,wi,_,ho⟩:=vE I.hok e
  have hz:(fs.map (·.1)).length ≤ sizeLine:=by rw [List.length_map,sizeLine_eq]; omega
  refine EO I.kIn O c.sa c.po n.taker c.hd wi hz fun h' O' sb=>h _ ?_
  have hd:∃ o,h'.get? dx=some o:=let ⟨o,_,_,e',_⟩:=O'.ns; ⟨o,e'⟩
  refine I.write (x:=a) (e:=dx) (by rw [e]; exact True.intro) (.inr ho) (fun b q hb z=>(sb.2 b hb).trans z) hd ?_
  refine ⟨by rw [zt O.ne]; exact ho,?_,O.ne,O'.obj,_,O'.ns,fun g=>?_,fun g hg=>?_⟩
  · have:=xz f y fs; omega
  · show RelO ((putF f y fs).lookup g) (if g=f then some u else mA g)
    rw [wH]
    by_cases q:g=f
    · rw [if_pos q,if_pos q]; exact ry
    · rw [if_neg q,if_neg q]; exact r g
  · by_cases q:g=f
    · rw [q]; exact (va f y fs).1
    · refine (va f y fs).2 g (wi g fun z=>hg ?_)
      show (if g=f then some u else mA g)=none
      rw [if_neg q]; exact z
theorem Inv.made (I:Inv X pins σ H s):Inv X pins σ (upd (upd H s.heap.objs.size (.own (s.heap.objs.size + 1))) (s.heap.objs.size + 1) (.ins C s.heap.objs.size []))
    { s with heap:=(s.heap.push PySem.W.emptyDict).push (PySem.W.instObj C s.heap.objs.size) }:=by
  have e1:(s.heap.push PySem.W.emptyDict).get? s.heap.objs.size=some PySem.W.emptyDict:=Heap.get?_push_size s.heap rfl
  have e2:((s.heap.push PySem.W.emptyDict).push (PySem.W.instObj C s.heap.objs.size)).get? (s.heap.objs.size + 1)=some (PySem.W.instObj C s.heap.objs.size):=by
    have:=Heap.get?_push_size (s.heap.push PySem.W.emptyDict) (o:=PySem.W.instObj C s.heap.objs.size) rfl
    rwa [Heap.size_push] at this
  have e3:(s.heap.push PySem.W.emptyDict).Ns s.heap.objs.size (fun _=>none):=⟨PySem.W.emptyDict,#[],_,e1,rfl,(fun e he=>absurd he (by simp)),fun _=>rfl⟩
  have I1:=I.laid (a:=s.heap.objs.size) (o:=.own (s.heap.objs.size + 1)) (h':=s.heap.push PySem.W.emptyDict) (t':=s.toks) (fun b u q=>Heap.get?_push_of_some _ q) (Nat.le_refl _) ⟨_,e1⟩
  refine I1.laid (a:=s.heap.objs.size + 1) (o:=.ins C s.heap.objs.size []) (t':=s.toks) (fun b u q=>Heap.get?_push_of_some _ q) (Nat.le_of_eq (Heap.size_push _ _)) ?_
  have ne:s.heap.objs.size ≠ s.heap.objs.size + 1:=Nat.ne_of_lt (Nat.lt_succ_self _)
  refine ⟨by rw [zt ne,zk],Nat.zero_le _,ne,e2,fun _=>none,(Heap.Ns1.of_empty e3).at fun o q=>Heap.get?_push_of_some _ q,fun _=>True.intro,fun y hy=>absurd rfl hy⟩
theorem Ep {prog:Program} {w:World} {env:Env} {e:Expr} {f:Str} {pos:Pos} {s:Shared} {Q:Value→Shared→Prop} (hb:attributeBase e f env (eval e env)=eval e env)
    (h:wpAny (model prog w) A (eval e env) (fun o s₁=>wpAny (model prog w) A (getAttr o f true) Q E s₁) E s):wpAny (model prog w) A (eval (.Attribute e f pos) env) Q E s :=
  Attribute_any_ h (by rw [arm_eval_Attribute,hb])
end
def tFld (K:PySem.W.Frag) (ta:TE) (f:Str):TE:=fun σ H Q=>ta σ H fun x H1=>∃ a C dx fs v,x=.ref a∧H1 a=some (.ins C dx fs)∧Cls K C∧NoAttr K C f∧fs.lookup f=some v∧Q v H1
def sFld (K:PySem.W.Frag) (ta tv:TE) (f:Str):TS:=fun D σ H=>tv σ H fun y H1=>ta σ H1 fun x H2=>∃ a C dx fs,x=.ref a∧H2 a=some (.ins C dx fs)∧Cls K C∧NoAttr K C f∧fs.length < 1000 ∧
  D.nx σ (upd H2 a (.ins C dx (putF f y fs)))
section
variable {X:Cx} {o e value:Expr} {f:Str} {pos pos' tpos:Pos} {ta tv:TE}
theorem FC (he:PE X e ta) (hb:attributeBase e f X.env (eval e X.env)=eval e X.env):PE X (.Attribute e f pos) (tFld X.K ta f):=by
  intro pins s σ H Q I h
  refine Ep hb (thn (he pins s σ H _ I h) fun u s1 ⟨x,H1,I1,rx,a,C,dx,fs,v,ex,ea,c,n,l,q⟩=>?_)
  subst ex
  obtain rfl:u=Value.ref a:=rx
  exact AT I1 ea c n l fun u' s2 I2 ru=>⟨v,H1,I2,ru,q⟩
theorem uz (ha:PE X o ta) (hv:PE X value tv) (hs:swapsWith value (some (.Attribute o f pos')) pos.line X.env=pure false):PS X (.Assign [.Attribute o f pos'] value pos) (sFld X.K ta tv f):=by
  intro pins s σ H D I h
  refine plainObj_wpAny_Assign_Attribute (thn (hv pins s σ H _ I h) fun u s1 ⟨y,H1,I1,ry,q⟩=>thn (ha pins s1 σ H1 _ I1 q) fun ov s2 ⟨x,H2,I2,rx,a,C,dx,fs,ex,ea,c,n,l,q2⟩=>?_) hs
  subst ex
  obtain rfl:ov=Value.ref a:=rx
  exact AI I2 ea c n l ry fun s3 I3=>⟨σ,_,I3,q2⟩
end
section
variable {X:Cx} {pins:List (Addr × Obj)} {σ:St} {H:Hp} {s:Shared} {A:Around} {E:Value→Shared→Prop} {Q:Value→Shared→Prop} {c:Value} {b:Bool}
inductive TyOf (K:PySem.W.Frag) (H:Hp):V→Value→Prop where
  | non:TyOf K H .non (.type "NoneType")
  | bl (x:Bool):TyOf K H (.bl x) (.type "bool")
  | int (i:Int):TyOf K H (.int i) (.type "int")
  | str (x:Str):TyOf K H (.str x) (.type "str")
  | flt (x:UInt64):TyOf K H (.flt x) (.type "float")
  | lst {a:Addr} {xs:List V} (e:H a=some (.lst xs)):TyOf K H (.ref a) (.type "list")
  | frz {a:Addr} {o:Obj} {xs:List V} (e:H a=some (.frz o (.lst xs))):TyOf K H (.ref a) (.type "list")
  | tup {a:Addr} {xs:List V} (e:H a=some (.tup xs)):TyOf K H (.ref a) (.type "tuple")
  | dK {a:Addr} {kvs:List (Key × V)} (e:H a=some (.dK kvs)):TyOf K H (.ref a) (.type "dict")
  | dT {a:Addr} {kvs:List (List Key × V)} (e:H a=some (.dT kvs)):TyOf K H (.ref a) (.type "dict")
  | ins {a C dx:Addr} {fs:List (Str × V)} (e:H a=some (.ins C dx fs)) (cl:Cls K C) (ha:PySem.W.findIn K (.ref C) "__class__"=some (some (.builtin "object.__class__")))
      (hn:PySem.W.specialIn K (.builtin "object.__class__") "__get__"=some (some (.builtin "getset_descriptor.__get__"))) (htk:PySem.W.takesIn K (.builtin "object.__class__")=some true)
      (hm:PySem.W.mroIn K C (.type "object")=some true):TyOf K H (.ref a) (.ref C)
theorem Ch {x:V} {u t:Value} (I:Inv X pins σ H s) (rx:RelV x u) (ty:TyOf X.K H x t) (e:PySem.W.kitOne X.K t c=some b) (h:∀ tk,Q (.bool b) { s with toks:=tk }) :
    wpAny (model X.prog X.w) A (call (.builtin "isinstance") [u,c]) Q E s:=by
  cases ty with
  | non=>cases (show u=Value.none from rx); exact PySem.W.kia_one PySem.W.kitx_none I.kIn True.intro e (fun z=>nomatch z) h
  | bl y=>cases (show u=Value.bool y from rx); exact PySem.W.kia_one PySem.W.kitx_bool I.kIn True.intro e (fun z=>nomatch z) h
  | int i=>obtain ⟨t,q⟩:=(show ∃ t,u=Value.int i t from rx); cases q; exact PySem.W.kia_one PySem.W.kitx_int I.kIn True.intro e (fun z=>nomatch z) h
  | str y=>obtain ⟨t,q⟩:=(show ∃ t,u=Value.str y t from rx); cases q; exact PySem.W.kia_one PySem.W.kitx_str I.kIn True.intro e (fun z=>nomatch z) h
  | flt y=>obtain ⟨t,q⟩:=(show ∃ t,u=Value.float y t from rx); cases q; exact PySem.W.kia_one PySem.W.kitx_float I.kIn True.intro e (fun z=>nomatch z) h
  | @lst a xs ea =>
    cases (show u=Value.ref a from rx)
    obtain ⟨_,_,n,_,h1⟩:=(show ObjOk X.prog X.w H s.heap a (.lst xs) from I.hok a _ ea)
    exact PySem.W.kia_one PySem.W.kitx_list I.kIn ⟨_,h1,rfl⟩ e (fun z=>nomatch z) h
  | @frz a ob xs ea =>
    cases (show u=Value.ref a from rx)
    obtain ⟨_,_,_,n,_,h1⟩:=(show ObjOk X.prog X.w H s.heap a (.frz ob (.lst xs)) from I.hok a _ ea)
    exact PySem.W.kia_one PySem.W.kitx_list I.kIn ⟨_,h1,rfl⟩ e (fun z=>nomatch z) h
  | @tup a xs ea =>
    cases (show u=Value.ref a from rx)
    obtain ⟨_,_,_,p⟩:=(show ObjOk X.prog X.w H s.heap a (.tup xs) from I.hok a _ ea)
    obtain ⟨o,h1,h2,_⟩:=p
    exact PySem.W.kia_one PySem.W.kitx_tuple I.kIn ⟨o,h1,h2⟩ e (fun z=>nomatch z) h
  | @dK a kvs ea =>
    cases (show u=Value.ref a from rx)
    obtain ⟨_,_,vs,_,p⟩:=(show ObjOk X.prog X.w H s.heap a (.dK kvs) from I.hok a _ ea)
    obtain ⟨o,es,ep,h1,h2,_⟩:=p
    exact PySem.W.kia_one PySem.W.kitx_dict I.kIn ⟨o,h1,h2.1⟩ e (fun z=>nomatch z) h
  | @dT a kvs ea =>
    cases (show u=Value.ref a from rx)
    obtain ⟨_,_,xs,_,o,es,ep,h1,h2,_⟩:=(show ObjOk X.prog X.w H s.heap a (.dT kvs) from I.hok a _ ea)
    exact PySem.W.kia_one PySem.W.kitx_dict I.kIn ⟨o,h1,h2.1⟩ e (fun z=>nomatch z) h
  | @ins a C dx fs ea cl ha hn htk hm =>
    cases (show u=Value.ref a from rx)
    obtain ⟨mA,O,_⟩:=vE I.hok ea
    obtain ⟨od,J,_⟩:=O.look
    exact PySem.W.kia_one (PySem.W.kitx_own (cl.get _) cl.hd ha hn htk hm) I.kIn J e (fun z=>nomatch z) h
end
end L2
namespace L2
open PySem PySem.Spec PyProof.Rows
structure Room (k:Nat) (A:Around):Prop where
  hd:A.handled=none
  dp:A.depth + 3 * k + 5 < recursionLimit
  un:A.units + 16 * k + 200 < cLine
theorem Room.mono {j k:Nat} {A:Around} (r:Room k A) (h:j ≤ k):Room j A:=⟨r.hd,by have:=r.dp; omega,by have:=r.un; omega⟩
theorem Room.deeper {k:Nat} {A:Around} (r:Room (k + 1) A) (env:Env):Room k (A.deeper env) :=
  ⟨r.hd,by have:=r.dp; show A.depth + 1 + 3 * k + 5 < _; omega,by have:=r.un; show A.units + 3 + 16 * k + 200 < _; omega⟩
theorem AH {A:Around} {C:Addr} {us:List Value} {kw:List (Str × Value)}:(A.under (.builtin "type.__call__" ⟨.ref C :: us,kw⟩)).depth=A.depth + 1:=by
  first | rfl | simp [Around.under,Code.weight,Code.isCreation,Code.isGuard,Code.isCaller,Code.frames,Code.isFrame,guardIds]
theorem AY {A:Around} {C:Addr} {us:List Value} {kw:List (Str × Value)}:(A.under (.builtin "type.__call__" ⟨.ref C :: us,kw⟩)).units=A.units + 1:=by
  first | rfl | simp [Around.under,Code.cUnits,Code.frames,Code.isFrame]
theorem Room.make {k:Nat} {A:Around} (r:Room (k + 1) A) (C:Addr) (us:List Value) (kw:List (Str × Value)):Room k (A.under (.builtin "type.__call__" ⟨.ref C :: us,kw⟩)) :=
  ⟨r.hd,by have:=r.dp; rw [AH]; omega,by have:=r.un; rw [AY]; omega⟩
theorem Room.depth {k:Nat} {A:Around} (r:Room k A):A.depth < recursionLimit:=by have:=r.dp; omega
theorem Room.units {k:Nat} {A:Around} (r:Room k A):A.units + 64 < cLine:=by have:=r.un; omega
def tNil:TA:=fun _ H Q=>Q [] H
def Ey (ta:TE) (tr:TA):TA:=fun σ H Q=>ta σ H fun x H1=>tr σ H1 fun xs H2=>Q (x :: xs) H2
section
variable {X:Cx} {e:Expr} {es:List Expr} {te:TE} {t:TA} {pos:Pos}
theorem zd:PA X [] tNil:=fun _ _ _ _ H Q I h=>Calls.spliced_nil ⟨[],H,I,.nil,h⟩
theorem za (ha:PE X e te) (hr:PA X es t) (hs:starEach (e :: es) X.env=(false,eval e X.env) :: starEach es X.env:=by rfl):PA X (e :: es) (Ey te t):=by
  intro pos pins s σ H Q I h
  rw [hs]
  show wpAny _ _ (spliced ((false,eval e X.env) :: backTo pos (starEach es X.env))) _ _ s
  refine Calls.spliced_cons (thn (ha pins s σ H _ I h) fun u s1 ⟨x,H1,I1,r1,q1⟩=>?_)
  exact thn (hr pos pins s1 σ H1 _ I1 q1) fun us s2 ⟨xs,H2,I2,r2,q2⟩=>⟨x :: xs,H2,I2,.cons r1 r2,q2⟩
def tTup (t:TA):TE:=fun σ H Q=>t σ H fun xs H1=>xs.length ≤ sizeLine∧∀ p,H1 p=none→Q (.ref p) (upd H1 p (.tup xs))
def tLst (t:TA):TE:=fun σ H Q=>t σ H fun xs H1=>xs.length ≤ sizeLine∧∀ p,H1 p=none→Q (.ref p) (upd H1 p (.lst xs))
theorem zK {x1} (h:PA X es t):PE X (.Tuple es x1 pos) (tTup t):=by
  intro pins s σ H Q I hq
  refine wpAny_Tuple_spliced (thn (h pos pins s σ H _ I hq) fun us s1 ⟨xs,H1,I1,r,z,q⟩=>⟨by rw [← r.length]; exact z,?_⟩)
  have hf:H1 s1.heap.objs.size=none:=I1.hok.fresh (Nat.le_refl _)
  refine ⟨.ref s1.heap.objs.size,upd H1 s1.heap.objs.size (.tup xs),I1.laid (t':=s1.toks) (fun b u e=>Heap.get?_push_of_some _ e) (Nat.le_refl _) ?_,rfl,q _ hf⟩
  exact ⟨z,us,r,⟨_,Heap.get?_push_size _ rfl,rfl,_,rfl⟩⟩
theorem zU (h:PA X es t):PE X (.List es pos) (tLst t):=by
  intro pins s σ H Q I hq
  refine wpAny_List_spliced (thn (h pos pins s σ H _ I hq) fun us s1 ⟨xs,H1,I1,r,z,q⟩=>⟨by rw [← r.length]; exact z,?_⟩)
  have hf:H1 s1.heap.objs.size=none:=I1.hok.fresh (Nat.le_refl _)
  refine ⟨.ref s1.heap.objs.size,upd H1 s1.heap.objs.size (.lst xs),I1.laid (t':=s1.toks) (fun b u e=>Heap.get?_push_of_some _ e) (Nat.le_refl _) ?_,rfl,q _ hf⟩
  exact ⟨z,us,0,r,Heap.get?_push_size _ rfl⟩
end
abbrev Sp:=List V→Hp→VK→XK→Prop
abbrev CXT:=List Env→Hp→Shared→XK→Value→Shared→Prop
structure Env0 (P:Program) (w:World) (K:PySem.W.Frag) (mg:Str→Option Value) (base:Heap) (A:Around) (outer:List Env) (s:Shared) (H:Hp):Prop where
  frames:A.frames=some outer
  mod:Mod K mg base
  bs:∀ b o,base.get? b=some o→s.heap.get? b=some o∧H b=none
  bsz:base.objs.size ≤ s.heap.objs.size
  funs:s.heap.FunFrames base outer
  frf:∀ b ∈ frs outer,H b=none
  hok:HOk P w H s.heap
  bare:AllBare s.gens
def CE (outer:List Env) (P:Program) (w:World) (H:Hp) (s:Shared) (Q:VK) (u:Value) (s':Shared):Prop :=
  ∃ v H',s'.os=s.os∧AllBare s'.gens∧Un (frs outer) [] H H' s.heap s'.heap∧HOk P w H' s'.heap∧RelV v u∧Q v H'
def CR (CX:CXT) (outer:List Env) (P:Program) (w:World) (H:Hp) (s:Shared) (Q:VK) (E:XK) (r:Result) (s':Shared):Prop :=
  match r with
  | .ok (.ret u)=>CE outer P w H s Q u s'
  | .ok _=>False
  | .error e=>CX outer H s E e s'
structure FnOk (P:Program) (w:World) (K:PySem.W.Frag) (mg:Str→Option Value) (base:Heap) (CX:CXT) (k:Nat) (f:Addr) (fd:FuncData) (ps:List Str) (sp:Sp):Prop where
  len:∀ vs H Q E,sp vs H Q E→vs.length=ps.length
  run:∀ (A:Around) (outer:List Env) (s:Shared) (H:Hp) (args:Args) (us:List Value) (vs:List V) (Q:VK) (E:XK),Room k A→Env0 P w K mg base A outer s H→BindsTo s fd args (ps.zip us)→Vals vs us→sp vs H Q E →
    codeAny (model P w) A (.call (.ref f) args) (CR CX outer P w H s Q E) s
theorem Env0.make {P:Program} {w:World} {K:PySem.W.Frag} {mg:Str→Option Value} {base:Heap} {A:Around} {outer:List Env} {s:Shared} {H:Hp} (e:Env0 P w K mg base A outer s H) (C:Addr) (us:List Value) (kw:List (Str × Value)) :
    Env0 P w K mg base (A.under (.builtin "type.__call__" ⟨.ref C :: us,kw⟩)) outer s H:=⟨by first | exact e.frames | (simpa [Around.under,Code.envs,Code.isFrame,pushEnvs] using e.frames),e.mod,e.bs,e.bsz,e.funs,e.frf,e.hok,e.bare⟩
section
variable {X:Cx} {pins:List (Addr × Obj)} {σ:St} {H:Hp} {s s':Shared}
theorem Inv.env0 (I:Inv X pins σ H s):Env0 X.prog X.w X.K X.mg X.base X.A X.stack s H :=
  ⟨I.ok.frames,I.ok.mod,I.bs,Nat.le_trans I.ok.bsz I.sz,I.stack,I.stkFree,I.hok,I.bare⟩
theorem Inv.after {Q:VK} {u:Value} (I:Inv X pins σ H s) (h:CE X.stack X.prog X.w H s Q u s'):EP X pins σ Q u s':=by
  obtain ⟨v,H',os,bare,un,hok,r,q⟩:=h
  obtain ⟨hh,g,d,t,os'⟩:=s'
  obtain rfl:os'=s.os:=os
  exact ⟨v,H',I.call (h':=hh) (g':=g) (d':=d) (t':=t) (ch:=[]) un hok bare (fun b z=>absurd z (by simp)),r,q⟩
end
def EU (sp:Sp) (dvs:List V) (E:XK) (t:TA):TE:=fun σ H Q=>t σ H fun vs H1=>sp (vs ++ dvs) H1 Q E
def Bi (C:Addr) (m:Str) (sp:Sp) (dvs:List V) (E:XK) (ta:TE) (t:TA):TE:=fun σ H Q=>ta σ H fun x H1=>∃ a dx fs,x=.ref a∧H1 a=some (.ins C dx fs)∧fs.lookup m=none ∧
  t σ H1 fun vs H2=>sp (x :: (vs ++ dvs)) H2 Q E
def Ej (C:Addr) (sp:Sp) (dvs:List V) (E:XK) (t:TA):TE:=fun σ H Q=>t σ H fun vs H1=>∀ x dx,H1 x=none→H1 dx=none→dx ≠ x →
  sp (.ref x :: (vs ++ dvs)) (upd (upd H1 dx (.own x)) x (.ins C dx [])) (fun v H2=>v=.non∧Q (.ref x) H2) E
def Binds (K:PySem.W.Frag) (fd:FuncData) (ps:List Str) (ds:List Value):Prop :=
  ∀ (s:Shared) (us:List Value),K.In s.heap→(us ++ ds).length=ps.length→BindsTo s fd ⟨us,[]⟩ (ps.zip (us ++ ds))
theorem Binds.all {K:PySem.W.Frag} {fd:FuncData} {ps:List Str} (h:∀ us:List Value,us.length=ps.length→bindArgs fd ⟨us,[]⟩=pure (ps.zip us)):Binds K fd ps []:=fun s us _ hl=>by
  rw [List.append_nil] at hl ⊢
  exact .of_eq (h us hl)
def xu (CX:CXT) (X:Cx) (E:XK):Prop:=∀ (pins:List (Addr × Obj)) (σ:St) (H:Hp) (s:Shared) (e:Value) (s':Shared),Inv X pins σ H s→CX X.stack H s E e s'→X.xe e s'
section
variable {X:Cx} {CX:CXT} {k:Nat} {f C:Addr} {fd:FuncData} {ps:List Str} {sp:Sp} {dvs:List V} {ds:List Value} {E:XK} {x m:Str} {p pos apos:Pos} {e o:Expr} {es:List Expr} {ta:TE} {t:TA}
theorem BO {pins:List (Addr × Obj)} {σ:St} {H:Hp} {s:Shared} {Q:VK} {us:List Value} {vs:List V} (F:FnOk X.prog X.w X.K X.mg X.base CX k f fd ps sp) (hr:Room k X.A) (hb:Binds X.K fd ps ds) (hd:Vals dvs ds) (hx:xu CX X E)
    (I:Inv X pins σ H s) (r:Vals vs us) (h:sp (vs ++ dvs) H Q E):wpAny (model X.prog X.w) X.A (call (.ref f) us) (EP X pins σ Q) X.xe s:=by
  have r2:Vals (vs ++ dvs) (us ++ ds):=r.append hd
  have hl:(us ++ ds).length=ps.length:=by rw [← r2.length]; exact F.len _ _ _ _ h
  refine wpAny_call (codeAny_mono (F.run X.A X.stack s H ⟨us,[]⟩ (us ++ ds) (vs ++ dvs) Q E hr I.env0 (hb s us I.kIn hl) r2 h) fun r s' hq=>?_)
  cases r with
  | error e=>exact hx pins σ H s e s' I hq
  | ok fl =>
    cases fl with
    | ret u=>exact I.after hq
    | next=>exact False.elim hq
    | brk=>exact False.elim hq
    | cont=>exact False.elim hq
theorem Ek (F:FnOk X.prog X.w X.K X.mg X.base CX k f fd ps sp) (hr:Room k X.A) (hg:Gl X x) (hm:X.mg x=some (.ref f)) (hk:PySem.W.keepIn X.K (.ref f)=true) (hb:Binds X.K fd ps ds) (hd:Vals dvs ds) (hx:xu CX X E)
    (ha:PA X (e :: es) t) (hdb:(x == ("__debug__":Str))=false:=by decide) (he:starEach (e :: es) X.env=(false,eval e X.env) :: starEach es X.env:=by rfl) (hpl:(backTo pos (starEach es X.env)).any (·.1)=false:=by rfl) :
    PE X (.Call (.Name x p) (e :: es) [] pos) (EU sp dvs E t):=by
  intro pins s σ H Q I h
  refine wpAny_Call_Name_kw (tU I hg hm ?_ hdb)
  refine PySem.W.callWith_K (h₀:=X.base) I.ok.mod.kin hk (thn (ha pos pins s σ H _ I h) fun us s1 ⟨vs,H1,I1,r,q⟩=>⟨I1.kIn,?_⟩) he hpl
  exact BO F hr hb hd hx I1 r q
theorem D6 {pl:Sem Bool} (he:PE X o ta) (c:Cls X.K C) (hm:Meth X.K C m f) (F:FnOk X.prog X.w X.K X.mg X.base CX k f fd ps sp) (hr:Room k X.A) (hb:Binds X.K fd ps ds) (hd:Vals dvs ds) (hx:xu CX X E) (ha:PA X (e :: es) t)
    (hst:starEach (e :: es) X.env=(false,eval e X.env) :: starEach es X.env:=by rfl) (hpl:(backTo pos (starEach es X.env)).any (·.1)=false:=by rfl)
    (ht:eval (.Call (.Attribute o m apos) (e :: es) [] pos) X.env=(do
      let ov ← eval o X.env
      standAt apos.atName
      let (f,first) ← holding [ov] (getMethod ov m pl)
      callWith pos f first (backTo pos (starEach (e :: es) X.env)) (backToKw pos (keywordEach [] X.env))):=by rfl) :
    PE X (.Call (.Attribute o m apos) (e :: es) [] pos) (Bi C m sp dvs E ta t):=by
  intro pins s σ H Q I h
  refine PySem.W.methodCall_KW (pl:=pl) (thn (he pins s σ H _ I h) fun u s1 ⟨x,H1,I1,rx,a,dx,fs,ex,ea,l,q⟩=>?_) ht
  subst ex
  obtain rfl:u=Value.ref a:=rx
  refine vw I1 ea c hm l ?_
  refine PySem.W.callWith_K (first:=[.ref a]) (h₀:=X.base) I.ok.mod.kin hm.kp (thn (ha pos pins s1 σ H1 _ I1 q) fun us s2 ⟨vs,H2,I2,r,q2⟩=>⟨I2.kIn,?_⟩) hst hpl
  exact BO (us:=.ref a :: us) (vs:=.ref a :: vs) F hr hb hd hx I2 (.cons rfl r) q2
theorem CG {pl:Sem Bool} (he:PE X o ta) (c:Cls X.K C) (hm:Meth X.K C m f) (F:FnOk X.prog X.w X.K X.mg X.base CX k f fd ps sp) (hr:Room k X.A) (hb:Binds X.K fd ps ds) (hd:Vals dvs ds) (hx:xu CX X E)
    (ht:eval (.Call (.Attribute o m apos) [] [] pos) X.env=(do
      let ov ← eval o X.env
      standAt apos.atName
      let (f,first) ← holding [ov] (getMethod ov m pl)
      callWith pos f first (backTo pos (starEach [] X.env)) (backToKw pos (keywordEach [] X.env))):=by rfl) :
    PE X (.Call (.Attribute o m apos) [] [] pos) (Bi C m sp dvs E ta tNil):=by
  intro pins s σ H Q I h
  refine PySem.W.methodCall_KW (pl:=pl) (thn (he pins s σ H _ I h) fun u s1 ⟨x,H1,I1,rx,a,dx,fs,ex,ea,l,q⟩=>?_) ht
  subst ex
  obtain rfl:u=Value.ref a:=rx
  refine vw I1 ea c hm l ?_
  exact PySem.W.callWith_K0 (first:=[.ref a]) I1.kIn hm.kp (BO (us:=[.ref a]) (vs:=[.ref a]) F hr hb hd hx I1 (.cons rfl .nil) q)
structure Mk (K:PySem.W.Frag) (C f:Addr):Prop where
  makes:PySem.W.makesIn K C=true
  init:PySem.W.findIn K (.ref C) "__init__"=some (some (.ref f))
  fn:PySem.W.isFn K (.ref f)=true
  kp:PySem.W.keepIn K (.ref C)=true
theorem C5 {pins:List (Addr × Obj)} {σ:St} {H:Hp} {s:Shared} {Q:VK} {us:List Value} {vs:List V} (M:Mk X.K C f) (F:FnOk X.prog X.w X.K X.mg X.base CX k f fd ps sp) (hr:Room (k + 1) X.A) (hb:Binds X.K fd ps ds) (hd:Vals dvs ds)
    (hx:xu CX X E) (I:Inv X pins σ H s) (r:Vals vs us)
    (h:∀ x dx,H x=none→H dx=none→dx ≠ x→sp (.ref x :: (vs ++ dvs)) (upd (upd H dx (.own x)) x (.ins C dx [])) (fun v H2=>v=.non∧Q (.ref x) H2) E) :
    wpAny (model X.prog X.w) X.A (call (.ref C) us) (EP X pins σ Q) X.xe s:=by
  have hq:=h (s.heap.objs.size + 1) s.heap.objs.size (I.hok.fresh (Nat.le_succ _)) (I.hok.fresh (Nat.le_refl _)) (Nat.ne_of_lt (Nat.lt_succ_self _))
  have I2:=Inv.made (C:=C) I
  have r2:Vals (V.ref (s.heap.objs.size + 1) :: (vs ++ dvs)) (Value.ref (s.heap.objs.size + 1) :: (us ++ ds)):=.cons rfl (r.append hd)
  have hl:(Value.ref (s.heap.objs.size + 1) :: us ++ ds).length=ps.length:=by
    have e:=r2.length
    rw [F.len _ _ _ _ hq] at e
    exact e.symm
  refine wpAny_call (CH (f:=f) I.kIn M.makes M.init (beq_iff_eq.mp M.fn) (codeAny_mono (F.run _ X.stack _ _ ⟨Value.ref (s.heap.objs.size + 1) :: us,[]⟩ (Value.ref (s.heap.objs.size + 1) :: (us ++ ds)) _ _ E (hr.make C us [])
    (I2.env0.make C us []) (hb _ (Value.ref (s.heap.objs.size + 1) :: us) I2.kIn hl) r2 hq) fun r s' hq'=>?_))
  cases r with
  | error e=>exact hx pins σ _ _ e s' I2 hq'
  | ok fl =>
    cases fl with
    | ret u =>
      obtain ⟨v,H',I3,rv,ev,q3⟩:=I2.after hq'
      subst ev
      exact ⟨rv,⟨V.ref (s.heap.objs.size + 1),H',I3,rfl,q3⟩⟩
    | next=>exact False.elim hq'
    | brk=>exact False.elim hq'
    | cont=>exact False.elim hq'
theorem EJ (M:Mk X.K C f) (F:FnOk X.prog X.w X.K X.mg X.base CX k f fd ps sp) (hr:Room (k + 1) X.A) (hg:Gl X x) (hm:X.mg x=some (.ref C)) (hb:Binds X.K fd ps ds) (hd:Vals dvs ds) (hx:xu CX X E)
    (ha:PA X (e :: es) t) (hdb:(x == ("__debug__":Str))=false:=by decide) (he:starEach (e :: es) X.env=(false,eval e X.env) :: starEach es X.env:=by rfl) (hpl:(backTo pos (starEach es X.env)).any (·.1)=false:=by rfl) :
    PE X (.Call (.Name x p) (e :: es) [] pos) (Ej C sp dvs E t):=by
  intro pins s σ H Q I h
  refine wpAny_Call_Name_kw (tU I hg hm ?_ hdb)
  refine PySem.W.callWith_K (h₀:=X.base) I.ok.mod.kin M.kp (thn (ha pos pins s σ H _ I h) fun us s1 ⟨vs,H1,I1,r,q⟩=>⟨I1.kIn,?_⟩) he hpl
  exact C5 M F hr hb hd hx I1 r q
end
section
variable {X:Cx} {CX:CXT} {k:Nat} {f C:Addr} {fd:FuncData} {ps ks:List Str} {sp:Sp} {E:XK} {x m:Str} {p pos apos kpos:Pos} {e o:Expr} {es:List Expr} {kws:List Keyword} {te ta:TE} {t tk:TA} {nm:Option Str}
variable {g:List Value→List Value→List Value} {gV:List V→List V→List V}
end
structure FnScope (N P:List Str) (sc:Scope):Prop where
  kind:sc.kind=.function
  co:sc.isCoroutine=false
  gen:sc.isGenerator=false
  nd:N.Nodup
  pre:N.take P.length=P
  par:∀ x ∈ P,sc.names.lookup x=some .local ∨ sc.names.lookup x=some .cell
  nofree:∀ y ∈ sc.names,y.2 ≠ .free
theorem ur {kindOf:Str→Option NameKind} {x:Str}:∀ {binds:List (Str × Value)} {m:Str→Option Value},(∀ v,(x,v) ∉ binds)→bindL kindOf binds m x=m x
  | [],_,_=>rfl
  | (n,v) :: r,m,h=>by
    unfold bindL
    rw [ur fun w hw=>h w (List.mem_cons_of_mem _ hw)]
    split
    · have:x ≠ n:=by rintro rfl; exact h v List.mem_cons_self
      simp [this]
    · rfl
theorem uU {kindOf:Str→Option NameKind} {x:Str}:∀ {binds:List (Str × Value)} {m:Str→Option Value},(∀ v,(x,v) ∉ binds)→bindC kindOf binds m x=m x
  | [],_,_=>rfl
  | (n,v) :: r,m,h=>by
    unfold bindC
    rw [uU fun w hw=>h w (List.mem_cons_of_mem _ hw)]
    split
    · rfl
    · have:x ≠ n:=by rintro rfl; exact h v List.mem_cons_self
      simp [this]
theorem uT {kindOf:Str→Option NameKind} {x:Str} {v:Value}:∀ {P:List Str} {vs:List Value} {i:Nat} {m:Str→Option Value},P.Nodup→P[i]?=some x→vs[i]?=some v→kindOf x=some .local →
    bindL kindOf (P.zip vs) m x=some v
  | [],_,_,_,_,h,_,_=>by simp at h
  | _ :: _,[],_,_,_,_,h,_=>by simp at h
  | p :: P,w :: vs,0,m,nd,h1,h2,hk=>by
    simp at h1 h2; subst h1; subst h2
    show bindL kindOf ((p,w) :: P.zip vs) m p=_
    unfold bindL
    rw [ur fun v hv=>(List.nodup_cons.mp nd).1 (List.of_mem_zip hv).1,if_pos hk]
    simp
  | p :: P,w :: vs,i + 1,m,nd,h1,h2,hk=>by
    show bindL kindOf ((p,w) :: P.zip vs) m x=_
    unfold bindL
    exact uT (i:=i) (List.nodup_cons.mp nd).2 (by simpa using h1) (by simpa using h2) hk
theorem uV {kindOf:Str→Option NameKind} {x:Str} {v:Value}:∀ {P:List Str} {vs:List Value} {i:Nat} {m:Str→Option Value},P.Nodup→P[i]?=some x→vs[i]?=some v→kindOf x ≠ some .local →
    bindC kindOf (P.zip vs) m x=some v
  | [],_,_,_,_,h,_,_=>by simp at h
  | _ :: _,[],_,_,_,_,h,_=>by simp at h
  | p :: P,w :: vs,0,m,nd,h1,h2,hk=>by
    simp at h1 h2; subst h1; subst h2
    show bindC kindOf ((p,w) :: P.zip vs) m p=_
    unfold bindC
    rw [uU fun v hv=>(List.nodup_cons.mp nd).1 (List.of_mem_zip hv).1,if_neg hk]
    simp
  | p :: P,w :: vs,i + 1,m,nd,h1,h2,hk=>by
    show bindC kindOf ((p,w) :: P.zip vs) m x=_
    unfold bindC
    exact uV (i:=i) (List.nodup_cons.mp nd).2 (by simpa using h1) (by simpa using h2) hk
def zJ (N:List Str) (vs:List V):St:=vs.map some ++ List.replicate (N.length - vs.length) none
def cxOf (CX:CXT) (P:Program) (w:World) (K:PySem.W.Frag) (mg:Str→Option Value) (base:Heap) (N:List Str) (qual:Str) (scope:Scope) (f:Addr) (cd:Value) (A:Around) (outer:List Env) (s:Shared) (H:Hp) (E:XK):Cx where
  prog:=P
  w:=w
  K:=K
  mg:=mg
  base:=base
  A:=A.deeper (envOfC qual scope s.heap.objs.size f cd)
  N:=N
  s₀:=s
  H₀:=H
  env:=envOfC qual scope s.heap.objs.size f cd
  outer:=outer
  stack:=envOfC qual scope s.heap.objs.size f cd :: outer
  ex:=[]
  calm:=true
  fn:=fun _=>true
  pn:=[]
  xe:=fun e s'=>wpAny (model P w) (A.deeper (envOfC qual scope s.heap.objs.size f cd)) (leaving (envOfC qual scope s.heap.objs.size f cd) e) (fun _ s''=>CX outer H s E e s'') (fun e' s''=>CX outer H s E e' s'') s'
theorem Ak {sc:Scope} {n:Nat} {x:Str} (h:sc.names.lookup x=some .cell):∃ c,(cellsFrom n sc.names []).lookup x=some c:=by
  have q:=PySem.W.cellsFrom_some sc.names n [] (.inl h)
  exact Option.isSome_iff_exists.mp q
theorem Cm {CX:CXT} {P:Program} {w:World} {K:PySem.W.Frag} {mg:Str→Option Value} {base:Heap} {N ps:List Str} {qual:Str} {scope:Scope} {f:Addr} {cd:Value} {A:Around} {outer:List Env} {s s1:Shared} {H:Hp} {E:XK} {us:List Value} {vs:List V}
    (S:FnScope N ps scope) (hd:A.handled=none) (e0:Env0 P w K mg base A outer s H) (hl:vs.length=ps.length) (r:Vals vs us)
    (x:InCallC s s.heap.objs.size (bindL (envOfC qual scope s.heap.objs.size f cd).kindOf (ps.zip us) fun _=>none) (cellsFrom (s.heap.objs.size + 1) scope.names []) (bindC (envOfC qual scope s.heap.objs.size f cd).kindOf (ps.zip us) fun _=>none) s1) :
    Inv (cxOf CX P w K mg base N qual scope f cd A outer s H E) [] (zJ N vs) H s1:=by
  have hpl:ps.length ≤ N.length:=by have:=congrArg List.length S.pre; rw [List.length_take] at this; omega
  obtain ⟨h1,tk,rfl,hk⟩:=x.done
  have noA:∀ b:Addr,b ∉ (cxOf CX P w K mg base N qual scope f cd A outer s H E).ex:=fun b z=>absurd (show b ∈ ([]:List Addr) from z) (by simp)
  refine ⟨⟨e0.mod,S.kind,rfl,rfl,Nat.le_refl _,fun y z c h1 h2=>?_,fun y hy=>?_,fun y c _ h=>?_,fun _=>hd,Around.frames_deeper e0.frames,.inr ⟨rfl,rfl⟩,fun b z=>absurd z (noA b),e0.bs,e0.bsz,fun b _ _=>noA b,fun b z=>absurd z (noA b),e0.funs,e0.frf⟩,
    rfl,e0.bare,Un.kept hk,⟨_,x.toInCall.ns,fun i y v h1 h2 h3=>?_⟩,fun y c h=>⟨_,x.cell y c h⟩,e0.hok.fresh (Nat.le_refl _),fun y c h=>?_,fun p hp=>absurd (show p ∈ ([]:List (Addr × Obj)) from hp) (by simp),e0.hok.kept hk,?_⟩
  · exact name_of_addr x.apart (PySem.mem_of_lookup h1) (PySem.mem_of_lookup h2)
  · have hy:scope.names.lookup y=some .cell ∨ scope.names.lookup y=some .free:=hy
    rcases hy with hy | hy
    · exact Ak hy
    · exact absurd rfl (S.nofree _ (PySem.mem_of_lookup hy))
  · exact Nat.le_of_lt (x.above y c (PySem.mem_of_lookup h))
  · have hi:i < vs.length:=by
      unfold zJ at h2
      by_cases hi:i < vs.length
      · exact hi
      · rw [List.getElem?_append_right (by simpa using hi)] at h2
        rw [List.getElem?_replicate] at h2
        split at h2 <;> cases h2
    have ha:vs[i]?=some v:=by
      unfold zJ at h2
      rw [List.getElem?_append_left (by simpa using hi),List.getElem?_map] at h2
      cases e:vs[i]? with
      | none=>rw [e] at h2; cases h2
      | some a=>rw [e] at h2; cases h2; rfl
    obtain ⟨u,hu,rv⟩:=r.get ha
    have hp:ps[i]?=some y:=by
      rw [← S.pre,List.getElem?_take_of_lt (by omega)]; exact h1
    have ndP:ps.Nodup:=by rw [← S.pre]; exact S.nd.sublist (List.take_sublist _ _)
    refine ⟨u,rv,?_⟩
    rcases S.par y (List.mem_of_getElem? hp) with k | k
    · exact .inl ⟨k,uT ndP hp hu k⟩
    · obtain ⟨c,e⟩:=Ak (n:=s.heap.objs.size + 1) k
      refine .inr ⟨.inl k,c,e,?_⟩
      have q:=x.cell y c e
      rw [uV ndP hp hu (by show scope.names.lookup y ≠ _; rw [k]; decide)] at q
      exact q
  · exact e0.hok.fresh (Nat.le_of_lt (x.above y c (PySem.mem_of_lookup h)))
  · unfold zJ
    show _=N.length
    rw [List.length_append,List.length_map,List.length_replicate]
    omega
theorem Gm {CX:CXT} {P:Program} {w:World} {K:PySem.W.Frag} {mg:Str→Option Value} {base:Heap} {k:Nat} {f:Addr} {name qual:Str} {params:Arguments} {body:List Stmt} {scope:Scope} {dV kV doc pm cdv ct oc:Value} {an od:Option Addr}
    {osl:Array (Option Value)} {N ps:List Str} {sp:Sp} (lk:K.lookup f=some ⟨oc,od,.func (PySem.W.fnOf name qual params body scope dV kV doc pm an cdv ct),osl⟩) (hcd:PySem.W.codeIn K cdv qual=true) (S:FnScope N ps scope)
    (len:∀ vs H Q E,sp vs H Q E→vs.length=ps.length)
    (hbody:∀ (A:Around) (outer:List Env) (s:Shared) (H:Hp) (vs:List V) (Q:VK) (E:XK),Room k (A.deeper (envOfC qual scope s.heap.objs.size f cdv))→sp vs H Q E →
      ∃ t,PSs (cxOf CX P w K mg base N qual scope f cdv A outer s H E) body t∧t { nx:=fun _ H'=>Q .non H',rt:=Q } (zJ N vs) H) :
    FnOk P w K mg base CX (k + 1) f (PySem.W.fnOf name qual params body scope dV kV doc pm an cdv ct) ps sp:=by
  refine ⟨len,fun A outer s H args us vs Q E hr e0 hb r hsp=>?_⟩
  have hl:=len _ _ _ _ hsp
  have KX:K.In s.heap:=e0.mod.kin.keeps fun b o e=>(e0.bs b o e).1
  have lim:s.heap.NoLimit:=e0.mod.nolimit.keeps fun b o e=>(e0.bs b o e).1
  have hkind:∀ y ∈ ps.zip us,scope.names.lookup y.1=some .local ∨ (scope.names.lookup y.1=some .cell∧((cellsFrom (s.heap.objs.size + 1) scope.names []).lookup y.1).isSome=true):=fun ⟨n,v⟩ hy=>by
    rcases S.par n (List.of_mem_zip hy).1 with q | q
    · exact .inl q
    · exact .inr ⟨q,PySem.W.cellsFrom_some _ _ _ (.inl q)⟩
  refine codeAny_call_function hr.depth (KX _ _ lk) rfl S.co S.gen rfl (PySem.W.codeRec_of KX hcd) (hb _ _ _ _ ?_)
  refine wpAny_newFunctionEnv_cells S.kind hkind fun env he s1 x=>?_
  subst he
  refine ⟨lim.keeps x.toInCall.keep,codeAny_func ?_⟩
  obtain ⟨t,ht,hq⟩:=hbody A outer s H vs Q E (hr.deeper _) hsp
  have I:Inv (cxOf CX P w K mg base N qual scope f cdv A outer s H E) [] (zJ N vs) H s1:=Cm S hr.hd e0 hl r x
  refine wpAny_mono (ht [] s1 (zJ N vs) H _ I hq) (fun fl s' hs=>?_) fun e s' hs=>hs
  have fin:∀ {σ':St} {H':Hp} {v:V} {u:Value},Inv (cxOf CX P w K mg base N qual scope f cdv A outer s H E) [] σ' H' s'→RelV v u→Q v H'→CE outer P w H s Q u s' :=
    fun {σ' H' v u} J rv q=>⟨v,H',J.os,J.bare,J.base,J.hok,rv,q⟩
  cases fl with
  | ret u =>
    obtain ⟨v,σ',H',J,rv,q⟩:=hs
    exact fin J rv q
  | next =>
    obtain ⟨σ',H',J,q⟩:=hs
    exact fin (v:=V.non) (u:=Value.none) J rfl q
  | brk =>
    obtain ⟨_,_,_,q⟩:=hs
    exact False.elim q
  | cont =>
    obtain ⟨_,_,_,q⟩:=hs
    exact False.elim q
end L2
namespace L2
open PySem PySem.Spec PyProof.Rows
section
variable {X:Cx} {x:Str} {p pos:Pos} {e:Expr} {es:List Expr} {t:TA} {id T:String} {r:List V→Hp→VK→Prop}
def tCB (r:List V→Hp→VK→Prop) (t:TA):TE:=fun σ H Q=>t σ H fun vs H1=>r vs H1 Q
theorem zu (hc:xh X (.builtin id) r) (hg:Gl X x) (hm:X.mg x=none) (hv:bootBuiltins x=some (.builtin id)) (ha:PA X (e :: es) t) (hn:x ≠ "__name__":=by decide) (hdb:(x == ("__debug__":Str))=false:=by decide)
    (he:starEach (e :: es) X.env=(false,eval e X.env) :: starEach es X.env:=by rfl) (hpl:(backTo pos (starEach es X.env)).any (·.1)=false:=by rfl):PE X (.Call (.Name x p) (e :: es) [] pos) (tCB r t):=by
  intro pins s σ H Q I h
  refine wpAny_Call_Name_kw (xT I hg hm hv ?_ hn hdb)
  exact PyProof.Rows.callWith_builtin1 (thn (ha pos pins s σ H _ I h) fun us s1 ⟨vs,H1,I1,r1,q1⟩=>hc pins s1 σ H1 vs us Q I1 r1 q1) he hpl
theorem yb (hc:xh X (.type T) r) (hg:Gl X x) (hm:X.mg x=none) (hv:bootBuiltins x=some (.type T)) (ha:PA X (e :: es) t) (hn:x ≠ "__name__":=by decide) (hdb:(x == ("__debug__":Str))=false:=by decide)
    (he:starEach (e :: es) X.env=(false,eval e X.env) :: starEach es X.env:=by rfl) (hpl:(backTo pos (starEach es X.env)).any (·.1)=false:=by rfl):PE X (.Call (.Name x p) (e :: es) [] pos) (tCB r t):=by
  intro pins s σ H Q I h
  refine wpAny_Call_Name_kw (xT I hg hm hv ?_ hn hdb)
  exact PyProof.Rows.callWith_type1 (thn (ha pos pins s σ H _ I h) fun us s1 ⟨vs,H1,I1,r1,q1⟩=>hc pins s1 σ H1 vs us Q I1 r1 q1) he hpl
end
end L2
namespace HT
open PySem PyProof.Rows
section
open PySem.SeqAt
open PySem.AutoSeq1 (wpAny_loadPart')
open PySem.MeetsSeq PySem.MeetsSeq2 PySem.MeetsSeq3
end
section
variable {prog:Program} {w:World} {A:Around} {E:Value→Shared→Prop} {s:Shared}
def sIx (n d:Nat):Option Int→Nat
  | none=>d
  | some v=>if v < 0 then (v + (n:Int)).toNat else min v.toNat n
theorem sIx_none (n d:Nat):sIx n d none=d:=rfl
theorem sIx_nat (n d k:Nat):sIx n d (some (k:Int))=min k n:=by
  show (if (k:Int) < 0 then ((k:Int) + (n:Int)).toNat else min (k:Int).toNat n)=min k n
  rw [if_neg (by omega),Int.toNat_natCast]
theorem Fw (n d:Nat) (hd:d ≤ n) (o:Option Int):sIx n d o ≤ n:=by
  cases o with
  | none=>exact hd
  | some v =>
    show (if v < 0 then (v + (n:Int)).toNat else min v.toNat n) ≤ n
    by_cases hv:v < 0
    · rw [if_pos hv]; omega
    · rw [if_neg hv]; exact Nat.min_le_right _ _
theorem Cq (v:Int) (n d:Nat):(if v < 0 then max (v + (n:Int)) 0 else min v (n:Int))=((sIx n d (some v):Nat):Int):=by
  show (if v < 0 then max (v + (n:Int)) 0 else min v (n:Int))=(((if v < 0 then (v + (n:Int)).toNat else min v.toNat n):Nat):Int)
  by_cases hv:v < 0
  · simp only [if_pos hv]; omega
  · simp only [if_neg hv]; omega
theorem AU (lo hi:Option Int) (n:Nat):Builtin.Slice.sliceAdjust lo hi 1 (n:Int)=(((sIx n 0 lo:Nat):Int),((sIx n n hi:Nat):Int)):=by
  have h1:¬ ((1:Int) < 0):=by omega
  unfold Builtin.Slice.sliceAdjust
  simp only [h1,if_false]
  refine Prod.ext ?_ ?_
  · cases lo with
    | none=>rfl
    | some v=>exact Cq v n 0
  · cases hi with
    | none=>rfl
    | some v=>exact Cq v n n
theorem AE (i j:Nat):Builtin.Slice.slicePlaces (i:Int) (j:Int) 1=j - i:=by
  unfold Builtin.Slice.slicePlaces
  have h1:(1:Int) > 0:=by omega
  simp only [h1,if_true,Int.ediv_one]
  split <;> omega
theorem vv {v:Value} {o:Option Int} {Q:Option Int→Shared→Prop} (p:IsPart v o) (h:Q o s):wpAny (model prog w) A (Builtin.Slice.slicePartIndex v) Q E s:=by
  cases p with
  | none=>exact slicePart_none h
  | int i t=>exact slicePart_int h
theorem wz {sl:Addr} {vl vu:Value} {lo hi:Option Int} {n:Nat} {Q:Int × Int × Nat→Shared→Prop} (hs:s.heap.IsSliceOf sl vl vu .none) (pl:IsPart vl lo) (pu:IsPart vu hi)
    (h:Q (((sIx n 0 lo:Nat):Int),1,sIx n n hi - sIx n 0 lo) s):wpAny (model prog w) A (Builtin.Slice.sliceApplied (.ref sl) (pure (n:Int))) Q E s:=by
  obtain ⟨os,hos,hcs,hds⟩:=id hs
  unfold Builtin.Slice.sliceApplied Builtin.Slice.sliceFields
  refine wpAny_bind (wpAny_bind (wpAny_field hos hds (x:=vl) rfl (wpAny_bind (wpAny_field hos hds (x:=vu) rfl (wpAny_bind (wpAny_field hos hds (x:=.none) rfl (wpAny_pure ?_)))))))
  refine wpAny_bind (slicePart_none ?_)
  show wpAny _ _ (if ((1:Int) == 0)=true then _ else _) _ _ s
  rw [if_neg (by decide)]
  refine wpAny_bind (vv pl (wpAny_bind (vv pu (wpAny_bind (wpAny_pure ?_)))))
  show wpAny _ _ (match Builtin.Slice.sliceAdjust lo hi 1 (n:Int) with | (lo,hi)=>pure (lo,(1:Int),Builtin.Slice.slicePlaces lo hi 1)) _ _ s
  rw [AU lo hi n]
  show wpAny _ _ (pure (((sIx n 0 lo:Nat):Int),(1:Int),Builtin.Slice.slicePlaces ((sIx n 0 lo:Nat):Int) ((sIx n n hi:Nat):Int) 1)) _ _ s
  rw [AE]
  exact wpAny_pure h
theorem Dm (xs:Array Value) (i k:Nat):((List.range k).filterMap fun (m:Nat)=>xs[((i:Int) + (m:Int) * 1).toNat]?).toArray=((xs.toList.drop i).take k).toArray:=by
  have e:(fun (m:Nat)=>xs[((i:Int) + (m:Int) * 1).toNat]?)=fun m=>xs[i + m]?:=by
    funext m
    have:((i:Int) + (m:Int) * 1).toNat=i + m:=by omega
    rw [this]
  rw [e]
  have:=pick_run xs i k
  rw [List.filterMap_map] at this
  have e2:((fun x=>xs[x]?) ∘ fun x=>i + x)=fun m=>xs[i + m]?:=rfl
  rw [e2] at this
  rw [this]
theorem getItem_tuple_cut {t sl:Addr} {items:Array Value} {vl vu:Value} {lo hi:Option Int} {Q:Value→Shared→Prop} (ht:IsTup s.heap t items) (hs:s.heap.IsSliceOf sl vl vu .none) (pl:IsPart vl lo) (pu:IsPart vu hi)
    (hw:¬ (sIx items.size 0 lo=0∧sIx items.size items.size hi=items.size))
    (h:Q (.ref s.heap.objs.size) { s with heap:=s.heap.push { cls:=.type "tuple",data:=.seq ((items.toList.drop (sIx items.size 0 lo)).take (sIx items.size items.size hi - sIx items.size 0 lo)).toArray } })
    (hsz:items.size ≤ sizeLine):wpAny (model prog w) A (getItem (.ref t) (.ref sl)) Q E s:=by
  have htake:sizeOk (.seq ((items.toList.drop (sIx items.size 0 lo)).take (sIx items.size items.size hi - sIx items.size 0 lo)).toArray):=by
    show ((items.toList.drop (sIx items.size 0 lo)).take (sIx items.size items.size hi - sIx items.size 0 lo)).toArray.size ≤ sizeLine
    rw [List.size_toArray,List.length_take,List.length_drop,Array.length_toList]
    omega
  have hj:sIx items.size items.size hi ≤ items.size:=Fw _ _ (Nat.le_refl _) hi
  obtain ⟨os,hos,hcs,hds⟩:=id hs
  have hTs:s.TypeIs (.ref sl) "slice":=⟨os,hos,hcs⟩
  unfold getItem
  try with_reducible refine wpAny_holding ?_
  first | refine wpAny_bind (wpAny_pure ?_) | skip
  refine wpAny_bind (wpAny_sequenceKey ht.typeIs (by decide) ?_)
  refine wpAny_bind (wpAny_callSpecial?_slot (name:=Str.ofString "__getitem__") ht.typeIs PyProof.Rows.slot_tuple_getitem
    (wpAny_call_entry PyProof.Rows.slot_tuple_getitem ht.typeIs entry_tuple_getitem ?_ (args_tuple_getitem _ _)))
  show wpAny _ _ (Builtin.Tuple.tupleItemsOf (.ref t) >>= _) _ _ s
  refine wpAny_bind (tupleItemsOf_ ht ?_)
  refine wpAny_bind (wpAny_typeOf hTs ?_)
  rw [if_pos (by decide)]
  refine wpAny_bind (wz hs pl pu ?_)
  have hno:¬ ((((sIx items.size 0 lo:Nat):Int) == 0 && (1:Int) == 1 && (sIx items.size items.size hi - sIx items.size 0 lo) == items.size)=true):=by
    intro q
    rw [Bool.and_eq_true,Bool.and_eq_true] at q
    have q1:((sIx items.size 0 lo:Nat):Int)=0:=eq_of_beq q.1.1
    have q2:sIx items.size items.size hi - sIx items.size 0 lo=items.size:=eq_of_beq q.2
    exact hw ⟨by omega,by omega⟩
  show wpAny _ _ (if (((sIx items.size 0 lo:Nat):Int) == 0 && (1:Int) == 1 && (sIx items.size items.size hi - sIx items.size 0 lo) == items.size)=true then _ else _) _ _ s
  rw [if_neg hno,Dm]
  first
    | exact wpAny_bind (m:=Builtin.Tuple.tupleExact _) (wpAny_newObj_type (wpAny_pure ⟨_,rfl,wpAny_pure h⟩) htake)
    | exact wpAny_bind (m:=Builtin.Tuple.tupleExact _) (wpAny_newObj_type (wpAny_bind (wpAny_pure (wpAny_pure ⟨_,rfl,wpAny_pure h⟩))) htake)
    | exact wpAny_bind (wpAny_bind (m:=Builtin.Tuple.tupleExact _) (wpAny_newObj_type (wpAny_pure (wpAny_pure ⟨_,rfl,wpAny_pure h⟩)) htake))
    | exact wpAny_bind (wpAny_bind (m:=Builtin.Tuple.tupleExact _) (wpAny_newObj_type (wpAny_pure ⟨_,rfl,wpAny_pure h⟩) htake))
end
end HT
namespace L2
open PySem PySem.Spec PyProof.Rows
abbrev TO:=St→Hp→(Option Int→Hp→Prop)→Prop
def PO (X:Cx) (e:Option Expr) (t:TO):Prop :=
  ∀ (pins:List (Addr × Obj)) (s:Shared) (σ:St) (H:Hp) (Q:Option Int→Hp→Prop),Inv X pins σ H s→t σ H Q →
    wpAny (model X.prog X.w) X.A (evalPart e X.env) (fun u s'=>∃ o H',Inv X pins σ H' s'∧IsPart u o∧Q o H') X.xe s
def A6:TO:=fun _ H Q=>Q none H
def Go (t:TE):TO:=fun σ H Q=>t σ H fun x H1=>∃ i,x=.int i∧Q (some i) H1
section
variable {X:Cx} {e:Expr} {te:TE} {lo hi:Option Expr} {tl th:TO} {pos p2:Pos}
theorem Cw:PO X none A6:=by
  intro pins s σ H Q I h
  rw [evalPart_none]
  exact wpAny_pure ⟨none,H,I,.none,h⟩
theorem vX (h:PE X e te):PO X (some e) (Go te):=by
  intro pins s σ H Q I hw
  rw [evalPart_some]
  refine thn (h pins s σ H _ I hw) fun u s1 ⟨x,H1,I1,r1,q1⟩=>?_
  obtain ⟨i,rfl,q⟩:=q1
  obtain ⟨t,rfl⟩:=r1
  exact ⟨some i,H1,I1,.int i t,q⟩
def SlR (X:Cx) (r:V→Option Int→Option Int→Hp→VK→Prop):Prop :=
  ∀ (pins:List (Addr × Obj)) (s:Shared) (σ:St) (H:Hp) (x:V) (v vl vu:Value) (lo hi:Option Int) (sl:Addr) (Q:VK),Inv X pins σ H s→RelV x v→s.heap.IsSliceOf sl vl vu .none→IsPart vl lo→IsPart vu hi→r x lo hi H Q →
    ∃ T id,typeLookup (.type T) "__getitem__"=pure (some (.builtin id))∧s.TypeIs v T∧wpAny (model X.prog X.w) X.A (getItem v (.ref sl)) (EP X pins σ Q) X.xe s
def tSl (r:V→Option Int→Option Int→Hp→VK→Prop) (te:TE) (tl th:TO):TE:=fun σ H Q=>te σ H fun x H1=>tl σ H1 fun l H2=>th σ H2 fun u H3=>r x l u H3 Q
theorem vA {r:V→Option Int→Option Int→Hp→VK→Prop} (hr:SlR X r) (he:PE X e te) (hl:PO X lo tl) (hu:PO X hi th):PE X (.Subscript e (.Slice lo hi none p2) pos) (tSl r te tl th):=by
  intro pins s σ H Q I h
  refine Subscript_ (thn (he pins s σ H _ I h) fun v s1 ⟨x,H1,I1,r1,q1⟩=>?_)
  refine wpAny_Slice (thn (hl pins s1 σ H1 _ I1 q1) fun vl s2 ⟨l,H2,I2,pl,q2⟩=>thn (hu pins s2 σ H2 _ I2 q2) fun vu s3 ⟨u,H3,I3,pu,q3⟩=>?_)
  rw [evalPart_none]
  refine wpAny_pure ?_
  have I4:Inv X pins σ H3 { s3 with heap:=s3.heap.push { cls:=.type "slice",data:=.fields #[vl,vu,.none] } }:=I3.kept (t':=s3.toks) fun b ob q=>Heap.get?_push_of_some _ q
  obtain ⟨T,id,hT,ht,hg⟩:=hr pins { s3 with heap:=s3.heap.push { cls:=.type "slice",data:=.fields #[vl,vu,.none] } } σ H3 x v vl vu l u s3.heap.objs.size Q I4 r1 (Heap.IsSliceOf.new ..) pl pu q3
  show wpAny (model X.prog X.w) X.A (subscriptTail e (.Slice lo hi none p2) v (.ref s3.heap.objs.size)) (EP X pins σ Q) X.xe { s3 with heap:=s3.heap.push { cls:=.type "slice",data:=.fields #[vl,vu,.none] } }
  exact tail_any (ops:=[.ref s3.heap.objs.size,v]) ht hT hg (by with_unfolding_all rfl)
def cutV (xs:List V) (lo hi:Option Int):List V:=(xs.drop (HT.sIx xs.length 0 lo)).take (HT.sIx xs.length xs.length hi - HT.sIx xs.length 0 lo)
theorem wY (xs:List V) (lo hi:Option Int):(cutV xs lo hi).length ≤ xs.length:=by
  unfold cutV
  rw [List.length_take,List.length_drop]
  omega
def rSlT (K:PySem.W.Frag):V→Option Int→Option Int→Hp→VK→Prop:=fun x lo hi H Q=>∃ a xs,x=.ref a∧SqT K H a xs ∧
  ¬ (HT.sIx xs.length 0 lo=0∧HT.sIx xs.length xs.length hi=xs.length)∧∀ p,H p=none→Q (.ref p) (upd H p (.tup (cutV xs lo hi)))
theorem FT:SlR X (rSlT X.K):=by
  intro pins s σ H x v vl vu lo hi sl Q I rx hs pl pu h
  obtain ⟨a,xs,rfl,hx,hw,q⟩:=h
  cases rx
  obtain ⟨its,r,ht,hz⟩:=I.tuple hx
  have hlen:its.toArray.size=xs.length:=by rw [List.size_toArray]; exact r.length.symm
  refine ⟨"tuple",_,PyProof.Rows.slot_tuple_getitem.lookup,ht.typeIs,?_⟩
  refine HT.getItem_tuple_cut ht hs pl pu (by rw [hlen]; exact hw) ?_ (by rw [hlen]; exact hz)
  rw [hlen]
  refine ⟨.ref s.heap.objs.size,_,I.laid (t':=s.toks) (o:=.tup (cutV xs lo hi)) (fun b ob q=>Heap.get?_push_of_some _ q) (Nat.le_refl _) ?_,rfl,q _ (I.hok.fresh (Nat.le_refl _))⟩
  exact ⟨Nat.le_trans (wY xs lo hi) hz,_,(r.drop (HT.sIx xs.length 0 lo)).take (HT.sIx xs.length xs.length hi - HT.sIx xs.length 0 lo),IsTup.new _ _⟩
end
end L2
namespace L2
open PySem PySem.Spec PyProof.Rows
def ixN (n:Nat) (i:Int):Option Nat:=if 0 ≤ i then (if i < n then some i.toNat else none) else if -(n:Int) ≤ i then some (i + n).toNat else none
def atI {α:Type} (xs:List α) (i:Int):Option α:=(ixN xs.length i).bind fun j=>xs[j]?
theorem EF {n:Nat} {i:Int} {j:Nat} (h:ixN n i=some j):seqIndex? i n=some j∧j < n∧-(n:Int) ≤ i∧i < n:=by
  unfold ixN at h
  by_cases h0:0 ≤ i
  · rw [if_pos h0] at h
    by_cases h1:i < n
    · rw [if_pos h1] at h
      have e:i.toNat=j:=Option.some.inj h
      exact ⟨by rw [seqIndex_of h0 h1,e],by omega,by omega,h1⟩
    · rw [if_neg h1] at h; cases h
  · rw [if_neg h0] at h
    by_cases h1:-(n:Int) ≤ i
    · rw [if_pos h1] at h
      have e:(i + n).toNat=j:=Option.some.inj h
      exact ⟨by rw [seqIndex_neg (by omega) h1,e],by omega,h1,by omega⟩
    · rw [if_neg h1] at h; cases h
theorem Ct {α:Type} {xs:List α} {i:Int} {v:α} (h:atI xs i=some v):∃ j,seqIndex? i xs.length=some j∧xs[j]?=some v∧j < xs.length∧-(xs.length:Int) ≤ i∧i < xs.length:=by
  unfold atI at h
  cases e:ixN xs.length i with
  | none=>rw [e] at h; cases h
  | some j =>
    rw [e] at h
    obtain ⟨h1,h2,h3,h4⟩:=EF e
    exact ⟨j,h1,h,h2,h3,h4⟩
theorem zI {α:Type} {xs:List α} {j:Nat} {v:α} (h:xs[j]?=some v):atI xs (j:Int)=some v:=by
  have hj:j < xs.length:=(List.getElem?_eq_some_iff.mp h).1
  have e:ixN xs.length (j:Int)=some j:=by
    unfold ixN
    rw [if_pos (by omega),if_pos (by omega)]; simp
  unfold atI; rw [e]; exact h
def EL (b:Expr):Prop:=∀ o i,subscripted b false o i=operate [o,i] (getItem o i)
def IxR (X:Cx) (r:R2):Prop :=
  ∀ (value slice:Expr) (pins:List (Addr × Obj)) (s:Shared) (σ:St) (H:Hp) (x y:V) (v u:Value) (Q:VK),Inv X pins σ H s→RelV x v→RelV y u→r x y H Q →
    subscripted slice false v u=operate [v,u] (getItem v u)→wpAny (model X.prog X.w) X.A (subscriptTail value slice v u) (EP X pins σ Q) X.xe s
def MtR (X:Cx) (id:String) (r:V→List V→Hp→VK→Prop):Prop :=
  ∀ (pins:List (Addr × Obj)) (s:Shared) (σ:St) (H:Hp) (x:V) (xs:List V) (v:Value) (us:List Value) (Q:VK),Inv X pins σ H s→RelV x v→Vals xs us→r x xs H Q →
    wpAny (model X.prog X.w) X.A (call (.builtin id) (v :: us)) (EP X pins σ Q) X.xe s
section
variable {X:Cx} {a b:Expr} {ta tb:TE} {pos:Pos}
theorem zh {r:R2} (hr:IxR X r) (ha:PE X a ta) (hb:PE X b tb) (hs:EL b):PE X (.Subscript a b pos) (tOp r ta tb):=by
  intro pins s σ H Q I h
  exact Subscript_ (binT ha hb I h fun v u s2 x y H2 I2 rx ry q=>hr a b pins s2 σ H2 x y v u Q I2 rx ry q (hs _ _))
def rIxL (K:PySem.W.Frag):R2:=fun x y H Q=>∃ p xs i v,x=.ref p∧y=.int i∧SqL K H p xs∧atI xs i=some v∧Q v H
def rIxT (K:PySem.W.Frag):R2:=fun x y H Q=>∃ p xs i v,x=.ref p∧y=.int i∧SqT K H p xs∧atI xs i=some v∧Q v H
theorem zo:IxR X (rIxL X.K):=by
  intro value slice pins s σ H x y v u Q I rx ry h hs
  obtain ⟨p,xs,i,z,rfl,rfl,hq,he,q⟩:=h
  cases rx
  obtain ⟨t,rfl⟩:=ry
  obtain ⟨its,r,pl,hz⟩:=I.list hq
  obtain ⟨j,h1,h2,h3,h4,h5⟩:=Ct he
  obtain ⟨w,ew,rw'⟩:=r.get h2
  have hl:=r.length
  have hn:=Bj
  have fin:EP X pins σ Q w s:=⟨z,H,I,rw',q⟩
  by_cases h0:0 ≤ i
  · have hj:i.toNat=j:=by
      rw [seqIndex_of h0 h5] at h1
      exact Option.some.inj h1
    exact item_listR pl.isList h0 (by omega) (by rw [hj]; simpa using ew) fin hs
  · have hj:(i + (its.toArray.size:Int)).toNat=j:=by
      rw [seqIndex_neg (by omega) h4] at h1
      rw [List.size_toArray,← hl]
      exact Option.some.inj h1
    exact subscriptTail_builtinR (x:=w) pl.isList.typeIs slot_list_getitem.lookup
      (wpAny_getItem_list_neg (Q:=fun r s'=>r=w∧EP X pins σ Q r s') pl.isList (by omega) (by rw [List.size_toArray] <;> omega) (by omega) (by rw [hj]; simpa using ew) ⟨rfl,fin⟩) hs
theorem zg:IxR X (rIxT X.K):=by
  intro value slice pins s σ H x y v u Q I rx ry h hs
  obtain ⟨p,xs,i,z,rfl,rfl,hq,he,q⟩:=h
  cases rx
  obtain ⟨t,rfl⟩:=ry
  obtain ⟨its,r,pl,hz⟩:=I.tuple hq
  obtain ⟨j,h1,h2,h3,h4,h5⟩:=Ct he
  obtain ⟨w,ew,rw'⟩:=r.get h2
  have hl:=r.length
  have hn:=Bj
  have fin:EP X pins σ Q w s:=⟨z,H,I,rw',q⟩
  exact subscriptTail_builtinR (x:=w) pl.typeIs slot_tuple_getitem.lookup
    (getItem_tuple (j:=j) (Q:=fun r s'=>r=w∧EP X pins σ Q r s') pl (by omega) (by omega) (by rw [List.size_toArray,← hl]; exact h1) (by simpa using ew) ⟨rfl,fin⟩) hs
theorem uv (lo hi:Option Int) (n:Nat):(sliceBounds lo hi none n).1=((HT.sIx n 0 lo:Nat):Int)∧(sliceBounds lo hi none n).2.1=((HT.sIx n n hi:Nat):Int)∧(sliceBounds lo hi none n).2.2=1:=by
  refine ⟨?_,?_,rfl⟩
  · cases lo with
    | none=>simp [sliceBounds,HT.sIx]
    | some i =>
      simp only [sliceBounds,HT.sIx,Option.getD_none,show (1:Int) > 0 by decide,if_true]
      by_cases h:i < 0
      · simp only [h,if_true] <;> omega
      · simp only [h,if_false] <;> omega
  · cases hi with
    | none=>simp [sliceBounds,HT.sIx]
    | some i =>
      simp only [sliceBounds,HT.sIx,Option.getD_none,show (1:Int) > 0 by decide,if_true]
      by_cases h:i < 0
      · simp only [h,if_true] <;> omega
      · simp only [h,if_false] <;> omega
theorem vU (its:List Value) (lo hi:Option Int):slicePick its.toArray lo hi none=((its.drop (HT.sIx its.length 0 lo)).take (HT.sIx its.length its.length hi - HT.sIx its.length 0 lo)).toArray:=by
  obtain ⟨h1,h2,h3⟩:=uv lo hi its.toArray.size
  unfold slicePick
  rw [h1,h2,h3]
  simp only [sliceRange_one,pick_run,List.size_toArray] <;> rfl
def rSlL (K:PySem.W.Frag):V→Option Int→Option Int→Hp→VK→Prop:=fun x lo hi H Q=>∃ a xs,x=.ref a∧SqL K H a xs∧∀ p,H p=none→Q (.ref p) (upd H p (.lst (cutV xs lo hi)))
theorem BJ:SlR X (rSlL X.K):=by
  intro pins s σ H x v vl vu lo hi sl Q I rx hs pl pu h
  obtain ⟨a,xs,rfl,hx,q⟩:=h
  cases rx
  obtain ⟨its,r,ht,hz⟩:=I.list hx
  have hlen:=r.length
  refine ⟨"list",_,slot_list_getitem.lookup,ht.isList.typeIs,?_⟩
  refine wpAny_getItem_list_slice ht.isList hs pl pu .none (by simp) ?_ (by rw [List.size_toArray] <;> omega)
  rw [vU,← hlen]
  refine ⟨.ref s.heap.objs.size,_,I.laid (t':=s.toks) (o:=.lst (cutV xs lo hi)) (fun b ob q=>Heap.get?_push_of_some _ q) (Nat.le_refl _) ?_,rfl,q _ (I.hok.fresh (Nat.le_refl _))⟩
  exact ⟨Nat.le_trans (wY xs lo hi) hz,_,0,(r.drop (HT.sIx xs.length 0 lo)).take (HT.sIx xs.length xs.length hi - HT.sIx xs.length 0 lo),Heap.get?_push_size _ rfl⟩
def xb:V→Bool
  | .non=>true
  | .bl _=>true
  | .int _=>true
  | .str _=>true
  | _=>false
def eqV:V→V→Bool
  | .non,.non=>true
  | .bl a,.bl b=>a == b
  | .bl a,.int b=>(if a then 1 else 0) == b
  | .int a,.bl b=>a == (if b then 1 else 0)
  | .int a,.int b=>a == b
  | .str a,.str b=>a == b
  | _,_=>false
theorem Fy {A:Around} {s:Shared} {y x:V} {u v:Value} (ry:RelV y u) (rx:RelV x v) (fy:xb y=true) (fx:xb x=true):SeqAt.EqAt A s u v (eqV y x):=by
  cases y with
  | non =>
    cases ry
    cases x with
    | non=>cases rx; exact SeqAt.EqAt.same _
    | bl b=>cases rx; exact SeqAt.EqAt.none_bool b
    | int b=>obtain ⟨t,rfl⟩:=rx; exact SeqAt.EqAt.none_int b t
    | str b=>obtain ⟨t,rfl⟩:=rx; exact SeqAt.EqAt.none_str b t
    | _=>exact absurd (show false=true from fx) Bool.false_ne_true
  | bl a =>
    cases ry
    cases x with
    | non=>cases rx; exact SeqAt.EqAt.bool_none a
    | bl b=>cases rx; exact SeqAt.EqAt.bool_bool a b
    | int b=>obtain ⟨t,rfl⟩:=rx; exact SeqAt.EqAt.bool_int a b t
    | str b=>obtain ⟨t,rfl⟩:=rx; exact SeqAt.EqAt.bool_str a b t
    | _=>exact absurd (show false=true from fx) Bool.false_ne_true
  | int a =>
    obtain ⟨t',rfl⟩:=ry
    cases x with
    | non=>cases rx; exact SeqAt.EqAt.int_none a t'
    | bl b=>cases rx; exact SeqAt.EqAt.int_bool a t' b
    | int b=>obtain ⟨t,rfl⟩:=rx; exact SeqAt.EqAt.int_int a t' b t
    | str b=>obtain ⟨t,rfl⟩:=rx; exact SeqAt.EqAt.int_str a t' b t
    | _=>exact absurd (show false=true from fx) Bool.false_ne_true
  | str a =>
    obtain ⟨t',rfl⟩:=ry
    cases x with
    | non=>cases rx; exact SeqAt.EqAt.str_none a t'
    | bl b=>cases rx; exact SeqAt.EqAt.str_bool a t' b
    | int b=>obtain ⟨t,rfl⟩:=rx; exact SeqAt.EqAt.str_int a t' b t
    | str b=>obtain ⟨t,rfl⟩:=rx; exact SeqAt.EqAt.str_str a t' b t
    | _=>exact absurd (show false=true from fx) Bool.false_ne_true
  | _=>exact absurd (show false=true from fy) Bool.false_ne_true
def eqU (x:V) (u:Value):Bool:=match u with
  | .none=>eqV .non x
  | .bool b=>eqV (.bl b) x
  | .int i _=>eqV (.int i) x
  | .str z _=>eqV (.str z) x
  | _=>false
theorem DK {x y:V} {u:Value} (r:RelV y u) (f:xb y=true):eqU x u=eqV y x:=by
  cases y with
  | non=>cases r; rfl
  | bl b=>cases r; rfl
  | int i=>obtain ⟨t,rfl⟩:=r; rfl
  | str z=>obtain ⟨t,rfl⟩:=r; rfl
  | _=>exact absurd (show false=true from f) Bool.false_ne_true
theorem w8 {x:V}:∀ {xs:List V} {us:List Value},Vals xs us→xs.all xb=true→us.any (eqU x)=xs.any fun y=>eqV y x
  | _,_,.nil,_=>rfl
  | y :: xs,u :: us,.cons r t,f=>by
    rw [List.all_cons,Bool.and_eq_true] at f
    rw [List.any_cons,List.any_cons,DK r f.1,w8 t f.2]
theorem xR {A:Around} {s:Shared} {x:V} {v:Value} (rx:RelV x v) (fx:xb x=true):∀ {xs:List V} {us:List Value},Vals xs us→xs.all xb=true→∀ u ∈ us,SeqAt.EqAt A s u v (eqU x u)
  | _,_,.nil,_=>fun u hu=>by cases hu
  | y :: xs,u :: us,.cons r t,f=>fun u' hu=>by
    rw [List.all_cons,Bool.and_eq_true] at f
    rcases List.mem_cons.mp hu with rfl | hu
    · rw [DK r f.1]; exact Fy r rx f.1 fx
    · exact xR rx fx t f.2 u' hu
def inV (x:V) (xs:List V):Bool:=xs.any fun y=>eqV y x
def rIn (K:PySem.W.Frag) (neg:Bool):R2:=fun x y H Q=>∃ p xs,y=.ref p∧(SqL K H p xs ∨ SqT K H p xs)∧xb x=true∧xs.all xb=true∧Q (.bl (if neg then !inV x xs else inV x xs)) H
theorem yl:OpR X (compareOp .In) (rIn X.K false):=by
  intro pins s σ H x y v u Q I rx ry h
  obtain ⟨p,xs,rfl,hq,fx,fs,q⟩:=h
  cases ry
  rcases hq with hq | hq
  · obtain ⟨its,r,pl,hz⟩:=I.list hq
    refine SeqAt.in_listAt (eqU x) pl.isList (fun w hw=>xR rx fx r fs w (by simpa using hw)) ⟨.bl _,H,I,rfl,?_⟩
    rw [show its.toArray.any (eqU x)=its.any (eqU x) by simp,w8 r fs]
    exact q
  · obtain ⟨its,r,pl,hz⟩:=I.tuple hq
    refine SeqAt.in_tupleAt (eqU x) pl (fun w hw=>xR rx fx r fs w (by simpa using hw)) ⟨.bl _,H,I,rfl,?_⟩
    rw [show its.toArray.any (eqU x)=its.any (eqU x) by simp,w8 r fs]
    exact q
theorem wy:OpR X (compareOp .NotIn) (rIn X.K true):=by
  intro pins s σ H x y v u Q I rx ry h
  obtain ⟨p,xs,rfl,hq,fx,fs,q⟩:=h
  cases ry
  rcases hq with hq | hq
  · obtain ⟨its,r,pl,hz⟩:=I.list hq
    refine SeqAt.notIn_listAt (eqU x) pl.isList (fun w hw=>xR rx fx r fs w (by simpa using hw)) ⟨.bl _,H,I,rfl,?_⟩
    rw [show its.toArray.any (eqU x)=its.any (eqU x) by simp,w8 r fs]
    exact q
  · obtain ⟨its,r,pl,hz⟩:=I.tuple hq
    refine SeqAt.notIn_tupleAt (eqU x) pl (fun w hw=>xR rx fx r fs w (by simpa using hw)) ⟨.bl _,H,I,rfl,?_⟩
    rw [show its.toArray.any (eqU x)=its.any (eqU x) by simp,w8 r fs]
    exact q
theorem uE:xh X (.builtin "len") (fun xs H Q=>∃ p ys,xs=[.ref p]∧(SqL X.K H p ys ∨ SqT X.K H p ys)∧Q (.int ys.length) H):=by
  intro pins s σ H xs us Q I r h
  obtain ⟨p,ys,rfl,hq,q⟩:=h
  obtain ⟨u,rfl,rx⟩:=BR r
  cases rx
  have hn:=Bj
  rcases hq with hq | hq
  · obtain ⟨its,r',pl,hz⟩:=I.list hq
    have hlen:=r'.length
    exact Calls.call_len_list pl.isList (by simp only [List.size_toArray] <;> omega) ⟨.int ys.length,H,I.tok _,⟨s.toks + 1,by rw [List.size_toArray,hlen]⟩,q⟩
  · obtain ⟨its,r',pl,hz⟩:=I.tuple hq
    have hlen:=r'.length
    exact len_tuple pl (by simp only [List.size_toArray] <;> omega) ⟨.int ys.length,H,I.tok _,⟨s.toks + 1,by rw [List.size_toArray,hlen]⟩,q⟩
theorem uQ:xh X (.type "list") (fun xs H Q=>∃ p ys,xs=[.ref p]∧(SqL X.K H p ys ∨ SqT X.K H p ys)∧∀ l,H l=none→Q (.ref l) (upd H l (.lst ys))):=by
  intro pins s σ H xs us Q I r h
  obtain ⟨p,ys,rfl,hq,q⟩:=h
  obtain ⟨u,rfl,rx⟩:=BR r
  cases rx
  have fin:∀ (its:List Value),Vals ys its→ys.length ≤ sizeLine→∀ (h':Heap) (c':Nat),(∀ b o',s.heap.get? b=some o'→h'.get? b=some o') →
      h'.get? s.heap.objs.size=some { cls:=.type "list",dict:=none,data:=.seq its.toArray c',slots:=#[] }→EP X pins σ Q (.ref s.heap.objs.size) { s with heap:=h' }:=fun its r' hz h' c' kp e =>
    ⟨.ref s.heap.objs.size,_,I.laid (t':=s.toks) kp (Nat.le_refl _) (show ObjOk X.prog X.w _ h' _ (.lst ys) from ⟨hz,its,c',r',e⟩),rfl,q _ (I.hok.fresh (Nat.le_refl _))⟩
  rcases hq with hq | hq
  · obtain ⟨its,r',pl,hz⟩:=I.list hq
    have hlen:=r'.length
    obtain ⟨o,ho,hc,n,hd⟩:=pl.isList
    exact call_list_seq p (.inl rfl) ho hc hd (fun h' c' kp e=>fin its r' hz h' c' kp e) (by simp only [List.size_toArray] <;> omega)
  · obtain ⟨its,r',pl,hz⟩:=I.tuple hq
    have hlen:=r'.length
    obtain ⟨o,ho,hc,n,hd⟩:=pl
    exact call_list_seq p (.inr rfl) ho hc hd (fun h' c' kp e=>fin its r' hz h' c' kp e) (by simp only [List.size_toArray] <;> omega)
def tyV (K:PySem.W.Frag) (T:String) (x:V) (H:Hp):Prop:=match x with
  | .str _=>T="str"
  | .int _=>T="int"
  | .ref p=>(T="list"∧∃ xs,SqL K H p xs) ∨ (T="tuple"∧∃ o,K.lookup p=some o∧o.cls=.type "tuple"∧o.dict=none) ∨
      (T="dict"∧((∃ kvs,H p=some (.dK kvs)) ∨ ∃ kvs,H p=some (.dT kvs))) ∨ (T="set"∧∃ S n,H p=some (.set S n))
  | _=>False
theorem DM {pins:List (Addr × Obj)} {σ:St} {H:Hp} {s:Shared} {T:String} {x:V} {v:Value} (I:Inv X pins σ H s) (r:RelV x v) (ty:tyV X.K T x H) :
    s.TypeIs v T∧∀ a,v=.ref a→∃ ob,s.heap.get? a=some ob∧ob.dict=none:=by
  cases x with
  | str z =>
    obtain ⟨t,rfl⟩:=r
    cases (show T="str" from ty)
    exact ⟨typeIs_str s z t,fun _ e=>nomatch e⟩
  | int i =>
    obtain ⟨t,rfl⟩:=r
    cases (show T="int" from ty)
    exact ⟨typeIs_int s i t,fun _ e=>nomatch e⟩
  | ref p =>
    cases r
    rcases ty with ⟨rfl,xs,hq⟩ | ⟨rfl,o,hk,hc,hd⟩ | ⟨rfl,hk⟩ | ⟨rfl,S,n,hk⟩
    · obtain ⟨its,_,pl,_⟩:=I.list hq
      refine ⟨pl.isList.typeIs,fun a e=>?_⟩
      cases e
      obtain ⟨o,n,e,c,hd,_⟩:=pl
      exact ⟨o,e,hd⟩
    · refine ⟨⟨o,I.kIn p o hk,hc⟩,fun a e=>?_⟩
      cases e
      exact ⟨o,I.kIn _ o hk,hd⟩
    · have z:∃ o,s.heap.get? p=some o∧o.ExactDict:=by
        rcases hk with ⟨kvs,hk⟩ | ⟨kvs,hk⟩
        · obtain ⟨_,_,_,_,o,_,_,e,ex,_⟩:=I.hok p _ hk
          exact ⟨o,e,ex⟩
        · obtain ⟨_,_,_,_,o,_,_,e,ex,_⟩:=I.hok p _ hk
          exact ⟨o,e,ex⟩
      obtain ⟨o,e,ex⟩:=z
      refine ⟨⟨o,e,ex.1⟩,fun a e2=>?_⟩
      cases e2
      exact ⟨o,e,ex.2.1⟩
    · obtain ⟨o,_,_,_,e,ex,_⟩:=I.hok p _ hk
      refine ⟨⟨o,e,ex.1⟩,fun a e2=>?_⟩
      cases e2
      exact ⟨o,e,ex.2.1⟩
  | _=>exact False.elim ty
def tBM0 (K:PySem.W.Frag) (T:String) (r:V→List V→Hp→VK→Prop) (to:TE):TE:=fun σ H Q=>to σ H fun x H1=>tyV K T x H1∧r x [] H1 Q
def tBM (K:PySem.W.Frag) (T:String) (r:V→List V→Hp→VK→Prop) (to:TE) (t:TA):TE:=fun σ H Q=>to σ H fun x H1=>tyV K T x H1∧t σ H1 fun xs H2=>r x xs H2 Q
variable {o e:Expr} {es:List Expr} {to:TE} {t:TA} {name:Str} {apos cpos:Pos} {T id:String} {r:V→List V→Hp→VK→Prop}
theorem Cb (pa:PlainAttrs T) (slot:Slot T name id) (hty:typeOf (.builtin id)=pure (.type "method_descriptor")) (hm:MtR X id r) (ho:PE X o to)
    (hbase:attributeBase o name X.env (eval o X.env)=eval o X.env:=by rfl) (hline:(apos.endLine == cpos.line)=true:=by rfl):PE X (.Call (.Attribute o name apos) [] [] cpos) (tBM0 X.K T r to):=by
  intro pins s σ H Q I h
  refine wpAny_Call_method0_late hbase hline (thn (ho pins s σ H _ I h) fun v s1 ⟨x,H1,I1,r1,ty,q1⟩=>?_)
  obtain ⟨h1,h2⟩:=DM I1 r1 ty
  exact ⟨T,id,pa,slot,hty,h1,h2,Calls.callWith_builtin rfl (PySem.evalArgs_none (hm pins s1 σ H1 x [] v [] Q I1 r1 .nil q1))⟩
theorem uw (pa:PlainAttrs T) (slot:Slot T name id) (hty:typeOf (.builtin id)=pure (.type "method_descriptor")) (hm:MtR X id r) (ho:PE X o to) (ha:PA X (e :: es) t)
    (hbase:attributeBase o name X.env (eval o X.env)=eval o X.env:=by rfl)
    (hfew:((backTo cpos (starEach (e :: es) X.env)).all (fun x=>!x.1) && (backToKw cpos (keywordEach [] X.env)).all (fun x=>x.1.isSome)
      && decide ((e :: es).length + ([]:List Keyword).length + (if ([]:List Keyword).isEmpty then 0 else 1) < 30))=true:=by rfl)
    (hline:(apos.endLine == cpos.line)=true:=by rfl) (hs:starEach (e :: es) X.env=(false,eval e X.env) :: starEach es X.env:=by rfl) (hplain:(backTo cpos (starEach es X.env)).any (·.1)=false:=by rfl) :
    PE X (.Call (.Attribute o name apos) (e :: es) [] cpos) (tBM X.K T r to t):=by
  intro pins s σ H Q I h
  refine wpAny_Call_method_late hbase hfew hline rfl (thn (ho pins s σ H _ I h) fun v s1 ⟨x,H1,I1,r1,ty,q1⟩=>?_)
  obtain ⟨h1,h2⟩:=DM I1 r1 ty
  refine ⟨T,id,pa,slot,hty,h1,h2,?_⟩
  have hA:=ha cpos pins s1 σ H1 _ I1 q1
  rw [hs] at hA ⊢
  refine Calls.callWith_builtin (by show (false || (backTo cpos (starEach es X.env)).any (·.1))=false; rw [hplain] <;> rfl) (Calls.evalArgs_plain ?_)
  exact thn hA fun us s2 ⟨vs,H2,I2,r2,q2⟩=>hm pins s2 σ H2 x vs v us Q I2 r1 r2 q2
end
end L2
namespace L2
open PySem PySem.Spec PyProof.Rows
def MtM (X:Cx) (id:String) (r:V→List V→Hp→VK→Prop):Prop :=
  ∀ (pins:List (Addr × Obj)) (s:Shared) (σ:St) (H:Hp) (x:V) (xs:List V) (v:Value) (us:List Value) (Q:VK),Inv X pins σ H s→RelV x v→Vals xs us→r x xs H Q →
    wpAny (model X.prog X.w) X.A (call (.builtin id) (v :: us)) (EP X pins σ Q) X.xe s
theorem Vals.one:∀ {x:V} {us:List Value},Vals [x] us→∃ u,us=[u]∧RelV x u
  | _,_,.cons r .nil=>⟨_,rfl,r⟩
theorem Vals.two:∀ {x y:V} {us:List Value},Vals [x,y] us→∃ u v,us=[u,v]∧RelV x u∧RelV y v
  | _,_,_,.cons r (.cons q .nil)=>⟨_,_,rfl,r,q⟩
theorem Vals.zero:∀ {us:List Value},Vals [] us→us=[]
  | _,.nil=>rfl
section
variable {X:Cx} {pins:List (Addr × Obj)} {σ:St} {H:Hp} {s:Shared} {l b:Addr} {xs ys zs:List V}
theorem Inv.lset {its its':List Value} {n:Nat} {f:Array Value→Array Value} {t':Nat} (I:Inv X pins σ H s) (hH:H l=some (.lst xs))
    (e:s.heap.get? l=some { cls:=.type "list",data:=.seq its.toArray n }) (hf:f its.toArray=its'.toArray) (hv:Vals ys its') (hz:ys.length ≤ sizeLine) :
    Inv X pins σ (upd H l (.lst ys)) { s with heap:=s.heap.update l (Obj.mapSeq f),toks:=t' }:=by
  have q:=PySem.IsL.update e f
  rw [hf] at q
  refine I.write (x:=l) (e:=l) (by rw [hH]; exact trivial) (.inl rfl) (fun b' u hb hu=>(Heap.get?_update_other s.heap (Obj.mapSeq f) (Ne.symm hb)).trans hu) ⟨_,q⟩ ?_
  exact ⟨hz,its',_,hv,q⟩
theorem Inv.lnew {its:List Value} {t':Nat} (I:Inv X pins σ H s) (hv:Vals ys its) (hz:ys.length ≤ sizeLine) :
    Inv X pins σ (upd H s.heap.objs.size (.lst ys)) { s with heap:=s.heap.push { cls:=.type "list",data:=.seq its.toArray },toks:=t' } :=
  I.laid (fun _ _ q=>Heap.get?_push_of_some _ q) (Nat.le_refl _) ⟨hz,its,0,hv,Heap.get?_push_size _ rfl⟩
theorem Inv.fresh (I:Inv X pins σ H s):H s.heap.objs.size=none:=I.hok.fresh (Nat.le_refl _)
theorem Inv.lstM (I:Inv X pins σ H s) (hH:H l=some (.lst xs)):xs.length ≤ sizeLine∧∃ (its:List Value) (n:Nat),Vals xs its∧xs.length=its.length∧s.heap.get? l=some { cls:=.type "list",data:=.seq its.toArray n }:=by
  obtain ⟨z,its,n,r,e⟩:=I.hok l _ hH
  exact ⟨z,its,n,r,r.length,e⟩
end
section
variable {X:Cx}
def z9:V→List V→Hp→VK→Prop:=fun x vs H Q=>∃ l xs y,x=.ref l∧vs=[y]∧H l=some (.lst xs)∧xs.length < sizeLine∧Q .non (upd H l (.lst (xs ++ [y])))
theorem ym:MtM X "list.append" z9:=by
  intro pins s σ H x vs v us Q I rx rv h
  obtain ⟨l,xs,y,rfl,rfl,hH,hz,q⟩:=h
  cases rx
  obtain ⟨u,rfl,ru⟩:=rv.one
  obtain ⟨z,its,n,r,hl,e⟩:=I.lstM hH
  refine call_meets F.slot_list_append ⟨_,e,rfl⟩ F.entry_list_append (F.args_list_append_2 _ _) (PySem.list_append l its.toArray n u (by rw [List.size_toArray]; omega)) ⟨e,?_⟩
  refine ⟨.non,_,I.lset (its':=its ++ [u]) hH e (by simp) (r.append (.cons ru .nil)) ?_,rfl,q⟩
  rw [List.length_append,List.length_singleton]
  omega
def DB:V→List V→Hp→VK→Prop:=fun x vs H Q=>∃ l xs,x=.ref l∧vs=[]∧H l=some (.lst xs)∧Q .non (upd H l (.lst []))
theorem Ay:MtM X "list.clear" DB:=by
  intro pins s σ H x vs v us Q I rx rv h
  obtain ⟨l,xs,rfl,rfl,hH,q⟩:=h
  cases rx
  have hus:=rv.zero
  subst hus
  obtain ⟨z,its,n,r,hl,e⟩:=I.lstM hH
  refine call_meets F.slot_list_clear ⟨_,e,rfl⟩ F.entry_list_clear (F.args_list_clear_1 _) (AutoSeq1.list_clear_list_0 l its.toArray n (by rw [List.size_toArray]; omega)) ⟨e,?_⟩
  exact ⟨.non,_,I.lset (its':=[]) (ys:=[]) hH e rfl .nil (Nat.zero_le _),rfl,q⟩
end
section
variable {prog:Program} {w:World} {A:Around} {E:Value→Shared→Prop} {s:Shared}
end
section
variable {X:Cx}
end
end L2
namespace Att
open PySem PySem.W PySem.Calls PyProof.Rows
theorem wF {P:Params} {h:Heap}:∀ (ns:List Int) (vs:List Value),WellAll P h vs (ns.map WData.int)→IntsAre vs ns:=by
  intro ns
  induction ns with
  | nil =>
    intro vs w
    rw [List.map_nil] at w
    cases w
    exact .nil
  | cons n ns ih =>
    intro vs w
    rw [List.map_cons] at w
    cases w with
    | cons a b =>
      cases a
      exact .cons _ _ (ih _ b)
theorem BA {l:OpenLaw} {n:Nat} (hn:l.most=some n) {P:Params} {h:Heap} {args:List WData} {vals:List Value}
    (hpre:l.row.toRowW.claim.pre args=true) (hwl:WellAll P h vals args) :
    ∃ a vs ns,vals=[Value.ref a]∧args=[WData.list (ns.map WData.int)]∧h.get? a=some { cls:=.type "list",data:=.seq vs.toArray }∧IntsAre vs ns∧ns.length ≤ n:=by
  have hsh:WShape.hasAll [] args [.list .int]=true:=(pre_splitW hpre).1
  have hc:l.pre.holds [] { args:=args }=true:=(pre_splitW hpre).2
  obtain ⟨d,r,rfl,h1,h2⟩:=hasAllW_cons hsh
  obtain rfl:=hasAllW_nil h2
  obtain ⟨xs,rfl,h3⟩:=hasW_list h1
  obtain ⟨ns,rfl⟩:=items_int h3
  have hlen:ns.length ≤ n:=by
    unfold OpenLaw.pre at hc
    have h4:(WTm.not (.lt (.lit (.int (n:Int))) (.len (.arg 0)))).holds [] { args:=[.list (ns.map .int)] }=true:=by
      have h4:=(holds_andW hc).1
      rw [hn] at h4
      exact h4
    have h5:=condW_of h4 (w_not (w_lt w_lit (w_len_list (w_arg rfl))))
    rw [List.length_map] at h5
    refine Nat.le_of_not_lt fun q=>?_
    have q':(n:Int) < ((ns.length:Nat):Int):=by omega
    first
      | (rw [decide_eq_true q'] at h5; exact absurd h5 (by decide))
      | (simp at h5; omega)
  cases hwl with
  | cons w1 w2 =>
    cases w2
    cases w1 with
    | list ho hall=>exact ⟨_,_,ns,rfl,rfl,ho,wF ns _ hall,hlen⟩
theorem CD (l:OpenLaw) (args:List WData):l.row.toRowW.claim.post args (.bool true) args=true :=
  postW_of (r:=l.row.toRowW) (X:=(true == true))
    (show WShape.has [] (.bool true) .bool=true by first | rfl | decide | simp [WShape.has,WShape.arms,WShape.armsAll])
    (show (WTm.eq .res (.lit (.bool true))).value [] { args:=args,res:=some (.bool true),after:=args }=some (.bool (true == true)) from w_eq_bool (w_res rfl) w_lit) rfl
section
variable {prog:Program} {w:World} {A:Around} {E:Value→Shared→Prop} {s:Shared} {K:Frag}
end
end Att
namespace L2
open PySem PySem.Spec PyProof.Rows
theorem uL:∀ {vs:List Value} {ns:List Int},IntsAre vs ns→Vals (ns.map V.int) vs
  | _,_,.nil=>.nil
  | _,_,.cons n t h=>.cons ⟨t,rfl⟩ (uL h)
def Only (H:Hp):Prop:=∀ b,H b=none ∨ ∃ o xs,H b=some (.frz o (.lst xs))
theorem CQ {P:Program} {w:World} {K:PySem.W.Frag} {mg mb:Str→Option Value} {CX:CXT} {k:Nat} {fa a:Addr} {fd:FuncData} {x:Str} {sp:Sp} {s₁:Shared} {vs:List Value} {ns:List Int}
    (KX:K.In s₁.heap) (hns:s₁.heap.Ns mainGlobals mg) (hb:s₁.heap.Ns builtinsNs mb) (hbb:∀ x:Str,x ≠ "__name__"→mb x=bootBuiltins x) (hlim:s₁.heap.NoLimit) (hg:s₁.gens=#[])
    (ha:s₁.heap.get? a=some { cls:=.type "list",data:=.seq vs.toArray }) (hi:IntsAre vs ns) (hl:ns.length ≤ sizeLine) (hr:Room k callerA)
    (F:∀ base:Heap,K.In base→base.Ns mainGlobals mg→FnOk P w K mg base CX k fa fd [x] sp) (hbind:∀ (s:Shared) (u:Value),BindsTo s fd ⟨[u],[]⟩ [(x,u)])
    (hsp:∀ H:Hp,Only H→SqL K H a (ns.map V.int)→sp [.ref a] H (fun v _=>v=.bl true) fun _ _ _=>False)
    (hCX:∀ H e s',CX [] H s₁ (fun _ _ _=>False) e s'→False) :
    codeAny (model P w) callerA (.call (.ref fa) ⟨[.ref a],[]⟩) (fun r s'=>r=.ok (.ret (.bool true))∧OldK s₁.heap s'.heap∧s'.os=s₁.os∧AllBare s'.gens) s₁:=by
  have rv:=uL hi
  have lenV:=hi.length
  have core:∀ H:Hp,Only H→SqL K H a (ns.map V.int)→HOk P w H s₁.heap→(∀ b,H b ≠ none→b=a)→(H a ≠ none→K.lookup a=none) →
      codeAny (model P w) callerA (.call (.ref fa) ⟨[.ref a],[]⟩) (fun r s'=>r=.ok (.ret (.bool true))∧OldK s₁.heap s'.heap∧s'.os=s₁.os∧AllBare s'.gens) s₁:=by
    intro H hO hS hok hA hK
    have base_of:∀ {b:Addr} {o:Obj},s₁.heap.get? b=some o→H b=none→(hidT s₁.heap H).get? b=some o:=fun e n=>Dt e n
    have noA:∀ {b:Addr} {o:Obj} {es:Array DictEntry} {ep:Nat},s₁.heap.get? b=some o→o.data=.dict es ep→H b=none:=fun {b o es ep} e d=>by
      cases q:H b with
      | none=>rfl
      | some u =>
        have e':b=a:=hA b (by rw [q]; simp)
        subst e'
        rw [ha] at e; cases e
        have d':Data.seq vs.toArray _=Data.dict es ep:=d
        cases d'
    have nsK:∀ {b:Addr} {m:Str→Option Value},s₁.heap.Ns b m→(hidT s₁.heap H).Ns b m:=fun {b m} ⟨o,es,ep,e,d,r⟩=>⟨o,es,ep,base_of e (noA e d),d,r⟩
    have hKb:K.In (hidT s₁.heap H):=fun b o e=>base_of (KX b o e) (by
      cases q:H b with
      | none=>rfl
      | some u =>
        have e':b=a:=hA b (by rw [q]; simp)
        subst e'
        rw [hK (by rw [q]; simp)] at e; cases e)
    have hM:Mod K mg (hidT s₁.heap H):=⟨hKb,nsK hns,⟨mb,nsK hb,hbb⟩,let ⟨mc,h1,h2⟩:=hlim; ⟨mc,nsK h1,h2⟩⟩
    have e0:Env0 P w K mg (hidT s₁.heap H) callerA [] s₁ H:=⟨rfl,hM,fun b o e=>Ev e,Nat.le_of_eq (BX _ _),trivial,fun b hb=>absurd (show b ∈ ([]:List Addr) from hb) (by simp),hok,.of_eq hg⟩
    refine codeAny_mono ((F _ hKb (nsK hns)).run callerA [] s₁ H ⟨[.ref a],[]⟩ [.ref a] [.ref a] _ _ hr e0 (hbind s₁ (.ref a)) (.cons rfl .nil) (hsp H hO hS)) fun r s' h=>?_
    cases r with
    | error e=>exact (hCX H e s' h).elim
    | ok fl =>
      cases fl with
      | next=>exact False.elim h
      | brk=>exact False.elim h
      | cont=>exact False.elim h
      | ret u =>
        obtain ⟨v,H',os,bare,un,hok',r',q⟩:=h
        have q':v=.bl true:=q
        subst q'
        obtain rfl:u=Value.bool true:=r'
        refine ⟨rfl,OldK.of_keep fun b o e=>?_,os,bare⟩
        cases q:H b with
        | none=>exact un.keep b o e q (by intro z; exact absurd (show b ∈ ([]:List Addr) from z) (by simp)) (by simp)
        | some u =>
          rcases hO b with z | ⟨ob,xs,z⟩
          · rw [q] at z; cases z
          · have z2:=un.frzs b ob _ z
            obtain ⟨e1,_⟩:=hok b _ z
            obtain ⟨e2,_⟩:=hok' b _ z2
            rw [e] at e1; cases e1
            exact e2
  cases hk:K.lookup a with
  | some o =>
    have e:=KX a o hk
    rw [ha] at e
    cases e
    refine core (fun _=>none) (fun _=>.inl rfl) (.inr ⟨_,vs.toArray,_,hk,rfl,rfl,rfl,by rw [List.size_toArray,lenV]; exact hl,by simpa using rv⟩) (fun b u z=>by have z':(none:Option HO)=some u:=z; cases z') (fun b z=>absurd rfl z) fun z=>absurd rfl z
  | none =>
    refine core (fun b=>if b=a then some (.frz { cls:=.type "list",data:=.seq vs.toArray } (.lst (ns.map V.int))) else none) (fun b=>?_) (.inl (.inr ⟨{ cls:=.type "list",data:=.seq vs.toArray },if_pos rfl⟩)) (fun b u z=>?_) (fun b z=>?_) fun _=>hk
    · by_cases hb:b=a
      · exact .inr ⟨_,_,if_pos hb⟩
      · exact .inl (if_neg hb)
    · by_cases hb:b=a
      · have z':=(if_pos hb).symm.trans z
        cases z'
        subst hb
        exact ⟨ha,by rw [List.length_map]; exact hl,vs,_,rv,ha⟩
      · have z':=(if_neg hb).symm.trans z
        cases z'
    · by_cases hb:b=a
      · exact hb
      · exact absurd (if_neg hb) z
end L2
namespace L2
open PySem PySem.Spec PyProof.Rows
end L2
namespace L2
open PySem PySem.Spec PyProof.Rows
def xw (s:Stmt) (j:Nat):Stmt:=match s with
  | .ClassDef _ _ _ body _ _ _ _ _ _ _=>body.getD j (.Pass ⟨0,0,0,0⟩)
  | _=>.Pass ⟨0,0,0,0⟩
def defArgs (s:Stmt):Arguments:=match s with
  | .FunctionDef _ a _ _ _ _ _ _ _ _=>a
  | _=>{ posonlyargs:=[],args:=[],vararg:=none,kwonlyargs:=[],kw_defaults:=[],kwarg:=none,defaults:=[] }
def defBody (s:Stmt):List Stmt:=match s with
  | .FunctionDef _ _ b _ _ _ _ _ _ _=>b
  | _=>[]
def defScope (s:Stmt):Scope:=match s with
  | .FunctionDef _ _ _ _ _ _ sc _ _ _=>sc
  | _=>{ kind:=.function,names:=[],isGenerator:=false,isCoroutine:=false }
abbrev CX0:CXT:=fun _ _ _ _ _ _=>False
abbrev E0:XK:=fun _ _ _=>False
theorem vZ {X:Cx}:xu CX0 X E0:=fun _ _ _ _ _ _ _ h=>h.elim
structure Fun (K:PySem.W.Frag) (x qual:Str) (st:Stmt) (f:Addr) (fd:FuncData):Prop where
  ex:∃ (oc:Value) (od:Option Addr) (kV doc pm:Value) (an:Option Addr) (cdv ct:Value) (osl:Array (Option Value)),
    fd=PySem.W.fnOf x qual (defArgs st) (defBody st) (defScope st) .none kV doc pm an cdv ct∧K.lookup f=some ⟨oc,od,.func fd,osl⟩∧PySem.W.codeIn K cdv qual=true
  kp:PySem.W.keepIn K (.ref f)=true
section
variable {P:Program} {w:World} {K:PySem.W.Frag} {mg:Str→Option Value} {base:Heap}
theorem Fun.ok {x qual:Str} {st:Stmt} {f:Addr} {fd:FuncData} {N ps:List Str} {k:Nat} {sp:Sp} (F:Fun K x qual st f fd) (S:FnScope N ps (defScope st)) (len:∀ vs H Q E,sp vs H Q E→vs.length=ps.length)
    (hbody:∀ (cdv:Value) (A:Around) (outer:List Env) (s:Shared) (H:Hp) (vs:List V) (Q:VK) (E:XK),Room k (A.deeper (envOfC qual (defScope st) s.heap.objs.size f cdv))→sp vs H Q E →
      ∃ t,PSs (cxOf CX0 P w K mg base N qual (defScope st) f cdv A outer s H E).nox (defBody st) t∧t { nx:=fun _ H'=>Q .non H',rt:=Q } (zJ N vs) H):FnOk P w K mg base CX0 (k + 1) f fd ps sp:=by
  obtain ⟨oc,od,kV,doc,pm,an,cdv,ct,osl,rfl,lk,hcd⟩:=F.ex
  refine Gm lk hcd S len fun A outer s H vs Q E hr hsp=>?_
  obtain ⟨t,h,q⟩:=hbody cdv A outer s H vs Q E hr hsp
  exact ⟨t,h.nox,q⟩
theorem Fun.binds {x qual:Str} {st:Stmt} {f:Addr} {fd:FuncData} {ps:List Str} (F:Fun K x qual st f fd)
    (h:∀ (kV doc pm:Value) (an:Option Addr) (cdv ct:Value) (us:List Value),us.length=ps.length→bindArgs (PySem.W.fnOf x qual (defArgs st) (defBody st) (defScope st) .none kV doc pm an cdv ct) ⟨us,[]⟩=pure (ps.zip us)):Binds K fd ps []:=by
  obtain ⟨oc,od,kV,doc,pm,an,cdv,ct,osl,rfl,lk,hcd⟩:=F.ex
  exact .all (h kV doc pm an cdv ct)
theorem DX {x qual:Str} {st:Stmt} {f:Addr} {oc:Value} {od an:Option Addr} {osl:Array (Option Value)} {kV doc pm cdv ct:Value} (l:K.lookup f=some ⟨oc,od,.func (PySem.W.fnOf x qual (defArgs st) (defBody st) (defScope st) .none kV doc pm an cdv ct),osl⟩)
    (c:PySem.W.codeIn K cdv qual=true) (k:PySem.W.keepIn K (.ref f)=true):Fun K x qual st f (PySem.W.fnOf x qual (defArgs st) (defBody st) (defScope st) .none kV doc pm an cdv ct):=⟨⟨oc,od,kV,doc,pm,an,cdv,ct,osl,rfl,l,c⟩,k⟩
end
theorem yO {A:Around} {k:Nat} (hr:Room k A):A.units + 1 < cLine:=Nat.lt_of_le_of_lt (Nat.add_le_add_left (by decide:1 ≤ 64) _) hr.units
theorem BH {n:Nat} (h:n ≤ 1000):n < sizeLine:=Nat.lt_of_le_of_lt h (by decide)
section
variable {X:Cx}
theorem pv (i:Nat) {x:Str} {pos:Pos} (hN:X.N[i]?=some x:=by rfl) (hv:Vis X.env.scope x:=by first | exact Or.inl rfl | exact Or.inr (Or.inl rfl) | exact Or.inr (Or.inr rfl)) (hd:(x == ("__debug__":Str))=false:=by decide)
    (hcd:(x == ("__classdict__":Str))=false:=by decide):PE X (.Name x pos) (tVar i):=Fi hN hv hd hcd
end
def Same (H H':Hp):Prop:=∀ b o,H b=some o→H' b=some o
theorem Same.refl (H:Hp):Same H H:=fun _ _ h=>h
theorem Same.trans {H H1 H2:Hp} (a:Same H H1) (b:Same H1 H2):Same H H2:=fun c o h=>b c o (a c o h)
theorem Same.seq {K:PySem.W.Frag} {H H':Hp} {a:Addr} {xs:List V} (e:Same H H') (h:SqL K H a xs):SqL K H' a xs:=by
  rcases h with (h | ⟨o,h⟩) | h
  · exact .inl (.inl (e _ _ h))
  · exact .inl (.inr ⟨o,e _ _ h⟩)
  · exact .inr h
end L2
namespace L2
open PySem PySem.Spec PyProof.Rows
end L2
namespace L2
open PySem PySem.Spec PyProof.Rows
end L2
namespace L2
open PySem PySem.Spec PyProof.Rows
end L2
namespace L2
open PySem PySem.Spec PyProof.Rows
end L2
namespace L2
open PySem PySem.Spec PyProof.Rows
end L2
namespace L2
open PySem PySem.Spec PyProof.Rows
end L2
namespace L2
open PySem PySem.Spec PyProof.Rows
end L2
namespace L2
open PySem PySem.Spec PyProof.Rows
end L2
namespace L2
open PySem PySem.Spec PyProof.Rows
end L2
namespace L2
open PySem PySem.Spec PyProof.Rows
end L2
namespace L2
open PySem PySem.Spec PyProof.Rows
section
variable {κ:Type} [DecidableEq κ]
def valV (kvs:List (κ × V)) (k:κ):Option V:=(kvs.find? fun kv=>decide (kv.1=k)).map (·.2)
def putK (kvs:List (κ × V)) (k:κ) (v:V):List (κ × V) :=
  if (kvs.any fun kv=>decide (kv.1=k))=true then kvs.map (fun kv=>if kv.1=k then (kv.1,v) else kv) else kvs ++ [(k,v)]
def vk (kvs:List (κ × V)) (k:κ):List (κ × V):=kvs.filter fun kv=>decide (kv.1 ≠ k)
theorem z6 {p:κ × V} {r:List (κ × V)} {k:κ} (e:p.1=k):valV (p :: r) k=some p.2:=by simp [valV,List.find?_cons,e]
theorem zX {p:κ × V} {r:List (κ × V)} {k:κ} (e:¬ p.1=k):valV (p :: r) k=valV r k:=by simp [valV,List.find?_cons,e]
theorem xJ (k:κ):∀ kvs:List (κ × V),(kvs.any fun kv=>decide (kv.1=k))=(valV kvs k).isSome
  | []=>rfl
  | p :: r=>by
    rw [List.any_cons]
    by_cases e:p.1=k
    · simp only [z6 e,decide_eq_true e,Bool.true_or,Option.isSome_some]
    · rw [zX e,decide_eq_false e,Bool.false_or]; exact xJ k r
theorem Au (k j:κ) (y:V):∀ kvs:List (κ × V),valV (kvs.map fun kv=>if kv.1=k then (kv.1,y) else kv) j=(valV kvs j).map fun x=>if j=k then y else x
  | []=>rfl
  | p :: r=>by
    have ih:=Au k j y r
    rw [List.map_cons]
    by_cases h:p.1=k
    · rw [if_pos h]
      by_cases e:p.1=j
      · rw [z6 (p:=(p.1,y)) e,z6 e,Option.map_some,if_pos (e.symm.trans h)]
      · rw [zX (p:=(p.1,y)) e,zX e,ih]
    · rw [if_neg h]
      by_cases e:p.1=j
      · rw [z6 (p:=p) e,z6 e,Option.map_some,if_neg (fun z=>h (e.trans z))]
      · rw [zX (p:=p) e,zX e,ih]
theorem ux (k j:κ) (y:V):∀ kvs:List (κ × V),valV kvs k=none→valV (kvs ++ [(k,y)]) j=if j=k then some y else valV kvs j
  | [],_=>by
    by_cases e:k=j
    · rw [if_pos e.symm]; exact z6 (p:=(k,y)) e
    · rw [if_neg (fun z=>e z.symm)]; exact zX (p:=(k,y)) e
  | p :: r,hn=>by
    rw [List.cons_append]
    have hk:¬ p.1=k:=fun z=>by rw [z6 z] at hn; cases hn
    rw [zX hk] at hn
    have ih:=ux k j y r hn
    by_cases e:p.1=j
    · rw [z6 e,z6 e,if_neg (fun z=>hk (e.trans z))]
    · rw [zX e,zX e,ih]
theorem xO (kvs:List (κ × V)) (k j:κ) (y:V):valV (putK kvs k y) j=if j=k then some y else valV kvs j:=by
  unfold putK
  by_cases a:(kvs.any fun kv=>decide (kv.1=k))=true
  · rw [if_pos a,Au]
    rw [xJ] at a
    by_cases e:j=k
    · obtain ⟨x,hx⟩:=Option.isSome_iff_exists.mp a
      rw [if_pos e,e,hx,Option.map_some,if_pos rfl]
    · rw [if_neg e]
      cases valV kvs j with
      | none=>rfl
      | some x=>rw [Option.map_some,if_neg e]
  · rw [if_neg a]
    refine ux k j y kvs ?_
    rw [xJ] at a
    cases q:valV kvs k with
    | none=>rfl
    | some x=>rw [q] at a; exact (a rfl).elim
theorem yB (kvs:List (κ × V)) (k:κ) (v:V):(putK kvs k v).length ≤ kvs.length + 1:=by
  unfold putK
  split
  · rw [List.length_map]; omega
  · rw [List.length_append,List.length_cons,List.length_nil]; omega
theorem v7 {kvs:List (κ × V)} {k:κ} (v:V) (h:valV kvs k=none):putK kvs k v=kvs ++ [(k,v)]:=by
  unfold putK
  rw [xJ,h]
  exact if_neg (by decide)
theorem RelO.isSome_eq {o:Option V} {u:Option Value} (r:RelO o u):o.isSome=u.isSome:=by
  cases o with
  | none=>cases u with
    | none=>rfl
    | some _=>exact (show False from r).elim
  | some _=>cases u with
    | none=>exact (show False from r).elim
    | some _=>rfl
theorem KV.val {kvs:List (κ × V)} {vs:List (κ × Value)} (r:KV kvs vs) (k:κ):RelO (valV kvs k) (valueAt vs k):=by
  unfold KV at r
  induction r with
  | nil=>exact True.intro
  | @cons p q ps qs h t ih =>
    obtain ⟨h1,h2⟩:=h
    by_cases e:p.1=k
    · have e':q.1=k:=h1.symm.trans e
      have b:valueAt (q :: qs) k=some q.2:=by simp [valueAt,List.find?_cons,e']
      rw [z6 e,b]; exact h2
    · have e':¬ q.1=k:=fun z=>e (h1.trans z)
      have b:valueAt (q :: qs) k=valueAt qs k:=by simp [valueAt,List.find?_cons,e']
      rw [zX e,b]; exact ih
theorem KV.any {kvs:List (κ × V)} {vs:List (κ × Value)} (r:KV kvs vs) (k:κ):(kvs.any fun kv=>decide (kv.1=k))=vs.any fun kv=>decide (kv.1=k):=by
  unfold KV at r
  induction r with
  | nil=>rfl
  | cons h t ih=>rw [List.any_cons,List.any_cons,ih,h.1]
theorem KV.repl {kvs:List (κ × V)} {vs:List (κ × Value)} (r:KV kvs vs) (k:κ) {y:V} {u:Value} (ry:RelV y u) :
    KV (kvs.map fun kv=>if kv.1=k then (kv.1,y) else kv) (vs.map fun kv=>if kv.1=k then (kv.1,u) else kv):=by
  unfold KV at r ⊢
  induction r with
  | nil=>exact .nil
  | @cons p q ps qs h t ih =>
    rw [List.map_cons,List.map_cons]
    refine .cons ?_ ih
    obtain ⟨h1,h2⟩:=h
    by_cases e:p.1=k
    · rw [if_pos e,if_pos (h1.symm.trans e)]; exact ⟨h1,ry⟩
    · rw [if_neg e,if_neg (fun z=>e (h1.trans z))]; exact ⟨h1,h2⟩
theorem KV.put {kvs:List (κ × V)} {vs:List (κ × Value)} (r:KV kvs vs) (k:κ) {y:V} {u:Value} (ry:RelV y u):KV (putK kvs k y) (stored vs k u):=by
  unfold putK stored
  rw [r.any k]
  by_cases e:(vs.any fun kv=>decide (kv.1=k))=true
  · rw [if_pos e,if_pos e]; exact r.repl k ry
  · rw [if_neg e,if_neg e]; exact Paired.snoc r ⟨rfl,ry⟩
theorem KV.drop {kvs:List (κ × V)} {vs:List (κ × Value)} (r:KV kvs vs) (k:κ):KV (vk kvs k) (without vs k):=by
  unfold KV at r ⊢
  unfold vk without
  induction r with
  | nil=>exact .nil
  | @cons p q ps qs h t ih =>
    obtain ⟨h1,h2⟩:=h
    rw [List.filter_cons,List.filter_cons]
    by_cases e:p.1=k
    · have a:¬ decide (p.1 ≠ k)=true:=by simp [e]
      have b:¬ decide (q.1 ≠ k)=true:=by simp [h1.symm.trans e]
      rw [if_neg a,if_neg b]; exact ih
    · have e':¬ q.1=k:=fun z=>e (h1.trans z)
      have a:decide (p.1 ≠ k)=true:=by simp [e]
      have b:decide (q.1 ≠ k)=true:=by simp [e']
      rw [if_pos a,if_pos b]; exact .cons ⟨h1,h2⟩ ih
theorem KV.keys {kvs:List (κ × V)} {vs:List (κ × Value)} (r:KV kvs vs):kvs.map (·.1)=vs.map (·.1):=by
  unfold KV at r
  induction r with
  | nil=>rfl
  | cons h t ih=>rw [List.map_cons,List.map_cons,ih,h.1]
theorem KV.length {kvs:List (κ × V)} {vs:List (κ × Value)} (r:KV kvs vs):kvs.length=vs.length:=Paired.length r
theorem CY (kvs:List (κ × V)) (k:κ):(vk kvs k).length ≤ kvs.length:=List.length_filter_le _ _
end
theorem AQ {P:Program} {w:World} {k:Key} {u:Value} (r:RelV (kV k) u):(zV P w).is k u=true:=by
  cases k with
  | inl i=>obtain ⟨t,e⟩:=(show ∃ t,u=Value.int i t from r); subst e; exact tR P w i t
  | inr x=>obtain ⟨t,e⟩:=(show ∃ t,u=Value.str x t from r); subst e; exact tt P w x t
theorem uO {P:Program} {w:World}:∀ {ks:List Key} {us:List Value},Vals (ks.map kV) us→ItemsAre (zV P w) ks us
  | [],_,r=>by rw [List.map_nil] at r; cases r; exact .nil
  | k :: ks,_,r=>by
    rw [List.map_cons] at r
    cases r with
    | cons h t=>exact .cons (AQ h) (uO t)
abbrev KT (H:Hp):List (List Key × V)→List (List Key × Addr × Value)→Prop:=Paired fun p q=>p.1=q.1∧H q.2.1=some (.tup (p.1.map kV))∧RelV p.2 q.2.2
theorem KT.val {H:Hp} {kvs:List (List Key × V)} {xs:List (List Key × Addr × Value)} (r:KT H kvs xs) (k:List Key):RelO (valV kvs k) ((atKey xs k).map (·.2)):=by
  induction r with
  | nil=>exact True.intro
  | @cons p q ps qs h t ih =>
    obtain ⟨h1,_,h2⟩:=h
    by_cases e:p.1=k
    · have e':q.1=k:=h1.symm.trans e
      have b:atKey (q :: qs) k=some q.2:=by simp [atKey,List.find?_cons,e']
      rw [z6 e,b]; exact h2
    · have e':¬ q.1=k:=fun z=>e (h1.trans z)
      have b:atKey (q :: qs) k=atKey qs k:=by simp [atKey,List.find?_cons,e']
      rw [zX e,b]; exact ih
theorem KT.repl {H:Hp} {kvs:List (List Key × V)} {xs:List (List Key × Addr × Value)} (r:KT H kvs xs) (k:List Key) {y:V} {u:Value} (ry:RelV y u) :
    KT H (kvs.map fun kv=>if kv.1=k then (kv.1,y) else kv) (xs.map (putAt k u)):=by
  induction r with
  | nil=>exact .nil
  | @cons p q ps qs h t ih =>
    rw [List.map_cons,List.map_cons]
    refine .cons ?_ ih
    obtain ⟨h1,h2,h3⟩:=h
    unfold putAt
    by_cases e:p.1=k
    · rw [if_pos e,if_pos (h1.symm.trans e)]; exact ⟨h1,h2,ry⟩
    · rw [if_neg e,if_neg (fun z=>e (h1.trans z))]; exact ⟨h1,h2,h3⟩
theorem KT.put {H:Hp} {kvs:List (List Key × V)} {xs:List (List Key × Addr × Value)} (r:KT H kvs xs) (k:List Key) {b:Addr} {y:V} {u:Value} (hb:H b=some (.tup (k.map kV))) (ry:RelV y u) :
    KT H (putK kvs k y) (storedH xs k b u):=by
  have e:(kvs.any fun kv=>decide (kv.1=k))=(atKey xs k).isSome:=by
    rw [xJ,(r.val k).isSome_eq,Option.isSome_map]
  unfold putK storedH
  rw [e]
  by_cases q:(atKey xs k).isSome=true
  · rw [if_pos q,if_pos q]; exact r.repl k ry
  · rw [if_neg q,if_neg q]; exact Paired.snoc r ⟨rfl,hb,ry⟩
theorem KT.keeps {H H':Hp} {kvs:List (List Key × V)} {xs:List (List Key × Addr × Value)} (r:KT H kvs xs) (ht:∀ b ys,H b=some (.tup ys)→H' b=some (.tup ys)):KT H' kvs xs :=
  Paired.mapP r fun _ _ z=>⟨z.1,ht _ _ z.2.1,z.2.2⟩
section
variable {P:Program} {w:World} {H:Hp} {h:Heap} {a:Addr}
theorem FN {u:HO} (ok:HOk P w H h) (e:Rd H a u):ObjOk P w H h a u:=e.ok ok
theorem AM {kvs:List (Key × V)} (ok:HOk P w H h) (e:Rd H a (.dK kvs)):kvs.length ≤ sizeLine∧(a == sysModules)=false∧∃ vs,KV kvs vs∧h.DictOf (zV P w) a vs :=
  show ObjOk P w H h a (.dK kvs) from FN ok e
theorem FE {kvs:List (Key × V)} (ok:HOk P w H h) (e:H a=some (.dK kvs)):kvs.length ≤ sizeLine∧(a == sysModules)=false∧∃ vs,KV kvs vs∧h.DictOf (zV P w) a vs:=AM ok (.inl e)
theorem Ac {ks:List Key} (ok:HOk P w H h) (e:H a=some (.tup (ks.map kV))):(tupleKind (zV P w)).is h ks a:=by
  obtain ⟨_,its,r,o,h1,h2,n,h3⟩:=(show ObjOk P w H h a (.tup (ks.map kV)) from ok a _ e)
  exact ⟨o,its.toArray,n,h1,h2,h3,by simpa using uO r⟩
theorem B0 {kvs:List (List Key × V)} (ok:HOk P w H h) (e:Rd H a (.dT kvs)):kvs.length ≤ sizeLine∧(a == sysModules)=false ∧
    ∃ xs,KT H kvs xs∧h.DictOfH (tupleKind (zV P w)) a xs:=by
  obtain ⟨z,y,xs,r,o,es,ep,h1,h2,h3,h4,h5⟩:=(show ObjOk P w H h a (.dT kvs) from FN ok e)
  refine ⟨z,y,xs,r,o,es,ep,h1,h2,h3,h4,fun x hx=>?_,h5⟩
  have all:∀ {l:List (List Key × V)} {m:List (List Key × Addr × Value)},KT H l m→∀ x ∈ m,(tupleKind (zV P w)).is h x.1 x.2.1:=by
    intro l m q
    induction q with
    | nil=>intro x hx; exact nomatch hx
    | @cons p q ps qs hq t ih =>
      intro x hx
      rcases List.mem_cons.mp hx with e | hx
      · subst e
        exact Ac ok (by rw [← hq.1]; exact hq.2.1)
      · exact ih x hx
  exact all r x hx
theorem Hr {kvs:List (List Key × V)} (ok:HOk P w H h) (e:H a=some (.dT kvs)):kvs.length ≤ sizeLine∧(a == sysModules)=false ∧
    ∃ xs,KT H kvs xs∧h.DictOfH (tupleKind (zV P w)) a xs:=B0 ok (.inl e)
end
def DGet (H:Hp) (a:Addr) (y:V) (r:Option V):Prop :=
  (∃ kvs k,Rd H a (.dK kvs)∧y=kV k∧r=valV kvs k) ∨ ∃ kvs k b,Rd H a (.dT kvs)∧y=.ref b∧H b=some (.tup (k.map kV))∧r=valV kvs k
def DPut (H:Hp) (a:Addr) (y v:V) (H':Hp):Prop :=
  (∃ kvs k,H a=some (.dK kvs)∧y=kV k∧kvs.length < sizeLine∧H'=upd H a (.dK (putK kvs k v))) ∨
  ∃ kvs k b,H a=some (.dT kvs)∧y=.ref b∧H b=some (.tup (k.map kV))∧kvs.length < sizeLine∧H'=upd H a (.dT (putK kvs k v))
theorem DGet.k {H:Hp} {a:Addr} {kvs:List (Key × V)} {k:Key} (e:H a=some (.dK kvs)):DGet H a (kV k) (valV kvs k):=.inl ⟨kvs,k,.inl e,rfl,rfl⟩
theorem DPut.k {H:Hp} {a:Addr} {kvs:List (Key × V)} {k:Key} {v:V} (e:H a=some (.dK kvs)) (hl:kvs.length < sizeLine):DPut H a (kV k) v (upd H a (.dK (putK kvs k v))):=.inl ⟨kvs,k,e,rfl,hl,rfl⟩
section
variable {X:Cx} {pins:List (Addr × Obj)} {σ:St} {H:Hp} {s:Shared} {a:Addr} {y v:V} {u r:Value} {o:Option V} {A:Around} {E:Value→Shared→Prop}
theorem Inv.big (I:Inv X pins σ H s):sysModules < s.heap.objs.size:=by
  have h:mainGlobals < s.heap.objs.size:=(I.mod.glob.keeps I.bk).lt
  exact Nat.lt_trans (by decide) h
theorem A5 {Q:Value→Shared→Prop} (hu:A.units + 1 < cLine) (I:Inv X pins σ H s) (g:DGet H a y (some v)) (ry:RelV y u) (h:∀ w' s',Inv X pins σ H s'→RelV v w'→Q w' s') :
    wpAny (model X.prog X.w) A (getItem (.ref a) u) Q E s:=by
  rcases g with ⟨kvs,k,e,ey,l⟩ | ⟨kvs,k,b,e,ey,eb,l⟩
  · subst ey
    obtain ⟨z,hd,vs,rel,dd⟩:=AM I.hok e
    obtain ⟨w',hw,rw'⟩:=RelO.some_of (v:=v) (o:=valueAt vs k) (by rw [l]; exact rel.val k)
    exact wpAny_getItem_of (AQ ry) dd.mapOf hw (h w' _ (I.tok _) rw')
  · subst ey
    cases (show u=Value.ref b from ry)
    obtain ⟨z,hd,xs,rel,dd⟩:=B0 I.hok e
    obtain ⟨w',hw,rw'⟩:=RelO.some_of (v:=v) (o:=(atKey xs k).map (·.2)) (by rw [l]; exact rel.val k)
    obtain ⟨p,hp,hp2⟩:=Option.map_eq_some_iff.mp hw
    refine wpAny_getItem_heap (tupleKind_room_in1 hu) (Ac I.hok eb) dd hp ?_
    rw [hp2]
    exact h w' _ (I.tok _) rw'
theorem Eh {Q:Value→Shared→Prop} (hu:A.units + 1 < cLine) (I:Inv X pins σ H s) (g:DGet H a y o) (ry:RelV y u) (h:∀ s',Inv X pins σ H s'→Q (.bool (!o.isSome)) s') :
    wpAny (model X.prog X.w) A (compareOp .NotIn u (.ref a)) Q E s:=by
  rcases g with ⟨kvs,k,e,ey,l⟩ | ⟨kvs,k,b,e,ey,eb,l⟩
  · subst ey
    obtain ⟨z,hd,vs,rel,dd⟩:=AM I.hok e
    refine wpAny_notIn_of (AQ ry) hd dd.mapOf ?_
    rw [← (rel.val k).isSome_eq,← l]
    exact h _ (I.tok _)
  · subst ey
    cases (show u=Value.ref b from ry)
    obtain ⟨z,hd,xs,rel,dd⟩:=B0 I.hok e
    refine wpAny_notIn_heap (tupleKind_room_in1 hu) (Ac I.hok eb) hd dd ?_
    have q:=(rel.val k).isSome_eq
    rw [Option.isSome_map] at q
    rw [← q,← l]
    exact h _ (I.tok _)
theorem tz {h':Heap} {t':Nat} {ob:HO} (I:Inv X pins σ H s) (mu:Mut (H a)) (hs:Heap.SameBut a s.heap h') (he:∃ q,h'.get? a=some q) (new:ObjOk X.prog X.w (upd H a ob) h' a ob) :
    Inv X pins σ (upd H a ob) { s with heap:=h',toks:=t' } :=
  I.write (x:=a) (e:=a) mu (.inl rfl) (fun b q hb z=>(hs.2 b hb).trans z) he new
theorem Ab {P:Program} {w:World} {H':Hp} {h':Heap} {kvs:List (Key × V)} {vs:List (Key × Value)} (z:kvs.length ≤ sizeLine) (hd:(a == sysModules)=false) (rel:KV kvs vs) (dd:h'.DictOf (zV P w) a vs) :
    ObjOk P w H' h' a (.dK kvs):=⟨z,hd,vs,rel,dd⟩
theorem Ci {H':Hp} {Q:Unit→Shared→Prop} (hu:A.units + 1 < cLine) (I:Inv X pins σ H s) (g:DPut H a y v H') (ry:RelV y u) (rv:RelV v r) (h:∀ s',Inv X pins σ H' s'→Q () s') :
    wpAny (model X.prog X.w) A (setItem (.ref a) u r) Q E s:=by
  rcases g with ⟨kvs,k,e,ey,l,eH⟩ | ⟨kvs,k,b,e,ey,eb,l,eH⟩
  · subst ey eH
    obtain ⟨z,hd,vs,rel,dd⟩:=FE I.hok e
    have hz:vs.length ≤ sizeLine:=by rw [← rel.length]; exact z
    have hl:(putK kvs k v).length ≤ sizeLine:=by have:=yB kvs k v; omega
    refine wpAny_setItem_pairs (hsz:=hz) (AQ ry) dd fun h' dd' hs=>h _ ?_
    have he:∃ q,h'.get? a=some q:=let ⟨q,_,_,hq,_⟩:=dd'; ⟨q,hq⟩
    exact tz I (by rw [e]; exact True.intro) hs he (Ab hl hd (rel.put k rv) dd')
  · subst ey eH
    cases (show u=Value.ref b from ry)
    obtain ⟨z,hd,xs,rel,dd⟩:=Hr I.hok e
    have hz:xs.length ≤ sizeLine:=by rw [← Paired.length rel]; exact z
    have hl:(putK kvs k v).length ≤ sizeLine:=by have:=yB kvs k v; omega
    refine wpAny_setItem_heap (hsz:=hz) (tupleKind_room_in1 hu) (Ac I.hok eb) dd fun h' dd' hs=>h _ ?_
    obtain ⟨q,es,ep,hq,h2,h3,h4,_,h5⟩:=dd'
    refine tz I (by rw [e]; exact True.intro) hs ⟨q,hq⟩ ⟨hl,hd,_,(rel.put k eb rv).keeps fun c ys ec=>?_,q,es,ep,hq,h2,h3,h4,h5⟩
    rw [zt (yf ec e (fun z=>nomatch z))]
    exact ec
end
section
variable {X:Cx} {pins:List (Addr × Obj)} {σ:St} {H:Hp} {s:Shared} {a:Addr} {kvs:List (Key × V)} {k:Key} {u:Value} {A:Around} {E:Value→Shared→Prop}
theorem GN {v:V} {more:List Value} {Q:Value→Shared→Prop} (I:Inv X pins σ H s) (e:H a=some (.dK kvs)) (ry:RelV (kV k) u) (l:valV kvs k=some v) (hm:more=[] ∨ ∃ x,more=[x])
    (h:∀ w' s',Inv X pins σ (upd H a (.dK (vk kvs k))) s'→RelV v w'→Q w' s'):wpAny (model X.prog X.w) A (call (.builtin "dict.pop") (.ref a :: u :: more)) Q E s:=by
  obtain ⟨z,hd,vs,rel,dd⟩:=FE I.hok e
  obtain ⟨w',hw,rw'⟩:=RelO.some_of (v:=v) (o:=valueAt vs k) (by rw [← l]; exact rel.val k)
  have hp:(keyPart u).isSome=true:=by
    cases k with
    | inl i=>obtain ⟨t,q⟩:=(show ∃ t,u=Value.int i t from ry); subst q; rfl
    | inr x=>obtain ⟨t,q⟩:=(show ∃ t,u=Value.str x t from ry); subst q; rfl
  have ha:argsOk "dict.pop" ⟨.ref a :: u :: more,[]⟩:=by
    rcases hm with q | ⟨x,q⟩
    · subst q; exact PySem.F.args_dict_pop_2 _ _
    · subst q; exact PySem.F.args_dict_pop_3 _ _ _
  refine call_meetsIn PySem.F.slot_dict_pop dd.typeIs PySem.F.entry_dict_pop ha (meets_dict_pop_there (zV X.prog X.w) a (AQ ry) more hm hp)
    ⟨vs,w',dd,by rw [← rel.length]; exact z,hw,fun h' dd' hs=>h w' _ ?_ rw'⟩
  have he:∃ q,h'.get? a=some q:=let ⟨q,_,_,hq,_⟩:=dd'; ⟨q,hq⟩
  exact tz I (by rw [e]; exact True.intro) hs he (Ab (Nat.le_trans (CY kvs k) z) hd (rel.drop k) dd')
end
def NoSl (i:Expr):Prop:=∀ ov iv,subscripted i false ov iv=operate [ov,iv] (getItem ov iv)
theorem Ee {prog:Program} {w:World} {A:Around} {E:Value→Shared→Prop} {s:Shared} {env:Env} {value slice:Expr} {pos:Pos} {T id:String} {Q:Value→Shared→Prop}
    (hl:typeLookup (.type T) "__getitem__"=pure (some (.builtin id))) (hs:NoSl slice)
    (h:wpAny (model prog w) A (eval value env) (fun o s₁=>wpAny (model prog w) A (eval slice env) (fun i s₂=>s₂.TypeIs o T∧wpAny (model prog w) A (getItem o i) Q E s₂) E s₁) E s) :
    wpAny (model prog w) A (eval (.Subscript value slice pos) env) Q E s:=by
  refine Subscript_ (wpAny_mono h (fun o s₁ h₁=>wpAny_mono h₁ (fun i s₂ h₂=>?_) fun _ _ x=>x) fun _ _ x=>x)
  obtain ⟨hT,h₂⟩:=h₂
  unfold subscriptTail
  refine wpAny_bind ?_
  rw [getitemInPython_of_ne hT.not_modules]
  refine wpAny_bind (wpAny_specialOf hT hl ?_)
  have fin:wpAny (model prog w) A (subscripted slice false o i) (fun r s₃=>wpAny (model prog w) A (letTemporaryGo value o r >>= fun _=>pure r) Q E s₃) E s₂:=by
    rw [hs o i]
    exact wpAny_operating (wpAny_mono h₂ (fun r s₃ h₃=>wpAny_bind (wpAny_letTemporaryGo (wpAny_pure h₃))) fun _ _ x=>x)
  first
    | exact wpAny_pure (wpAny_bind fin)
    | exact wpAny_bind (wpAny_pure (wpAny_bind fin))
    | exact wpAny_bind fin
theorem ti {X:Cx} {pins:List (Addr × Obj)} {σ:St} {H:Hp} {s:Shared} {a:Addr} {y:V} {o:Option V} (I:Inv X pins σ H s) (g:DGet H a y o):s.TypeIs (.ref a) "dict":=by
  rcases g with ⟨kvs,k,e,_,_⟩ | ⟨kvs,k,b,e,_,_,_⟩
  · obtain ⟨_,_,vs,_,dd⟩:=AM I.hok e
    exact dd.typeIs
  · obtain ⟨_,_,xs,_,dd⟩:=B0 I.hok e
    exact dd.typeIs
def FR (td ty:TE):TE:=fun σ H Q=>td σ H fun x H1=>ty σ H1 fun y H2=>∃ a v,x=.ref a∧DGet H2 a y (some v)∧Q v H2
def Cr (ty td:TE):TE:=fun σ H Q=>ty σ H fun y H1=>td σ H1 fun x H2=>∃ a o,x=.ref a∧DGet H2 a y o∧Q (.bl (!o.isSome)) H2
def Gf (td ty tv:TE):TS:=fun D σ H=>tv σ H fun v H1=>td σ H1 fun x H2=>ty σ H2 fun y H3=>∃ a H4,x=.ref a∧DPut H3 a y v H4∧D.nx σ H4
section
variable {X:Cx} {o i e value:Expr} {pos pos' tpos:Pos} {td ty tv:TE}
theorem yu (hu:X.A.units + 1 < cLine) (ho:PE X o td) (hi:PE X i ty) (hs:NoSl i):PE X (.Subscript o i pos) (FR td ty):=by
  intro pins s σ H Q I h
  refine Ee PySem.F.slot_dict_getitem.lookup hs (thn (ho pins s σ H _ I h) fun u s1 ⟨x,H1,I1,rx,q1⟩=>thn (hi pins s1 σ H1 _ I1 q1) fun iv s2 ⟨y,H2,I2,ry,a,v,ex,g,q2⟩=>?_)
  subst ex
  obtain rfl:u=Value.ref a:=rx
  exact ⟨ti I2 g,A5 hu I2 g ry fun w' s3 I3 rw'=>⟨v,H2,I3,rw',q2⟩⟩
theorem wK (hu:X.A.units + 1 < cLine) (hi:PE X i ty) (ho:PE X o td):PC X .NotIn i o (Cr ty td):=by
  intro pins s σ H Q I h
  refine thn (hi pins s σ H _ I h) fun iv s1 ⟨y,H1,I1,ry,q1⟩=>thn (ho pins s1 σ H1 _ I1 q1) fun u s2 ⟨x,H2,I2,rx,a,ov,ex,g,q2⟩=>?_
  subst ex
  obtain rfl:u=Value.ref a:=rx
  exact Eh hu I2 g ry fun s3 I3=>⟨.bl (!ov.isSome),H2,I3,rfl,q2⟩
theorem xY (hu:X.A.units + 1 < cLine) (ho:PE X o td) (hi:PE X i ty) (hv:PE X value tv) (hs:swapsWith value (some (.Subscript o i pos')) pos.line X.env=pure false) :
    PS X (.Assign [.Subscript o i pos'] value pos) (Gf td ty tv):=by
  intro pins s σ H D I h
  refine wpAny_Assign_Subscript (thn (hv pins s σ H _ I h) fun r s1 ⟨v,H1,I1,rv,q1⟩=>thn (ho pins s1 σ H1 _ I1 q1) fun u s2 ⟨x,H2,I2,rx,q2⟩=>thn (hi pins s2 σ H2 _ I2 q2) fun iv s3 ⟨y,H3,I3,ry,a,H4,ex,g,q3⟩=>?_) hs
  subst ex
  obtain rfl:u=Value.ref a:=rx
  exact Ci hu I3 g ry rv fun s4 I4=>⟨σ,H4,I4,q3⟩
end
section
variable {X:Cx} {pos:Pos}
end
structure M1 (X:Cx) (o:Expr) (m:Str) (apos:Pos) (e:Expr) (cpos:Pos):Prop where
  base:attributeBase o m X.env (eval o X.env)=eval o X.env
  few:((backTo cpos (starEach [e] X.env)).all (fun x=>!x.1) && (backToKw cpos (keywordEach [] X.env)).all (fun x=>x.1.isSome)
    && decide (([e]:List Expr).length + ([]:List Keyword).length + (if ([]:List Keyword).isEmpty then 0 else 1) < 30))=true
  line:(apos.endLine == cpos.line)=true
  trees:backTo cpos (starEach [e] X.env)=[(false,eval e X.env)]
def IsD (H:Hp) (a:Addr):Prop:=(∃ kvs,Rd H a (.dK kvs)) ∨ ∃ kvs,Rd H a (.dT kvs)
theorem Fl {X:Cx} {pins:List (Addr × Obj)} {σ:St} {H:Hp} {s:Shared} {a:Addr} (I:Inv X pins σ H s) (d:IsD H a) :
    s.TypeIs (.ref a) "dict"∧(∀ b,Value.ref a=.ref b→∃ ob,s.heap.get? b=some ob∧ob.dict=none)∧(a == sysModules)=false:=by
  rcases d with ⟨kvs,e⟩ | ⟨kvs,e⟩
  · obtain ⟨_,hd,vs,_,dd⟩:=AM I.hok e
    refine ⟨dd.typeIs,fun b q=>?_,hd⟩
    cases q
    obtain ⟨ob,_,_,h1,h2,_⟩:=dd
    exact ⟨ob,h1,h2.2.1⟩
  · obtain ⟨_,hd,xs,_,dd⟩:=B0 I.hok e
    refine ⟨dd.typeIs,fun b q=>?_,hd⟩
    cases q
    obtain ⟨ob,_,_,h1,h2,_⟩:=dd
    exact ⟨ob,h1,h2.2.1⟩
section
variable {X:Cx} {pins:List (Addr × Obj)} {σ:St} {H:Hp} {s:Shared} {a:Addr} {y d:V} {u r:Value} {o:Option V} {A:Around} {E:Value→Shared→Prop}
end
def DV (td ty:TE):TE:=fun σ H Q=>td σ H fun x H1=>∃ a,x=.ref a∧IsD H1 a∧ty σ H1 fun y H2=>∃ kvs k v,H2 a=some (.dK kvs)∧y=kV k∧valV kvs k=some v∧Q v (upd H2 a (.dK (vk kvs k)))
section
variable {X:Cx} {o e f:Expr} {apos cpos:Pos} {td ty tx:TE}
theorem Ai (ho:PE X o td) (he:PE X e ty) (m:M1 X o "pop" apos e cpos):PE X (.Call (.Attribute o "pop" apos) [e] [] cpos) (DV td ty):=by
  intro pins s σ H Q I h
  refine wpAny_Call_method m.base m.few m.line PySem.F.plainAttrs_dict PySem.F.slot_dict_pop PySem.F.type_dict_pop (thn (ho pins s σ H _ I h) fun u s1 ⟨x,H1,I1,rx,a,ex,d,q1⟩=>?_)
  subst ex
  obtain rfl:u=Value.ref a:=rx
  obtain ⟨t1,t2,_⟩:=Fl I1 d
  refine ⟨t1,t2,?_⟩
  rw [m.trees]
  refine Calls.callWith_builtin rfl (Calls.evalArgs_plain (Calls.spliced_cons (thn (he pins s1 σ H1 _ I1 q1) fun iv s2 ⟨y,H2,I2,ry,kvs,k,v,ea,ey,l,q2⟩=>Calls.spliced_nil ?_)))
  subst ey
  exact GN I2 ea ry l (.inl rfl) fun w' s3 I3 rw'=>⟨v,_,I3,rw',q2⟩
end
section
variable {X:Cx} {pins:List (Addr × Obj)} {σ:St} {H:Hp} {s:Shared} {a:Addr} {kvs:List (Key × V)} {A:Around} {E:Value→Shared→Prop}
theorem C8 {Q:Value→Shared→Prop} (I:Inv X pins σ H s) (e:Rd H a (.dK kvs)) (h:∀ p s',H p=none→Inv X pins σ (upd H p (.dK kvs)) s'→Q (.ref p) s'):wpAny (model X.prog X.w) A (call (.type "dict") [.ref a]) Q E s:=by
  obtain ⟨z,hd,vs,rel,dd⟩:=AM I.hok e
  refine kt_call_dict hd dd (by rw [← rel.length]; exact z) fun h' dd' hs=>?_
  refine h _ _ (I.hok.fresh (Nat.le_refl _)) (I.laid (a:=s.heap.objs.size) (o:=.dK kvs) (t':=s.toks) (fun b q hq=>?_) (Nat.le_refl _) (Ab z (beq_eq_false_iff_ne.mpr (Ne.symm (Nat.ne_of_lt I.big))) rel dd'))
  exact (hs.2 b (Nat.ne_of_lt (Heap.lt_size hq))).trans (Heap.get?_push_of_some _ hq)
end
section
variable {X:Cx} {pins:List (Addr × Obj)} {σ:St} {H:Hp} {s:Shared} {a:Addr} {y:V} {u:Value} {A:Around} {E:Value→Shared→Prop}
end
end L2
namespace Att
open PySem PySem.W PySem.Calls PyProof.Rows
end Att
namespace L2
open PySem PySem.Spec PyProof.Rows
end L2
namespace L2
open PySem PySem.Spec PyProof.Rows
end L2
namespace L2
open PySem PySem.Spec PyProof.Rows
section
variable {X:Cx}
end
section
variable {κ:Type} [DecidableEq κ]
end
end L2
namespace Bg
theorem CN (a b:Int):Int.gcd b (a.fmod b)=Int.gcd a b:=by
  rw [Int.fmod_def,Int.mul_comm,Int.gcd_sub_mul_right_right,Int.gcd_comm]
theorem C4 (a b:Int):Int.gcd b (a % b)=Int.gcd a b:=by
  rw [Int.emod_def,Int.mul_comm,Int.gcd_sub_mul_right_right,Int.gcd_comm]
theorem D9 {a b:Int} (h:b ≠ 0):(a.fmod b).natAbs < b.natAbs:=by
  rw [Int.fmod_eq_emod]
  have h1:=Int.emod_nonneg a h
  have h2:=Int.emod_lt a h
  by_cases c:0 ≤ b ∨ b ∣ a
  · rw [if_pos c]; omega
  · rw [if_neg c]
    have hb:b < 0:=by
      rcases Int.lt_or_le b 0 with z | z
      · exact z
      · exact absurd (Or.inl z) c
    have hd:¬ b ∣ a:=fun z=>c (Or.inr z)
    have hn:a % b ≠ 0:=fun z=>hd (Int.dvd_of_emod_eq_zero z)
    omega
def Bd (k:Nat) (x:Int):Prop:=x.natAbs < 2 ^ k
instance {k:Nat} {x:Int}:Decidable (Bd k x):=inferInstanceAs (Decidable (x.natAbs < 2 ^ k))
theorem Bd.mono {j k:Nat} {x:Int} (h:Bd j x) (l:j ≤ k):Bd k x:=Nat.lt_of_lt_of_le h (Nat.pow_le_pow_right (by decide) l)
theorem Bd.neg {k:Nat} {x:Int} (h:Bd k x):Bd k (-x):=by unfold Bd at *; rw [Int.natAbs_neg]; exact h
theorem Bd.mul {j k:Nat} {x y:Int} (h:Bd j x) (g:Bd k y):Bd (j + k) (x * y):=by
  unfold Bd at *
  rw [Int.natAbs_mul,Nat.pow_add]
  exact Nat.mul_lt_mul_of_lt_of_lt h g
theorem Bd.add {k:Nat} {x y:Int} (h:Bd k x) (g:Bd k y):Bd (k + 1) (x + y):=by
  unfold Bd at *
  rw [Nat.pow_succ]
  omega
theorem Bd.sub {k:Nat} {x y:Int} (h:Bd k x) (g:Bd k y):Bd (k + 1) (x - y):=by
  unfold Bd at *
  rw [Nat.pow_succ]
  omega
theorem Bd.of_le {k:Nat} {x y:Int} (h:Bd k y) (l:x.natAbs ≤ y.natAbs):Bd k x:=Nat.lt_of_le_of_lt l h
theorem vj (a b:Int):(a.fdiv b).natAbs ≤ a.natAbs:=by
  by_cases hb:b=0
  · subst hb; simp
  have key:∀ a b:Int,0 < b→(a.fdiv b).natAbs ≤ a.natAbs:=fun a b hb=>by
    rw [Int.fdiv_eq_ediv_of_nonneg a (by omega)]
    have h1:b * (a / b) + a % b=a:=Int.mul_ediv_add_emod a b
    have h2:=Int.emod_nonneg a (show b ≠ 0 by omega)
    have h3:=Int.emod_lt_of_pos a hb
    rcases Int.lt_or_le (a / b) 0 with q | q
    · have e:a ≤ a / b:=by
        have:b * (a / b) ≤ 1 * (a / b) - (b - 1):=by
          have z:(b - 1) * (a / b) ≤ (b - 1) * (-1):=Int.mul_le_mul_of_nonneg_left (by omega) (by omega)
          have z2:b * (a / b)=(b - 1) * (a / b) + a / b:=by rw [Int.sub_mul]; omega
          omega
        omega
      omega
    · have e:a / b ≤ a:=by
        have z:1 * (a / b) ≤ b * (a / b):=Int.mul_le_mul_of_nonneg_right (by omega) q
        omega
      omega
  rcases Int.lt_or_le b 0 with h | h
  · have e:a.fdiv b=(-a).fdiv (-b):=by rw [Int.neg_fdiv_neg]
    rw [e]
    have:=key (-a) (-b) (by omega)
    omega
  · exact key a b (by omega)
theorem Bd.fdiv {k:Nat} {x:Int} (h:Bd k x) (y:Int):Bd k (x.fdiv y):=h.of_le (vj x y)
theorem Bd.emod {k:Nat} {y:Int} (h:Bd k y) (hy:y ≠ 0) (x:Int):Bd k (x % y):=by
  refine h.of_le ?_
  have h1:=Int.emod_nonneg x hy
  have h2:=Int.emod_lt x hy
  omega
theorem Bd.log {k:Nat} {x:Int} (h:Bd k x):x.natAbs.log2 ≤ k:=by
  by_cases z:x.natAbs=0
  · rw [z]; simp
  · exact Nat.le_of_lt ((Nat.log2_lt z).mpr h)
def g3 (a b n:Int):Nat:=Int.gcd (Int.gcd n a) b
def gd (a b n:Int):Int:=if n < 0 then -(g3 a b n:Int) else (g3 a b n:Int)
theorem g3_n (a b n:Int):(g3 a b n:Int) ∣ n:=Int.dvd_trans (Int.gcd_dvd_left ..) (Int.gcd_dvd_left ..)
theorem g3_a (a b n:Int):(g3 a b n:Int) ∣ a:=Int.dvd_trans (Int.gcd_dvd_left ..) (Int.gcd_dvd_right ..)
theorem g3_b (a b n:Int):(g3 a b n:Int) ∣ b:=Int.gcd_dvd_right ..
theorem BF {a b n:Int} (h:n ≠ 0):0 < g3 a b n:=by
  rcases Nat.eq_zero_or_pos (g3 a b n) with z | z
  · have:=g3_n a b n
    rw [z] at this
    exact absurd (Int.zero_dvd.mp (by simpa using this)) h
  · exact z
theorem Gj (a b n:Int):Int.gcd (Int.gcd a b) n=g3 a b n:=by
  unfold g3
  rw [Int.gcd_comm,← Int.gcd_assoc]
theorem FX {a b n:Int} (h:n ≠ 0):gd a b n ≠ 0:=by
  have:=BF (a:=a) (b:=b) h
  unfold gd
  split <;> omega
theorem D4 (a b n:Int):(gd a b n).natAbs=g3 a b n:=by
  unfold gd
  split <;> simp
theorem BW {a b n x:Int} (h:(g3 a b n:Int) ∣ x):gd a b n ∣ x:=by
  unfold gd
  split
  · exact Int.neg_dvd.mpr h
  · exact h
theorem FA {k:Nat} {a b n:Int} (hn:n ≠ 0) (h:Bd k n):Bd k (gd a b n):=by
  refine h.of_le ?_
  rw [D4]
  exact Nat.le_of_dvd (by omega) (by
    have:=Int.natAbs_dvd_natAbs.mpr (g3_n a b n)
    simpa using this)
def lA (a b n:Int):Int:=a.fdiv (gd a b n)
def lB (a b n:Int):Int:=b.fdiv (gd a b n)
def lN (a b n:Int):Int:=n.fdiv (gd a b n)
theorem DS {a b n:Int}:lA a b n * gd a b n=a:=Int.fdiv_mul_cancel (BW (g3_a a b n))
theorem Dy {a b n:Int}:lB a b n * gd a b n=b:=Int.fdiv_mul_cancel (BW (g3_b a b n))
theorem Ah {a b n:Int}:lN a b n * gd a b n=n:=Int.fdiv_mul_cancel (BW (g3_n a b n))
theorem l_a {a b n:Int}:lA a b n * n=a * lN a b n:=by
  have h1:=DS (a:=a) (b:=b) (n:=n)
  have h2:=Ah (a:=a) (b:=b) (n:=n)
  calc lA a b n * n=lA a b n * (lN a b n * gd a b n):=by rw [h2]
    _=lA a b n * gd a b n * lN a b n:=by rw [Int.mul_assoc,Int.mul_comm (gd a b n)]
    _=a * lN a b n:=by rw [h1]
theorem l_b {a b n:Int}:lB a b n * n=b * lN a b n:=by
  have h1:=Dy (a:=a) (b:=b) (n:=n)
  have h2:=Ah (a:=a) (b:=b) (n:=n)
  calc lB a b n * n=lB a b n * (lN a b n * gd a b n):=by rw [h2]
    _=lB a b n * gd a b n * lN a b n:=by rw [Int.mul_assoc,Int.mul_comm (gd a b n)]
    _=b * lN a b n:=by rw [h1]
theorem l_n {a b n:Int} (h:n ≠ 0):1 ≤ lN a b n:=by
  have h2:=Ah (a:=a) (b:=b) (n:=n)
  have hp:=BF (a:=a) (b:=b) h
  have hs:0 < lN a b n:=by
    by_cases c:n < 0
    · have e:gd a b n=-(g3 a b n:Int):=if_pos c
      rw [e] at h2
      refine Int.lt_of_not_ge fun z=>?_
      have:0 ≤ lN a b n * -(g3 a b n:Int):=Int.mul_nonneg_of_nonpos_of_nonpos z (by omega)
      omega
    · have e:gd a b n=(g3 a b n:Int):=if_neg c
      rw [e] at h2
      refine Int.lt_of_not_ge fun z=>?_
      have:lN a b n * (g3 a b n:Int) ≤ 0:=Int.mul_nonpos_of_nonpos_of_nonneg z (by omega)
      omega
  omega
theorem uF {a b n:Int} (h:n ≠ 0):g3 (lA a b n) (lB a b n) (lN a b n)=1:=by
  have hp:=BF (a:=a) (b:=b) h
  have e:g3 a b n=g3 (lA a b n) (lB a b n) (lN a b n) * (gd a b n).natAbs:=by
    have h1:=DS (a:=a) (b:=b) (n:=n)
    have h2:=Dy (a:=a) (b:=b) (n:=n)
    have h3:=Ah (a:=a) (b:=b) (n:=n)
    have:g3 (lA a b n * gd a b n) (lB a b n * gd a b n) (lN a b n * gd a b n)=g3 (lA a b n) (lB a b n) (lN a b n) * (gd a b n).natAbs:=by
      unfold g3
      rw [Int.gcd_mul_right]
      have e1:((Int.gcd (lN a b n) (lA a b n) * (gd a b n).natAbs:Nat):Int).gcd (lB a b n * gd a b n)=Int.gcd ((Int.gcd (lN a b n) (lA a b n):Int) * gd a b n) (lB a b n * gd a b n):=by
        rw [Int.gcd_eq_natAbs_gcd_natAbs,Int.gcd_eq_natAbs_gcd_natAbs]
        congr 1
        rw [Int.natAbs_mul,Int.natAbs_natCast,Int.natAbs_natCast]
      rw [e1,Int.gcd_mul_right]
    rw [h1,h2,h3] at this
    exact this
  rw [D4] at e
  have:1 * g3 a b n=g3 (lA a b n) (lB a b n) (lN a b n) * g3 a b n:=by omega
  exact (Nat.eq_of_mul_eq_mul_right hp this).symm
end Bg
namespace L2
open PySem PySem.Spec PyProof.Rows Bg
theorem BK {k:Nat} {x:Int} (h:Bd k x):Builtin.Int.intBits x ≤ k:=by
  unfold Builtin.Int.intBits
  split
  · exact Nat.zero_le _
  · rename_i z
    have z':x ≠ 0:=by simpa using z
    exact (Nat.log2_lt (by omega)).mpr h
theorem Bd.ok {j k:Nat} {x y:Int} (h:Bd j x) (g:Bd k y) (l:j + k ≤ 134217728):IntMulOk x y:=by
  have h1:=BK h
  have h2:=BK g
  unfold IntMulOk
  have:Builtin.Int.intTooBig (Builtin.Int.intBits x + Builtin.Int.intBits y)=false:=by
    unfold Builtin.Int.intTooBig bitsLine
    simp only [decide_eq_false_iff_not,Int.not_lt,gt_iff_lt]
    have:(2 ^ 27:Nat)=134217728:=by decide
    omega
  rw [this]
  simp
section
variable {X:Cx}
theorem zx:OpR X (binaryOp .Mult) (rI IntMulOk fun i j=>.int (i * j)):=opI fun _ _ _ _ _ _ _ hc q=>mul_int q hc
abbrev CFd (_ j:Int):Prop:=j ≠ 0∧j.natAbs.log2 < 9000
abbrev CFp (_ j:Int):Prop:=0 < j∧j.natAbs.log2 < 9000
abbrev CPw (i j:Int):Prop:=0 ≤ j∧(Builtin.Int.intBits i:Int) * j ≤ 2 ^ 27
theorem yk:OpR X (binaryOp .FloorDiv) (rI CFd fun i j=>.int (i.fdiv j)):=opI fun _ _ _ _ _ _ _ hc q=>floordiv_int hc.1 q (.inl (PyProof.noPylong_of_log2 hc.2))
theorem xG:OpR X (binaryOp .FloorDiv) (rI CFp fun i j=>.int (i / j)):=opI fun i j _ _ _ _ _ hc q=>by
  have h1:(0:Int) < j:=hc.1
  exact floordiv_int (by omega) (by rw [Int.fdiv_eq_ediv_of_nonneg i (by omega)]; exact q) (.inl (PyProof.noPylong_of_log2 hc.2))
theorem xi:OpR X (binaryOp .Pow) (rI CPw fun i j=>.int (i ^ j.toNat)):=opI fun _ _ _ _ _ _ _ hc q=>pow_int hc.1 hc.2 q
def rIs (K:PySem.W.Frag):List V→Hp→VK→Prop:=fun xs H Q=>∃ x T t b,xs=[x,.ty T]∧TyOf K H x t∧PySem.W.kitOne K t (.type T)=some b∧Q (.bl b) H
theorem zN:xh X (.builtin "isinstance") (rIs X.K):=by
  intro pins s σ H xs us Q I r h
  obtain ⟨x,T,t,b,rfl,ty,e,q⟩:=h
  obtain ⟨u,c,rfl,ru,rc⟩:=Hv r
  cases (show c=Value.type T from rc)
  exact Ch I ru ty e fun tk=>⟨.bl b,H,I.tok tk,rfl,q⟩
end
theorem vN (K:PySem.W.Frag) (T:String):PySem.W.kitOne K (.type T) (.type T)=some true:=by
  unfold PySem.W.kitOne
  rw [if_pos]
  simp
theorem uD (K:PySem.W.Frag):PySem.W.kitOne K (.type "int") (.type "bool")=some false:=by
  unfold PySem.W.kitOne
  rw [if_neg (by decide)]
  show (if PySem.W.kitMeta "bool"=true then PySem.W.subIn K (.type "int") (.type "bool") else none)=some false
  rw [if_pos (by decide +kernel)]
  show (fastBuiltinMro "int").map (·.contains (Value.type "bool"))=some false
  decide +kernel
section
variable {K:PySem.W.Frag} {H:Hp} {Q:VK}
theorem CK {i:Int} (h:Q (.bl true) H):rIs K [.int i,.ty "int"] H Q:=⟨_,_,_,_,rfl,.int i,vN K _,h⟩
theorem Bv {i:Int} (h:Q (.bl false) H):rIs K [.int i,.ty "bool"] H Q:=⟨_,_,_,_,rfl,.int i,uD K,h⟩
theorem C2 {a:Addr} {xs:List V} (e:H a=some (.tup xs)) (h:Q (.bl true) H):rIs K [.ref a,.ty "tuple"] H Q:=⟨_,_,_,_,rfl,.tup e,vN K _,h⟩
end
def Own (P:Program) (w:World) (K:PySem.W.Frag) (mg:Str→Option Value) (base:Heap) (k:Nat) (x:Str) (ps:List Str) (dvs:List V) (sp:Sp):Prop :=
  ∃ (f:Addr) (fd:FuncData) (ds:List Value),FnOk P w K mg base CX0 k f fd ps sp∧mg x=some (.ref f)∧PySem.W.keepIn K (.ref f)=true∧Binds K fd ps ds∧Vals dvs ds
theorem zi {X:Cx} {k j:Nat} {x:Str} {ps:List Str} {dvs:List V} {sp:Sp} {p pos:Pos} {e:Expr} {es:List Expr} {t:TA} (O:Own X.prog X.w X.K X.mg X.base k x ps dvs sp) (hr:Room j X.A) (hg:Gl X x)
    (ha:PA X (e :: es) t) (hk:k ≤ j:=by decide) (hdb:(x == ("__debug__":Str))=false:=by decide) (he:starEach (e :: es) X.env=(false,eval e X.env) :: starEach es X.env:=by rfl) (hpl:(backTo pos (starEach es X.env)).any (·.1)=false:=by rfl) :
    PE X (.Call (.Name x p) (e :: es) [] pos) (EU sp dvs E0 t):=by
  obtain ⟨f,fd,ds,F,hm,kp,hb,hd⟩:=O
  exact Ek F (hr.mono hk) hg hm kp hb hd vZ ha hdb he hpl
structure FunD (K:PySem.W.Frag) (x qual:Str) (st:Stmt) (f:Addr) (fd:FuncData) (its:List Value):Prop where
  ex:∃ (oc:Value) (od:Option Addr) (T:Addr) (kV doc pm:Value) (an:Option Addr) (cdv ct:Value) (osl:Array (Option Value)) (to:Obj) (n:Nat),
    fd=PySem.W.fnOf x qual (defArgs st) (defBody st) (defScope st) (.ref T) kV doc pm an cdv ct∧K.lookup f=some ⟨oc,od,.func fd,osl⟩∧PySem.W.codeIn K cdv qual=true∧K.lookup T=some to∧to.data=.seq its.toArray n
  kp:PySem.W.keepIn K (.ref f)=true
section
variable {P:Program} {w:World} {K:PySem.W.Frag} {mg:Str→Option Value} {base:Heap}
theorem FunD.ok {x qual:Str} {st:Stmt} {f:Addr} {fd:FuncData} {its:List Value} {N ps:List Str} {k:Nat} {sp:Sp} (F:FunD K x qual st f fd its) (S:FnScope N ps (defScope st)) (len:∀ vs H Q E,sp vs H Q E→vs.length=ps.length)
    (hbody:∀ (cdv:Value) (A:Around) (outer:List Env) (s:Shared) (H:Hp) (vs:List V) (Q:VK) (E:XK),Room k (A.deeper (envOfC qual (defScope st) s.heap.objs.size f cdv))→sp vs H Q E →
      ∃ t,PSs (cxOf CX0 P w K mg base N qual (defScope st) f cdv A outer s H E).nox (defBody st) t∧t { nx:=fun _ H'=>Q .non H',rt:=Q } (zJ N vs) H):FnOk P w K mg base CX0 (k + 1) f fd ps sp:=by
  obtain ⟨oc,od,T,kV,doc,pm,an,cdv,ct,osl,to,n,rfl,lk,hcd,_⟩:=F.ex
  refine Gm lk hcd S len fun A outer s H vs Q E hr hsp=>?_
  obtain ⟨t,h,q⟩:=hbody cdv A outer s H vs Q E hr hsp
  exact ⟨t,h.nox,q⟩
end
def Top (K:PySem.W.Frag) (mg:Str→Option Value) (x:Str) (st:Stmt):Prop:=∃ (f:Addr) (fd:FuncData),Fun K x x st f fd∧mg x=some (.ref f)
def TopD (K:PySem.W.Frag) (mg:Str→Option Value) (x:Str) (st:Stmt) (its:List Value):Prop:=∃ (f:Addr) (fd:FuncData),FunD K x x st f fd its∧mg x=some (.ref f)
theorem top_mk {K:PySem.W.Frag} {h:Heap} {mg:Str→Option Value} {x:Str} {st:Stmt} {f:Addr} {oc:Value} {od an:Option Addr} {osl:Array (Option Value)} {kV doc pm cdv ct:Value} (X:K.In h) (G:h.Ns mainGlobals mg)
    (a:PySem.W.nsIn K mainGlobals x=some (some (.ref f))) (l:K.lookup f=some ⟨oc,od,.func (PySem.W.fnOf x x (defArgs st) (defBody st) (defScope st) .none kV doc pm an cdv ct),osl⟩)
    (c:PySem.W.codeIn K cdv x=true) (k:PySem.W.keepIn K (.ref f)=true):Top K mg x st:=⟨f,_,DX l c k,PySem.W.mg_of X G a⟩
theorem topD_mk {K:PySem.W.Frag} {h:Heap} {mg:Str→Option Value} {x:Str} {st:Stmt} {f T:Addr} {oc:Value} {od an:Option Addr} {osl:Array (Option Value)} {kV doc pm cdv ct:Value} {its:List Value} {n:Nat} {to:Obj} (X:K.In h) (G:h.Ns mainGlobals mg)
    (a:PySem.W.nsIn K mainGlobals x=some (some (.ref f))) (l:K.lookup f=some ⟨oc,od,.func (PySem.W.fnOf x x (defArgs st) (defBody st) (defScope st) (.ref T) kV doc pm an cdv ct),osl⟩)
    (c:PySem.W.codeIn K cdv x=true) (k:PySem.W.keepIn K (.ref f)=true) (t:K.lookup T=some to) (d:to.data=.seq its.toArray n):TopD K mg x st its:=⟨f,_,⟨⟨oc,od,T,kV,doc,pm,an,cdv,ct,osl,_,n,rfl,l,c,t,d⟩,k⟩,PySem.W.mg_of X G a⟩
theorem Top.own {P:Program} {w:World} {K:PySem.W.Frag} {mg:Str→Option Value} {base:Heap} {k:Nat} {x:Str} {st:Stmt} {ps:List Str} {sp:Sp} (T:Top K mg x st)
    (hb:∀ (kV doc pm:Value) (an:Option Addr) (cdv ct:Value) (us:List Value),us.length=ps.length→bindArgs (PySem.W.fnOf x x (defArgs st) (defBody st) (defScope st) .none kV doc pm an cdv ct) ⟨us,[]⟩=pure (ps.zip us))
    (h:∀ f fd,Fun K x x st f fd→FnOk P w K mg base CX0 k f fd ps sp):Own P w K mg base k x ps [] sp:=by
  obtain ⟨f,fd,F,m⟩:=T
  exact ⟨f,fd,[],h f fd F,m,F.kp,F.binds hb,.nil⟩
def NewL (xs:List V) (H:Hp) (Q:VK):Prop:=xs.length ≤ sizeLine∧∀ p,H p=none→Q (.ref p) (upd H p (.lst xs))
def NewT (xs:List V) (H:Hp) (Q:VK):Prop:=xs.length ≤ sizeLine∧∀ p,H p=none→Q (.ref p) (upd H p (.tup xs))
def rLen (K:PySem.W.Frag):List V→Hp→VK→Prop:=fun xs H Q=>∃ p ys,xs=[.ref p]∧(SqL K H p ys ∨ SqT K H p ys)∧Q (.int ys.length) H
def rAbs:List V→Hp→VK→Prop:=fun xs H Q=>∃ i,xs=[.int i]∧Q (.int (if i < 0 then -i else i)) H
def rInt:List V→Hp→VK→Prop:=fun xs H Q=>(∃ i,xs=[.int i]∧Q (.int i) H) ∨ ∃ k,xs=[.bl k]∧Q (.int (if k then 1 else 0)) H
theorem zy {X:Cx}:xh X (.builtin "len") (rLen X.K):=uE
theorem wZ {X:Cx}:xh X (.builtin "abs") rAbs:=Dl
theorem xk {X:Cx}:xh X (.type "int") rInt:=BM
section
variable {σ:St} {H:Hp} {Q:VK} {B:Bool→Hp→Prop} {D:Ends} {K:PySem.W.Frag}
theorem Fu {t u:TS} (h:t { D with nx:=u D } σ H):tSeq t u D σ H:=h
theorem Gp (h:D.nx σ H):F6 D σ H:=h
theorem Hq {te:TE} {g:TG} (h:te σ H fun x H1=>g x σ H1 D.nx):tAsg te g D σ H:=h
theorem ET {i:Nat} {v:V} {R:St→Hp→Prop} (h:R (σ.set i (some v)) H):CW i v σ H R:=h
theorem E2 {te:TE} (h:te σ H D.rt):tRet te D σ H:=h
theorem E7 {te:TE} (h:te σ H fun _ H1=>D.nx σ H1):Gq te D σ H:=h
theorem Ht {c:TT} {t u:TS} (h:c σ H fun b H1=>if b=true then t D σ H1 else u D σ H1):tIfS c t u D σ H:=h
theorem i_c {v:V} (h:Q v H):tC v σ H Q:=h
theorem i_op {r:R2} {ta tb:TE} (h:ta σ H fun x H1=>tb σ H1 fun y H2=>r x y H2 Q):tOp r ta tb σ H Q:=h
theorem i_un {r:V→Hp→VK→Prop} {ta:TE} (h:ta σ H fun x H1=>r x H1 Q):tUn r ta σ H Q:=h
theorem i_I0 {g:Int→Int→V} {i j:Int} (h:Q (g i j) H):rI0 g (.int i) (.int j) H Q:=⟨i,j,rfl,rfl,h⟩
theorem i_I {C:Int→Int→Prop} {g:Int→Int→V} {i j:Int} (h:Q (g i j) H) (c:C i j):rI C g (.int i) (.int j) H Q:=⟨i,j,rfl,rfl,c,h⟩
theorem i_U {g:Int→V} {i:Int} (h:Q (g i) H):rU g (.int i) H Q:=⟨i,rfl,h⟩
theorem GC {i j:Int} (h:Q (.bl (decide (i=j))) H):rEq (.int i) (.int j) H Q:=⟨rfl,by
  have e:decide (V.int i=V.int j)=decide (i=j):=by rw [vB]; exact Bool.beq_eq_decide_eq i j
  rw [e]; exact h⟩
theorem Ho {i j:Int} (h:Q (.bl (!decide (i=j))) H):rNe (.int i) (.int j) H Q:=⟨rfl,by
  have e:decide (V.int i=V.int j)=decide (i=j):=by rw [vB]; exact Bool.beq_eq_decide_eq i j
  rw [e]; exact h⟩
theorem GB {t:TE} (h:t σ H fun x H'=>∃ k,x=.bl k∧B k H'):Fz t σ H B:=h
theorem i_tB {t:TE} (h:t σ H fun x H'=>∃ k,x=.bl k∧B k H'):tB t σ H B:=h
theorem i_bl {k:Bool} {R:Bool→Prop} (h:R k):∃ k',V.bl k=.bl k'∧R k':=⟨k,rfl,h⟩
theorem Hm {t u:TT} (h:t σ H fun c H1=>if c=true then u σ H1 B else B false H1):tAnd t u σ H B:=h
theorem i_or {t u:TT} (h:t σ H fun c H1=>if c=true then B true H1 else u σ H1 B):tOr t u σ H B:=h
theorem GU {t:TT} (h:t σ H fun c H1=>B (!c) H1):tNot t σ H B:=h
theorem F9 {t u:TE} (h:t σ H fun x H1=>∃ c,x=.bl c∧if c=true then u σ H1 Q else Q (.bl false) H1):Fp t u σ H Q:=h
theorem GE {t u:TE} (h:t σ H fun x H1=>∃ c,x=.bl c∧if c=true then Q (.bl true) H1 else u σ H1 Q):tOrV t u σ H Q:=h
theorem FL {t:TE} (h:t σ H fun x H1=>∃ c,x=.bl c∧Q (.bl (!c)) H1):Gx t σ H Q:=h
theorem GT {c:TT} {ta tb:TE} (h:c σ H fun b H1=>if b=true then ta σ H1 Q else tb σ H1 Q):tIf c ta tb σ H Q:=h
theorem G8 {R:List V→Hp→Prop} (h:R [] H):tNil σ H R:=h
theorem Fx {ta:TE} {tr:TA} {R:List V→Hp→Prop} (h:ta σ H fun x H1=>tr σ H1 fun xs H2=>R (x :: xs) H2):Ey ta tr σ H R:=h
theorem E8 {sp:Sp} {dvs:List V} {E:XK} {t:TA} (h:t σ H fun vs H1=>sp (vs ++ dvs) H1 Q E):EU sp dvs E t σ H Q:=h
theorem i_cb {r:List V→Hp→VK→Prop} {t:TA} (h:t σ H fun vs H1=>r vs H1 Q):tCB r t σ H Q:=h
theorem Hs {t:TA} (h:t σ H fun xs H1=>NewT xs H1 Q):tTup t σ H Q:=h
theorem Hk {t:TA} (h:t σ H fun xs H1=>NewL xs H1 Q):tLst t σ H Q:=h
theorem xp {n:Nat} (h:n ≤ 1000):n ≤ sizeLine:=Nat.le_of_lt (BH h)
theorem xg {p:Addr} {xs:List V} {i:Int} {v:V} (h:H p=some (.tup xs)) (e:atI xs i=some v) (q:Q v H):rIxT K (.ref p) (.int i) H Q:=⟨p,xs,i,v,rfl,rfl,SqT.of h,e,q⟩
theorem zD {p:Addr} {xs:List V} {i:Int} {v:V} (h:H p=some (.lst xs)) (e:atI xs i=some v) (q:Q v H):rIxL K (.ref p) (.int i) H Q:=⟨p,xs,i,v,rfl,rfl,SqL.of h,e,q⟩
theorem Gs {p:Addr} {xs:List V} (h:H p=some (.tup xs)) (q:Q (.int xs.length) H):rLen K [.ref p] H Q:=⟨p,xs,rfl,.inr (SqT.of h),q⟩
theorem Ft {p:Addr} {xs:List V} (h:H p=some (.lst xs)) (q:Q (.int xs.length) H):rLen K [.ref p] H Q:=⟨p,xs,rfl,.inl (SqL.of h),q⟩
theorem GD {i:Int} (q:Q (.int (if i < 0 then -i else i)) H):rAbs [.int i] H Q:=⟨i,rfl,q⟩
theorem FJ {k:Bool} (q:Q (.int (if k then 1 else 0)) H):rInt [.bl k] H Q:=.inr ⟨k,rfl,q⟩
theorem GH {i j:Nat} {ta:TA} (h:ta σ H fun vs H1=>∃ v w,vs=[v,w]∧D.nx ((σ.set i (some v)).set j (some w)) H1):tPar i j ta D σ H:=h
theorem FZ {v w:V} {R:V→V→Prop} (h:R v w):∃ v' w',[v,w]=[v',w']∧R v' w':=⟨v,w,rfl,h⟩
end
theorem if_d {p A B:Prop} [Decidable p] (h1:p→A) (h2:¬ p→B):if decide p=true then A else B:=by
  by_cases h:p
  · rw [if_pos (decide_eq_true h)]; exact h1 h
  · rw [if_neg (by simp [h])]; exact h2 h
theorem AG {p A B:Prop} [Decidable p] (h1:¬ p→A) (h2:p→B):if (!decide p)=true then A else B:=by
  by_cases h:p
  · rw [if_neg (by simp [h])]; exact h2 h
  · rw [if_pos (by simp [h])]; exact h1 h
theorem xr {α:Type} {x y:α} {A B:Prop} [Decidable (x=y)] (e:x=y) (h:B):if (!decide (x=y))=true then A else B:=AG (fun c=>absurd e c) fun _=>h
theorem if_t {A B:Prop} (h:A):if true=true then A else B:=by rw [if_pos rfl]; exact h
theorem if_f {A B:Prop} (h:B):if false=true then A else B:=by rw [if_neg Bool.false_ne_true]; exact h
theorem Fe {A B:Prop} (h:B):if (!true)=true then A else B:=by rw [if_neg (by decide)]; exact h
theorem Hj {A B:Prop} (h:A):if (!false)=true then A else B:=by rw [if_pos (by decide)]; exact h
theorem z4 {H:Hp} {p:Addr} (h:H p=none) (o:HO):Same H (upd H p o):=fun b u q=>by rw [zt (ze q h)]; exact q
theorem BQ (x:Int):Bd (x.natAbs.log2 + 1) x:=by
  unfold Bd
  exact Nat.lt_log2_self
theorem E1 {j k:Nat} {x y:Int} (h:Bd j x) (g:Bd k y):Bd (j + k + 1) (x + y):=(h.mono (Nat.le_add_right ..)).add (g.mono (Nat.le_add_left ..))
theorem Eb {j k:Nat} {x y:Int} (h:Bd j x) (g:Bd k y):Bd (j + k + 1) (x - y):=(h.mono (Nat.le_add_right ..)).sub (g.mono (Nat.le_add_left ..))
end L2
namespace L2
open PySem PySem.Spec PyProof.Rows Bg
section
variable {P:Program} {w:World} {K:PySem.W.Frag} {mg:Str→Option Value} {base:Heap}
theorem FunD.binds {x qual:Str} {st:Stmt} {f:Addr} {fd:FuncData} {its ds:List Value} {ps:List Str} (F:FunD K x qual st f fd its)
    (h:∀ (T:Addr) (kV doc pm:Value) (an:Option Addr) (cdv ct:Value) (us:List Value),(us ++ ds).length=ps.length→∃ k:Option (Array Value)→Sem (List (Str × Value)),
      bindArgs (PySem.W.fnOf x qual (defArgs st) (defBody st) (defScope st) (.ref T) kV doc pm an cdv ct) ⟨us,[]⟩=seqItems? (.ref T) >>= k∧k (some its.toArray)=pure (ps.zip (us ++ ds))):Binds K fd ps ds:=by
  obtain ⟨oc,od,T,kV,doc,pm,an,cdv,ct,osl,to,n,rfl,lk,hcd,lT,hs⟩:=F.ex
  intro s us KX hl
  obtain ⟨k,h1,h2⟩:=h T kV doc pm an cdv ct us hl
  exact BindsTo.of_defaults rfl (KX _ _ lT) hs h1 h2
theorem TopD.own {k:Nat} {x:Str} {st:Stmt} {ps:List Str} {its ds:List Value} {dvs:List V} {sp:Sp} (T:TopD K mg x st its)
    (hb:∀ (T:Addr) (kV doc pm:Value) (an:Option Addr) (cdv ct:Value) (us:List Value),(us ++ ds).length=ps.length→∃ k:Option (Array Value)→Sem (List (Str × Value)),
      bindArgs (PySem.W.fnOf x x (defArgs st) (defBody st) (defScope st) (.ref T) kV doc pm an cdv ct) ⟨us,[]⟩=seqItems? (.ref T) >>= k∧k (some its.toArray)=pure (ps.zip (us ++ ds)))
    (hd:Vals dvs ds) (h:∀ f fd,FunD K x x st f fd its→FnOk P w K mg base CX0 k f fd ps sp):Own P w K mg base k x ps dvs sp:=by
  obtain ⟨f,fd,F,m⟩:=T
  exact ⟨f,fd,ds,h f fd F,m,F.kp,F.binds hb,hd⟩
end
end L2
namespace Att
open PySem PySem.W PySem.Calls PyProof.Rows Bg
theorem wG {x:WData}:∀ {xs:List WData},x ∈ xs→WData.weight x ≤ WData.weightAll xs
  | [],h=>absurd h (by simp)
  | y :: ys,h=>by
    simp only [WData.weightAll]
    rcases List.mem_cons.mp h with e | e
    · subst e; omega
    · have:=wG e
      omega
theorem Dg {ns:List Int} (h:WData.layableAll [WData.list (ns.map WData.int)]=true):∀ x ∈ ns,Bd 1048576 x:=fun x hx=>by
  have h1:WData.layable (WData.list (ns.map WData.int))=true:=by simpa [WData.layableAll] using h
  unfold WData.layable at h1
  rw [Bool.and_eq_true] at h1
  have h2:WData.weight (WData.list (ns.map WData.int)) ≤ 2 ^ 20:=of_decide_eq_true h1.2
  simp only [WData.weight] at h2
  have h3:WData.weight (WData.int x) ≤ WData.weightAll (ns.map WData.int):=wG (List.mem_map.mpr ⟨x,hx,rfl⟩)
  simp only [WData.weight] at h3
  unfold Bd
  by_cases z:x=0
  · subst z
    exact Nat.pow_pos (by decide)
  · rw [if_neg (by simpa using z)] at h3
    have e:(2:Nat) ^ 20=1048576:=by decide
    exact (Nat.log2_lt (by omega)).mp (by omega)
theorem attach_callB {l:OpenLaw} {n:Nat} {q:Program} {loose:List Str} {XP:(Str→Option Value)→Heap→Prop} {YP:World→Heap→Prop} {d:DefRec}
    (hn:l.most=some n) (hdf:d.params.defaults=[])
    (call:∀ (w:World) (s₀ s₁:Shared) (mg mb:Str→Option Value) (fa:Addr) (a:Addr) (vs:List Value) (ns:List Int),
      Ground q loose [] XP w s₀ mg mb s₁.heap→YP w s₁.heap→mg d.name=some (.ref fa) →
      s₁.heap.get? a=some { cls:=.type "list",data:=.seq vs.toArray }→IntsAre vs ns→ns.length ≤ n→(∀ x ∈ ns,Bd 1048576 x)→s₁.gens=#[] →
      codeAny (model l.prog w) callerA (.call (.ref fa) ⟨[.ref a],[]⟩) (fun r s'=>r=.ok (.ret (.bool true))∧OldK s₁.heap s'.heap∧s'.os=s₁.os∧AllBare s'.gens) s₁) :
    WalkO q loose XP YP l.row.toRowW d [] (fun f vs=>PySem.call f vs):=by
  intro w s₀ s₁ mg mb G Y fa o pm cd doc dV kV ho hd hcd hD hmg hg args vals as hpre hlay hrd hwl hlo
  obtain ⟨a,vs,ns,rfl,rfl,hobj,hints,hlen⟩:=BA hn hpre hwl
  refine enter_call (codeAny_mono (call w s₀ s₁ mg mb fa a vs ns G Y hmg hobj hints hlen (Dg hlay) hg) fun r s' hq=>?_)
  obtain ⟨rfl,h2,h3,h4⟩:=hq
  exact ⟨.inl ⟨.bool true,.bool true,[],rfl,fun _=>rfl,.bool true,CD l _,fun _=>⟨List.Pairwise.nil,fun _ hm=>(nomatch hm)⟩⟩,h2,h3,h4⟩
end Att
namespace L2
open PySem PySem.Spec PyProof.Rows Bg
def CT (K:PySem.W.Frag):Sp:=fun vs H Q _=>∃ (a:Addr) (ns:List Int),vs=[.ref a]∧SqL K H a (ns.map V.int)∧ns.length ≤ 63∧(∀ x ∈ ns,Bd 1048576 x)∧∀ H',Q (.bl true) H'
theorem walk_B {l:PySem.W.OpenLaw} {k:Nat} {q:Program} {loose:List Str} {XP:(Str→Option Value)→Heap→Prop} {YP:World→Heap→Prop} {d:DefRec} {K:Params→PySem.W.Frag} {x:Str}
    (hn:l.most=some 63) (hdf:d.params.defaults=[]) (hr:Room k callerA)
    (hY:∀ (w:World) (h:Heap),YP w h→(K w.params).In h)
    (F:∀ (w:World) (mg:Str→Option Value) (fa:Addr) (h:Heap),(K w.params).In h→h.Ns mainGlobals mg→mg d.name=some (.ref fa) →
      ∃ fd:FuncData,(∀ (s:Shared) (u:Value),BindsTo s fd ⟨[u],[]⟩ [(x,u)]) ∧
        ∀ base:Heap,(K w.params).In base→base.Ns mainGlobals mg→FnOk l.prog w (K w.params) mg base CX0 k fa fd [x] (CT (K w.params))) :
    PySem.W.WalkO q loose XP YP l.row.toRowW d [] (fun f vs=>PySem.call f vs):=by
  refine Att.attach_callB hn hdf fun w s₀ s₁ mg mb fa a vs ns G Y hmg hobj hints hlen hbd hg=>?_
  have KX:=hY w _ Y
  obtain ⟨fd,hb,hF⟩:=F w mg fa _ KX G.T.g hmg
  exact CQ KX G.T.g G.T.b G.T.builtins G.T.nolimit hg hobj hints (Nat.le_trans hlen (by decide)) hr hF hb (fun H hO hS=>⟨a,ns,rfl,hS,hlen,hbd,fun _=>rfl⟩) fun H e s' z=>z
theorem law_mk {P:Program} {w:World} {K:PySem.W.Frag} {mg:Str→Option Value} {fa:Addr} {k:Nat} {st:Stmt} {x:Str} (T:Top K mg "law" st) (hfa:mg "law"=some (.ref fa))
    (hb:∀ (kV doc pm:Value) (an:Option Addr) (cdv ct:Value) (v:Value),bindArgs (PySem.W.fnOf "law" "law" (defArgs st) (defBody st) (defScope st) .none kV doc pm an cdv ct) ⟨[v],[]⟩=pure [(x,v)])
    (h:∀ base f fd,Fun K "law" "law" st f fd→FnOk P w K mg base CX0 k f fd [x] (CT K)) :
    ∃ fd:FuncData,(∀ (s:Shared) (u:Value),BindsTo s fd ⟨[u],[]⟩ [(x,u)])∧∀ base:Heap,K.In base→base.Ns mainGlobals mg→FnOk P w K mg base CX0 k fa fd [x] (CT K):=by
  obtain ⟨f,fd,F,m⟩:=T
  have e:=hfa.symm.trans m
  cases e
  obtain ⟨oc,od,kV,doc,pm,an,cdv,ct,osl,e1,lk,hcd⟩:=id F.ex
  refine ⟨fd,fun s u=>?_,fun base _ _=>h base _ _ F⟩
  rw [e1]
  exact .of_eq (hb kV doc pm an cdv ct u)
end L2
namespace Bg
theorem DU (c x y z:Int):g3 (c * x) (c * y) (c * z)=c.natAbs * g3 x y z:=by
  unfold g3
  rw [Int.gcd_mul_left]
  have e1:((c.natAbs * Int.gcd z x:Nat):Int).gcd (c * y)=Int.gcd (c * (Int.gcd z x:Nat)) (c * y):=by
    rw [Int.gcd_eq_natAbs_gcd_natAbs,Int.gcd_eq_natAbs_gcd_natAbs]
    congr 1
    rw [Int.natAbs_mul,Int.natAbs_natCast,Int.natAbs_natCast]
  rw [e1,Int.gcd_mul_left]
theorem Ao {d x y z:Int} (hx:d ∣ x) (hy:d ∣ y) (hz:d ∣ z):d ∣ (g3 x y z:Int):=Int.dvd_coe_gcd (Int.dvd_coe_gcd hz hx) hy
theorem BL {x y z x' y' z':Int} (hg:g3 x y z=1) (hx:x * z'=x' * z) (hy:y * z'=y' * z):z ∣ z':=by
  have h1:z ∣ z' * x:=⟨x',by rw [Int.mul_comm z',hx,Int.mul_comm]⟩
  have h2:z ∣ z' * y:=⟨y',by rw [Int.mul_comm z',hy,Int.mul_comm]⟩
  have h3:z ∣ z' * z:=⟨z',by rw [Int.mul_comm]⟩
  have h:=Ao h1 h2 h3
  rw [DU,hg,Nat.mul_one] at h
  exact Int.dvd_natAbs.mp h
theorem Gc {x y z x' y' z':Int} (h1:1 ≤ z) (h2:1 ≤ z') (g1:g3 x y z=1) (g2:g3 x' y' z'=1) (hx:x * z'=x' * z) (hy:y * z'=y' * z):x=x'∧y=y'∧z=z':=by
  have d1:z ∣ z':=BL g1 hx hy
  have d2:z' ∣ z:=BL g2 hx.symm hy.symm
  have e:z=z':=by
    have a1:=Int.le_of_dvd (by omega) d1
    have a2:=Int.le_of_dvd (by omega) d2
    omega
  subst e
  exact ⟨Int.eq_of_mul_eq_mul_right (by omega) hx,Int.eq_of_mul_eq_mul_right (by omega) hy,rfl⟩
theorem yR {x y z a b n:Int} (h1:1 ≤ z) (g1:g3 x y z=1) (hn:n ≠ 0) (hx:x * n=a * z) (hy:y * n=b * z):x=lA a b n∧y=lB a b n∧z=lN a b n:=by
  refine Gc h1 (l_n hn) g1 (uF hn) ?_ ?_
  · have e:=l_a (a:=a) (b:=b) (n:=n)
    refine Int.eq_of_mul_eq_mul_right hn ?_
    calc x * lN a b n * n=x * n * lN a b n:=by rw [Int.mul_assoc,Int.mul_comm (lN a b n),Int.mul_assoc]
      _=a * z * lN a b n:=by rw [hx]
      _=a * lN a b n * z:=by rw [Int.mul_assoc,Int.mul_comm z,Int.mul_assoc]
      _=lA a b n * n * z:=by rw [e]
      _=lA a b n * z * n:=by rw [Int.mul_assoc,Int.mul_comm n,Int.mul_assoc]
  · have e:=l_b (a:=a) (b:=b) (n:=n)
    refine Int.eq_of_mul_eq_mul_right hn ?_
    calc y * lN a b n * n=y * n * lN a b n:=by rw [Int.mul_assoc,Int.mul_comm (lN a b n),Int.mul_assoc]
      _=b * z * lN a b n:=by rw [hy]
      _=b * lN a b n * z:=by rw [Int.mul_assoc,Int.mul_comm z,Int.mul_assoc]
      _=lB a b n * n * z:=by rw [e]
      _=lB a b n * z * n:=by rw [Int.mul_assoc,Int.mul_comm n,Int.mul_assoc]
end Bg
namespace Bg
theorem Bd.pow {k:Nat} {x:Int} (h:Bd k x):∀ n:Nat,0 < k→Bd (k * n + 1) (x ^ n)
  | 0,_=>by
    unfold Bd
    rw [Int.pow_zero,Nat.mul_zero]
    decide
  | n + 1,hk=>by
    have ih:=Bd.pow h n hk
    rw [Int.pow_succ]
    have e:k * (n + 1) + 1=(k * n + 1) + k:=by rw [Nat.mul_succ]; omega
    rw [e]
    exact ih.mul h
theorem Es {k n:Nat} {x:Int} (h:Bd k x):Bd ((k + 1) * n + 1) (x ^ n):=Bd.pow (h.mono (Nat.le_succ k)) n (Nat.succ_pos k)
theorem u8 {k:Nat} {x y:Int} (h:Bd k x):Bd k (x / y):=h.of_le (Int.natAbs_ediv_le_natAbs x y)
theorem Ed {k:Nat} {x y:Int} (h:Bd k y) (hy:0 < y):Bd k (x % y):=h.emod (by omega) x
theorem zS {k:Nat} {x B:Int} (h0:0 ≤ x) (h1:x ≤ B) (hB:B.natAbs < 2 ^ k):Bd k x:=by
  unfold Bd
  omega
theorem xq {x:Int} (k:Nat) (h0:-1000000 ≤ x) (h1:x ≤ 1000000) (hk:20 ≤ k):Bd k x:=by
  have h:Bd 20 x:=by
    unfold Bd
    have:(2:Nat) ^ 20=1048576:=by decide
    omega
  exact h.mono hk
theorem C0 (a b:Int):Int.gcd (if a < 0 then -a else a) (if b < 0 then -b else b)=Int.gcd a b:=by
  have e:∀ x:Int,(if x < 0 then -x else x)=(x.natAbs:Int):=fun x=>by split <;> omega
  rw [e,e,Int.gcd_eq_natAbs_gcd_natAbs,Int.gcd_eq_natAbs_gcd_natAbs,Int.natAbs_natCast,Int.natAbs_natCast]
end Bg
namespace L2
open PySem PySem.Spec PyProof.Rows Bg
section
variable {σ:St} {H:Hp} {Q:VK} {D:Ends} {K:PySem.W.Frag}
def tCut (t:TS):TS:=fun D σ H=>∃ T:St→Hp→Prop,(∀ σ' H',T σ' H'→D.nx σ' H')∧t { D with nx:=T } σ H
theorem wM {X:Cx} {st:Stmt} {t:TS} (h:PS X st t):PS X st (tCut t):=by
  intro pins s σ H D I hw
  obtain ⟨T,hT,hw⟩:=hw
  refine thn (h pins s σ H _ I hw) fun f s' q=>?_
  cases f with
  | next=>obtain ⟨σ',H',I',q⟩:=q; exact ⟨σ',H',I',hT _ _ q⟩
  | brk=>exact q
  | cont=>exact q
  | ret v=>exact q
theorem tN {t:TS} {T:St→Hp→Prop} (h:t { D with nx:=T } σ H) (hT:∀ σ' H',T σ' H'→D.nx σ' H'):tCut t D σ H:=⟨T,hT,h⟩
theorem zP {xs:List V} (hl:xs.length ≤ 1000) (h:∀ p H2,Same H H2→H2 p=some (.tup xs)→Q (.ref p) H2):NewT xs H Q :=
  ⟨xp hl,fun p hp=>h p _ (z4 hp _) zk⟩
theorem Dz {xs:List V} (hl:xs.length ≤ 1000) (h:∀ p H2,Same H H2→H2 p=some (.lst xs)→Q (.ref p) H2):NewL xs H Q :=
  ⟨xp hl,fun p hp=>h p _ (z4 hp _) zk⟩
theorem zA {xs:List V} (hl:xs.length ≤ 1000) (h:∀ p H2,H p=none→Same H H2→H2 p=some (.lst xs)→Q (.ref p) H2):NewL xs H Q :=
  ⟨xp hl,fun p hp=>h p _ hp (z4 hp _) zk⟩
theorem i_sl {r:V→Option Int→Option Int→Hp→VK→Prop} {te:TE} {tl th:TO} (h:te σ H fun x H1=>tl σ H1 fun l H2=>th σ H2 fun u H3=>r x l u H3 Q):tSl r te tl th σ H Q:=h
theorem CJ {R:Option Int→Hp→Prop} (h:R none H):A6 σ H R:=h
theorem Fo {t:TE} {R:Option Int→Hp→Prop} (h:t σ H fun x H1=>∃ i,x=.int i∧R (some i) H1):Go t σ H R:=h
theorem GQ {k:Int} {R:Int→Prop} (h:R k):∃ k',V.int k=.int k'∧R k':=⟨k,rfl,h⟩
theorem wn {tl:TE} {g:TG} {tb:TS} (h:tl σ H fun x H1=>∃ a,x=.ref a∧(∃ xs,SqL K H1 a xs)∧∃ W:Nat→Nat→St→Hp→Prop,(∃ m,W 0 m σ H1)∧∀ i m σ H,W i m σ H →
  ((Itl K a).stop i H∧D.nx σ H) ∨ ((Itl K a).go i H∧∃ N:St→Hp→Prop,(∀ σ' H',N σ' H'→∃ m',m' < m∧W (i + 1) m' σ' H')∧∀ x H',(Itl K a).yld i H x H'→g x σ H' fun σ2 H2=>tb { D with nx:=N,ct:=N,bk:=D.nx } σ2 H2)) :
  tFor (Eo K tl) g tb D σ H:=h
theorem D8 {ns:List Int} {i:Nat} {y:V} (h:(ns.map V.int)[i]?=some y):∃ z,y=V.int z∧z ∈ ns:=by
  rw [List.getElem?_map] at h
  cases e:ns[i]? with
  | none=>rw [e] at h; cases h
  | some z=>rw [e] at h; exact ⟨z,(Option.some.inj h).symm,List.mem_of_getElem? e⟩
end
end L2
namespace L2
open PySem PySem.Spec PyProof.Rows Bg
def EqV (X:Cx) (n:Nat) (H:Hp) (x y:V) (b:Bool):Prop :=
  ∀ (pins:List (Addr × Obj)) (σ:St) (s:Shared) (v u:Value) (A:Around),Inv X pins σ H s→RelV x v→RelV y u→A.units + 4 * n < cLine→SeqAt.EqAt A s v u b
theorem EqV.int {X:Cx} {n:Nat} {H:Hp} (i j:Int):EqV X n H (.int i) (.int j) (i == j):=fun _ _ s v u A _ rv ru _=>by
  obtain ⟨t,rfl⟩:=rv
  obtain ⟨t',rfl⟩:=ru
  exact SeqAt.EqAt.int_int i t j t'
inductive EqVs (X:Cx) (n:Nat) (H:Hp):List V→List V→List Bool→Prop
  | nil:EqVs X n H [] [] []
  | cons {x y:V} {b:Bool} {xs ys:List V} {bs:List Bool}:EqV X n H x y b→EqVs X n H xs ys bs→EqVs X n H (x :: xs) (y :: ys) (b :: bs)
theorem EqVs.at {X:Cx} {n:Nat} {H:Hp}:∀ {xs ys:List V} {bs:List Bool},EqVs X n H xs ys bs→∀ {j:Nat} {x y:V},xs[j]?=some x→ys[j]?=some y→EqV X n H x y (bs.getD j false)
  | _,_,_,.nil,j,x,y,h,_=>by simp at h
  | _,_,_,.cons e _,0,x,y,h1,h2=>by
    simp at h1 h2
    subst h1; subst h2
    exact e
  | _,_,_,.cons _ r,j + 1,x,y,h1,h2=>by
    have:=EqVs.at r (j:=j) (x:=x) (y:=y) (by simpa using h1) (by simpa using h2)
    simpa using this
theorem EqVs.len {X:Cx} {n:Nat} {H:Hp}:∀ {xs ys:List V} {bs:List Bool},EqVs X n H xs ys bs→xs.length=bs.length∧ys.length=bs.length
  | _,_,_,.nil=>⟨rfl,rfl⟩
  | _,_,_,.cons _ r=>by
    have:=r.len
    simp only [List.length_cons]
    omega
theorem v9 (bs:List Bool):((List.range bs.length).all fun j=>bs.getD j false)=bs.all id:=by
  rw [Bool.eq_iff_iff]
  simp only [List.all_eq_true,List.mem_range,id]
  constructor
  · intro h b hb
    obtain ⟨j,hj,e⟩:=List.mem_iff_getElem.mp hb
    have:=h j hj
    rw [List.getD_eq_getElem?_getD,List.getElem?_eq_getElem hj] at this
    rw [← e]
    exact this
  · intro h j hj
    rw [List.getD_eq_getElem?_getD,List.getElem?_eq_getElem hj]
    exact h _ (List.getElem_mem hj)
theorem BP {X:Cx} {n:Nat} {H:Hp} {a b:Addr} {xs ys:List V} {bs:List Bool} {pins:List (Addr × Obj)} {σ:St} {s:Shared} {A:Around} (ha:SqT X.K H a xs) (hb:SqT X.K H b ys) (he:EqVs X n H xs ys bs) (I:Inv X pins σ H s) (hu:A.units + 4 * (n + 1) < cLine) :
    ∃ (is js:Array Value),s.heap.IsTuple a is∧s.heap.IsTuple b js∧(∀ j (h1:j < is.size) (h2:j < js.size),SeqAt.EqAt A.in1 s is[j] js[j] (bs.getD j false))∧((List.range (min is.size js.size)).all (fun j=>bs.getD j false) && is.size == js.size)=bs.all id:=by
  obtain ⟨is,r1,p1,_⟩:=I.tuple ha
  obtain ⟨js,r2,p2,_⟩:=I.tuple hb
  obtain ⟨l1,l2⟩:=he.len
  have q1:=r1.length
  have q2:=r2.length
  refine ⟨is.toArray,js.toArray,(show s.heap.IsTuple a is.toArray from p1),(show s.heap.IsTuple b js.toArray from p2),fun j h1 h2=>?_,?_⟩
  · have hj1:j < xs.length:=by rw [q1]; simpa using h1
    have hj2:j < ys.length:=by rw [q2]; simpa using h2
    obtain ⟨v,ev,rv⟩:=r1.get (List.getElem?_eq_getElem hj1)
    obtain ⟨u,eu,ru⟩:=r2.get (List.getElem?_eq_getElem hj2)
    have e1:is.toArray[j]=v:=by
      have:is[j]?=some v:=ev
      rw [List.getElem?_eq_getElem (by simpa using h1)] at this
      simpa using Option.some.inj this
    have e2:js.toArray[j]=u:=by
      have:js[j]?=some u:=eu
      rw [List.getElem?_eq_getElem (by simpa using h2)] at this
      simpa using Option.some.inj this
    rw [e1,e2]
    exact he.at (List.getElem?_eq_getElem hj1) (List.getElem?_eq_getElem hj2) pins σ s v u A.in1 I rv ru (by show A.units + 1 + 4 * n < cLine; omega)
  · have e1:is.toArray.size=bs.length:=by rw [List.size_toArray]; omega
    have e2:js.toArray.size=bs.length:=by rw [List.size_toArray]; omega
    rw [e1,e2,Nat.min_self,v9]
    simp
theorem EqV.tup {X:Cx} {n:Nat} {H:Hp} {a b:Addr} {xs ys:List V} {bs:List Bool} (ha:SqT X.K H a xs) (hb:SqT X.K H b ys) (he:EqVs X n H xs ys bs) (hs:a=b→bs.all id=true):EqV X (n + 1) H (.ref a) (.ref b) (bs.all id):=fun pins σ s v u A I rv ru hu=>by
  cases rv
  cases ru
  by_cases hab:a=b
  · subst hab
    rw [hs rfl]
    exact SeqAt.EqAt.same _
  · obtain ⟨is,js,p1,p2,hj,e⟩:=BP ha hb he I hu
    have:=SeqAt.RcAt.tuples (A:=A) (e:=fun j=>bs.getD j false) p1 p2 (by omega) hj
    rw [e] at this
    exact SeqAt.EqAt.of_refs hab this
def rEqT (X:Cx):R2:=fun x y H Q=>∃ a b xs ys bs n,x=.ref a∧y=.ref b∧n ≤ 9∧SqT X.K H a xs∧SqT X.K H b ys∧EqVs X n H xs ys bs∧Q (.bl (bs.all id)) H
def rNeT (X:Cx):R2:=fun x y H Q=>∃ a b xs ys bs n,x=.ref a∧y=.ref b∧n ≤ 9∧SqT X.K H a xs∧SqT X.K H b ys∧EqVs X n H xs ys bs∧Q (.bl (!(bs.all id))) H
theorem A7 {X:Cx} (hu:X.A.units + 64 < cLine):OpR X (compareOp .Eq) (rEqT X):=by
  intro pins s σ H x y v u Q I rx ry h
  obtain ⟨a,b,xs,ys,bs,n,rfl,rfl,hn,ha,hb,he,q⟩:=h
  cases rx
  cases ry
  obtain ⟨is,js,p1,p2,hj,e⟩:=BP (A:=X.A) ha hb he I (by omega)
  refine SeqAt.eq_tupleAt p1 p2 (by omega) hj ?_
  rw [e]
  exact ⟨.bl _,H,I,rfl,q⟩
theorem D2 {X:Cx} (hu:X.A.units + 64 < cLine):OpR X (compareOp .NotEq) (rNeT X):=by
  intro pins s σ H x y v u Q I rx ry h
  obtain ⟨a,b,xs,ys,bs,n,rfl,rfl,hn,ha,hb,he,q⟩:=h
  cases rx
  cases ry
  obtain ⟨is,js,p1,p2,hj,e⟩:=BP (A:=X.A) ha hb he I (by omega)
  refine SeqAt.RcNeAt.tuples p1 p2 (by omega) hj X.prog X.w X.xe _ ?_
  rw [e]
  exact ⟨.bl _,H,I,rfl,q⟩
theorem EW {X:Cx} {H:Hp} {Q:VK} {a b:Addr} {x y z x' y' z':Int} (ha:H a=some (.tup [.int x,.int y,.int z])) (hb:H b=some (.tup [.int x',.int y',.int z'])) (q:Q (.bl (decide (x=x'∧y=y'∧z=z'))) H):rEqT X (.ref a) (.ref b) H Q:=by
  refine ⟨a,b,_,_,_,0,rfl,rfl,Nat.zero_le _,SqT.of ha,SqT.of hb,.cons (.int x x') (.cons (.int y y') (.cons (.int z z') .nil)),?_⟩
  have e:([x == x',y == y',z == z']:List Bool).all id=decide (x=x'∧y=y'∧z=z'):=by
    rw [Bool.eq_iff_iff]
    simp
  rw [e]
  exact q
theorem GX {X:Cx} {H:Hp} {Q:VK} {a b:Addr} {x y z x' y' z':Int} (ha:H a=some (.tup [.int x,.int y,.int z])) (hb:H b=some (.tup [.int x',.int y',.int z'])) (q:Q (.bl (!decide (x=x'∧y=y'∧z=z'))) H):rNeT X (.ref a) (.ref b) H Q:=by
  refine ⟨a,b,_,_,_,0,rfl,rfl,Nat.zero_le _,SqT.of ha,SqT.of hb,.cons (.int x x') (.cons (.int y y') (.cons (.int z z') .nil)),?_⟩
  have e:([x == x',y == y',z == z']:List Bool).all id=decide (x=x'∧y=y'∧z=z'):=by
    rw [Bool.eq_iff_iff]
    simp
  rw [e]
  exact q
end L2
namespace L2
open PySem PySem.Spec PyProof.Rows Bg
theorem GO {X:Cx} {H:Hp} {Q:VK} {a b:Addr} {x z x' z':Int} (ha:H a=some (.tup [.int x,.int z])) (hb:H b=some (.tup [.int x',.int z'])) (q:Q (.bl (!decide (x=x'∧z=z'))) H):rNeT X (.ref a) (.ref b) H Q:=by
  refine ⟨a,b,_,_,_,0,rfl,rfl,Nat.zero_le _,SqT.of ha,SqT.of hb,.cons (.int x x') (.cons (.int z z') .nil),?_⟩
  have e:([x == x',z == z']:List Bool).all id=decide (x=x'∧z=z'):=by
    rw [Bool.eq_iff_iff]
    simp
  rw [e]
  exact q
theorem eqv3 {X:Cx} {H:Hp} {a b:Addr} {x y z:Int} (ha:H a=some (.tup [.int x,.int y,.int z])) (hb:H b=some (.tup [.int x,.int y,.int z])):EqV X 1 H (.ref a) (.ref b) true:=by
  have e:([x == x,y == y,z == z]:List Bool).all id=true:=by simp
  have:=EqV.tup (X:=X) (n:=0) (SqT.of ha) (SqT.of hb) (.cons (.int x x) (.cons (.int y y) (.cons (.int z z) .nil))) (fun _=>e)
  rw [e] at this
  exact this
def SameX (l:Addr) (H H':Hp):Prop:=∀ b o,H b=some o→b ≠ l→H' b=some o
theorem Same.sameX {H H':Hp} (s:Same H H') (l:Addr):SameX l H H':=fun b o e _=>s b o e
theorem SameX.trans {l:Addr} {H H1 H2:Hp} (a:SameX l H H1) (b:SameX l H1 H2):SameX l H H2:=fun c o e n=>b c o (a c o e n) n
theorem SameX.tup {l p:Addr} {H H':Hp} {xs ys:List V} (s:SameX l H H') (h:H p=some (.tup xs)) (hl:H l=some (.lst ys)):H' p=some (.tup xs):=s _ _ h (yf h hl (fun z=>nomatch z))
section
variable {σ:St} {H:Hp} {Q:VK} {D:Ends} {K:PySem.W.Frag}
theorem zB {l:Addr} {xs:List V} {y:V} (h:H l=some (.lst xs)) (hz:xs.length < 1000) (q:∀ H2,SameX l H H2→H2 l=some (.lst (xs ++ [y]))→Q .non H2):z9 (.ref l) [y] H Q :=
  ⟨l,xs,y,rfl,rfl,h,Nat.lt_of_lt_of_le hz (xp (Nat.le_refl _)),q _ (fun b o e n=>by rw [zt n]; exact e) zk⟩
theorem i_bm {T:String} {r:V→List V→Hp→VK→Prop} {to:TE} {t:TA} (h:to σ H fun x H1=>tyV K T x H1∧t σ H1 fun xs H2=>r x xs H2 Q):tBM K T r to t σ H Q:=h
theorem GZ {l:Addr} {xs:List V} {R:Prop} (h:H l=some (.lst xs)) (q:R):tyV K "list" (.ref l) H∧R:=⟨.inl ⟨rfl,_,SqL.of h⟩,q⟩
theorem vI {ta:TA} {g:TG} {tb:TS} (h:ta σ H fun vs H1=>∃ j:Int,vs=[.int j]∧-(2 ^ 62) ≤ j∧j < 2 ^ 62∧∃ W:Nat→Nat→St→Hp→Prop,(∃ m,W 0 m σ H1)∧∀ i m σ H,W i m σ H →
  ((Itr 0 j.toNat).stop i H∧D.nx σ H) ∨ ((Itr 0 j.toNat).go i H∧∃ N:St→Hp→Prop,(∀ σ' H',N σ' H'→∃ m',m' < m∧W (i + 1) m' σ' H')∧∀ x H',(Itr 0 j.toNat).yld i H x H'→g x σ H' fun σ2 H2=>tb { D with nx:=N,ct:=N,bk:=D.nx } σ2 H2)) :
  tFor (EZ ta) g tb D σ H:=h
end
end L2
namespace Bg
structure Rt (d:Int):Prop where
  lo:2 ≤ d
  hi:d ≤ 99
  ns:∀ k:Nat,((k * k:Nat):Int) ≠ d
theorem Hn {d:Int} (h:2 ≤ d∧d ≤ 99) (n:d ≠ 4∧d ≠ 9∧d ≠ 16∧d ≠ 25∧d ≠ 36∧d ≠ 49∧d ≠ 64∧d ≠ 81):Rt d:=by
  refine ⟨h.1,h.2,fun k e=>?_⟩
  have hk:k < 10:=by
    refine Nat.lt_of_not_le fun z=>?_
    have:10 * 10 ≤ k * k:=Nat.mul_le_mul z z
    omega
  have:k=0 ∨ k=1 ∨ k=2 ∨ k=3 ∨ k=4 ∨ k=5 ∨ k=6 ∨ k=7 ∨ k=8 ∨ k=9:=by omega
  rcases this with q | q | q | q | q | q | q | q | q | q <;> subst q <;> omega
theorem irrN {D A B:Nat} (ns:∀ k:Nat,k * k ≠ D) (e:A * A=D * B * B):B=0:=by
  rcases Nat.eq_zero_or_pos B with z | hB
  · exact z
  exfalso
  have hg:0 < Nat.gcd A B:=Nat.gcd_pos_of_pos_right A hB
  have hc:=Nat.coprime_div_gcd_div_gcd hg
  obtain ⟨a,ha⟩:=Nat.gcd_dvd_left A B
  obtain ⟨b,hb⟩:=Nat.gcd_dvd_right A B
  have ea:A / Nat.gcd A B=a:=by rw [Nat.div_eq_iff_eq_mul_right hg (Nat.gcd_dvd_left A B)]; exact ha
  have eb:B / Nat.gcd A B=b:=by rw [Nat.div_eq_iff_eq_mul_right hg (Nat.gcd_dvd_right A B)]; exact hb
  rw [ea,eb] at hc
  generalize Nat.gcd A B=g at *
  have e2:a * a=D * b * b:=by
    have h1:g * g * (a * a)=g * g * (D * b * b):=by
      rw [ha,hb] at e
      calc g * g * (a * a)=g * a * (g * a):=by simp only [Nat.mul_assoc,Nat.mul_left_comm]
        _=D * (g * b) * (g * b):=e
        _=g * g * (D * b * b):=by simp only [Nat.mul_assoc,Nat.mul_left_comm]
    exact Nat.eq_of_mul_eq_mul_left (Nat.mul_pos hg hg) h1
  have d1:b ∣ a * a:=⟨D * b,by rw [e2,Nat.mul_comm b]⟩
  have d2:b ∣ a:=hc.symm.dvd_of_dvd_mul_left d1
  have d3:b=1:=by
    have:b ∣ Nat.gcd a b:=Nat.dvd_gcd d2 (Nat.dvd_refl b)
    rw [show Nat.gcd a b=1 from hc] at this
    exact Nat.dvd_one.mp this
  rw [d3,Nat.mul_one,Nat.mul_one] at e2
  exact ns a e2
theorem irr {d a b:Int} (h:Rt d) (e:a * a=d * b * b):b=0:=by
  have hd:(d.toNat:Int)=d:=Int.toNat_of_nonneg (by have:=h.lo; omega)
  have:=irrN (D:=d.toNat) (A:=a.natAbs) (B:=b.natAbs) (fun k q=>h.ns k (by rw [q]; exact hd)) (by
    have h1:((a.natAbs * a.natAbs:Nat):Int)=((d.toNat * b.natAbs * b.natAbs:Nat):Int):=by
      have ea:((a.natAbs * a.natAbs:Nat):Int)=a * a:=Int.natAbs_mul_self
      have eb:((b.natAbs * b.natAbs:Nat):Int)=b * b:=Int.natAbs_mul_self
      rw [ea,Nat.mul_assoc,Int.natCast_mul,eb,hd,← Int.mul_assoc]
      exact e
    exact Int.ofNat.inj h1)
  omega
def sgn (d a b:Int):Int:=if 0 ≤ a∧0 ≤ b then (if 0 < a + b then 1 else 0) else if a ≤ 0∧b ≤ 0 then -1 else if 0 < a then (if d * b * b < a * a then 1 else -1) else (if a * a < d * b * b then 1 else -1)
theorem BV {b:Int} (h:b ≠ 0):0 < b * b:=by
  rcases Int.lt_or_gt_of_ne h with q | q
  · exact Int.mul_pos_of_neg_of_neg q q
  · exact Int.mul_pos q q
theorem EM {d b:Int} (h:2 ≤ d) (hb:b ≠ 0):0 < d * b * b:=by rw [Int.mul_assoc]; exact Int.mul_pos (by omega) (BV hb)
def nrm (d a b:Int):Int:=a * a - d * b * b
theorem Am {d a b:Int} (h:Rt d) (e:nrm d a b=0):a=0∧b=0:=by
  unfold nrm at e
  have hb:=irr (a:=a) (b:=b) h (by omega)
  subst hb
  rw [Int.mul_zero] at e
  refine ⟨?_,rfl⟩
  rcases Int.lt_trichotomy a 0 with q | q | q
  · have:=Int.mul_pos_of_neg_of_neg q q; omega
  · exact q
  · have:=Int.mul_pos q q; omega
def sg (x:Int):Int:=if 0 < x then 1 else if x < 0 then -1 else 0
theorem yQ {d a b:Int} (h:Rt d) (n:0 < nrm d a b):sgn d a b=sg a:=by
  unfold nrm at n
  have ha:a ≠ 0:=fun z=>by
    subst z
    by_cases hb:b=0
    · subst hb; simp at n
    · have:=EM h.lo hb
      omega
  unfold sgn sg
  repeat' split
  all_goals omega
theorem yp {d a b:Int} (h:Rt d) (n:nrm d a b < 0):sgn d a b=sg b:=by
  unfold nrm at n
  have hb:b ≠ 0:=fun z=>by
    subst z
    rw [Int.mul_zero] at n
    by_cases ha:a=0
    · subst ha; simp at n
    · have:=BV ha
      omega
  unfold sgn sg
  repeat' split
  all_goals omega
theorem yo (d:Int):sgn d 0 0=0:=by simp [sgn]
theorem nrm_tri {d a b:Int} (h:Rt d):(0 < nrm d a b) ∨ (nrm d a b < 0) ∨ (a=0∧b=0):=by
  rcases Int.lt_trichotomy (nrm d a b) 0 with q | q | q
  · exact .inr (.inl q)
  · exact .inr (.inr (Am h q))
  · exact .inl q
theorem DE (x:Int):sg (-x)=- sg x:=by unfold sg; repeat' split <;> omega
theorem A2 (d a b:Int):nrm d (-a) (-b)=nrm d a b:=by unfold nrm; rw [Int.neg_mul_neg,Int.mul_assoc,Int.neg_mul_neg,← Int.mul_assoc]
theorem xX {d:Int} (h:Rt d) (a b:Int):sgn d (-a) (-b)=- sgn d a b:=by
  rcases nrm_tri (a:=a) (b:=b) h with q | q | ⟨rfl,rfl⟩
  · rw [yQ h q,yQ h (by rw [A2]; exact q),DE]
  · rw [yp h q,yp h (by rw [A2]; exact q),DE]
  · rfl
theorem sg_cases (x:Int):(0 < x∧sg x=1) ∨ (x < 0∧sg x=-1) ∨ (x=0∧sg x=0):=by unfold sg; repeat' split <;> omega
theorem vq {k:Int} (hk:0 < k) (x:Int):sg (k * x)=sg x:=by
  rcases sg_cases x with ⟨q,e⟩ | ⟨q,e⟩ | ⟨q,e⟩
  · have:=Int.mul_pos hk q
    rw [e]; unfold sg; rw [if_pos this]
  · have:=Int.mul_neg_of_pos_of_neg hk q
    rw [e]; unfold sg; rw [if_neg (by omega),if_pos this]
  · subst q; simp
theorem Bm (d k a b:Int):nrm d (k * a) (k * b)=k * k * nrm d a b:=by
  unfold nrm
  rw [Int.mul_sub]
  congr 1
  · simp only [Int.mul_assoc,Int.mul_left_comm]
  · simp only [Int.mul_assoc,Int.mul_left_comm,Int.mul_comm d]
theorem xI {d k:Int} (h:Rt d) (hk:0 < k) (a b:Int):sgn d (k * a) (k * b)=sgn d a b:=by
  have kk:0 < k * k:=Int.mul_pos hk hk
  rcases nrm_tri (a:=a) (b:=b) h with q | q | ⟨rfl,rfl⟩
  · rw [yQ h q,yQ h (by rw [Bm]; exact Int.mul_pos kk q),vq hk]
  · rw [yp h q,yp h (by rw [Bm]; exact Int.mul_neg_of_pos_of_neg kk q),vq hk]
  · simp
theorem xN {d k m a b a' b':Int} (h:Rt d) (hk:0 < k) (hm:0 < m) (ea:k * a=m * a') (eb:k * b=m * b'):sgn d a b=sgn d a' b':=by
  rw [← xI h hk a b,← xI h hm a' b',ea,eb]
theorem CP (d a b a' b':Int):nrm d (a * a' + d * b * b') (a * b' + b * a')=nrm d a b * nrm d a' b':=by
  unfold nrm
  simp only [Int.mul_add,Int.add_mul,Int.mul_sub,Int.sub_mul]
  have e1:a * a' * (a * a')=a * a * (a' * a'):=by simp only [Int.mul_assoc,Int.mul_left_comm]
  have e2:d * b * b' * (d * b * b')=d * b * b * (d * b' * b'):=by simp only [Int.mul_assoc,Int.mul_left_comm]
  have e3:d * (a * b') * (a * b')=a * a * (d * b' * b'):=by simp only [Int.mul_assoc,Int.mul_left_comm]
  have e4:d * (b * a') * (b * a')=d * b * b * (a' * a'):=by simp only [Int.mul_assoc,Int.mul_left_comm,Int.mul_comm]
  have e5:d * b * b' * (a * a')=d * (b * a') * (a * b'):=by simp only [Int.mul_assoc,Int.mul_left_comm,Int.mul_comm]
  have e6:a * a' * (d * b * b')=d * (a * b') * (b * a'):=by simp only [Int.mul_assoc,Int.mul_left_comm,Int.mul_comm]
  omega
theorem xS {x y:Int} (hx:0 < x) (h:y * y < x * x):-x < y∧y < x:=by
  constructor
  · refine Int.lt_of_not_ge fun z=>?_
    have:x * x ≤ (-y) * (-y):=Int.mul_le_mul (by omega) (by omega) (by omega) (by omega)
    rw [Int.neg_mul_neg] at this
    omega
  · refine Int.lt_of_not_ge fun z=>?_
    have:x * x ≤ y * y:=Int.mul_le_mul z z (by omega) (by omega)
    omega
theorem yX {p q r s:Int} (h1:p < q) (h2:r < s) (hp:0 ≤ p) (hr:0 ≤ r):p * r < q * s:=by
  have a1:p * r ≤ p * s:=Int.mul_le_mul_of_nonneg_left (by omega) hp
  have a2:p * s < q * s:=Int.mul_lt_mul_of_pos_right h1 (by omega)
  omega
theorem AR (x:Int):0 ≤ x * x:=by
  by_cases h:x=0
  · subst h; simp
  · exact Int.le_of_lt (BV h)
theorem u4 {d:Int} (h:2 ≤ d) (x:Int):0 ≤ d * x * x:=by rw [Int.mul_assoc]; exact Int.mul_nonneg (by omega) (AR x)
theorem t5 {d a b a' b':Int} (h:Rt d) (h1:sgn d a b=1) (h2:sgn d a' b'=1):sgn d (a * a' + d * b * b') (a * b' + b * a')=1:=by
  have hd:=h.lo
  have np:=CP d a b a' b'
  rcases nrm_tri (a:=a) (b:=b) h with q | q | ⟨rfl,rfl⟩
  · have sa:0 < a:=by rw [yQ h q] at h1; unfold sg at h1; split at h1 <;> omega
    rcases nrm_tri (a:=a') (b:=b') h with q' | q' | ⟨rfl,rfl⟩
    · have sa':0 < a':=by rw [yQ h q'] at h2; unfold sg at h2; split at h2 <;> omega
      have n:0 < nrm d (a * a' + d * b * b') (a * b' + b * a'):=by rw [np]; exact Int.mul_pos q q'
      rw [yQ h n]
      unfold nrm at q q'
      have k:=yX (p:=d * b * b) (q:=a * a) (r:=d * b' * b') (s:=a' * a') (by omega) (by omega) (u4 hd b) (u4 hd b')
      have e1:d * b * b * (d * b' * b')=(d * b * b') * (d * b * b'):=by simp only [Int.mul_assoc,Int.mul_left_comm]
      have e2:a * a * (a' * a')=a * a' * (a * a'):=by simp only [Int.mul_assoc,Int.mul_left_comm]
      rw [e1,e2] at k
      have:=(xS (Int.mul_pos sa sa') k).1
      unfold sg
      rw [if_pos (by omega)]
    · have sb':0 < b':=by rw [yp h q'] at h2; unfold sg at h2; split at h2 <;> omega
      have n:nrm d (a * a' + d * b * b') (a * b' + b * a') < 0:=by rw [np]; exact Int.mul_neg_of_pos_of_neg q q'
      rw [yp h n]
      unfold nrm at q q'
      have k:=yX (p:=d * b * b) (q:=a * a) (r:=a' * a') (s:=d * b' * b') (by omega) (by omega) (u4 hd b) (AR a')
      have e1:d * b * b * (a' * a')=d * (b * a' * (b * a')):=by simp only [Int.mul_assoc,Int.mul_left_comm]
      have e2:a * a * (d * b' * b')=d * (a * b' * (a * b')):=by simp only [Int.mul_assoc,Int.mul_left_comm]
      rw [e1,e2] at k
      have k':=Int.lt_of_mul_lt_mul_left k (by omega)
      have:=(xS (Int.mul_pos sa sb') k').1
      unfold sg
      rw [if_pos (by omega)]
    · rw [yo] at h2; omega
  · have sb:0 < b:=by rw [yp h q] at h1; unfold sg at h1; split at h1 <;> omega
    rcases nrm_tri (a:=a') (b:=b') h with q' | q' | ⟨rfl,rfl⟩
    · have sa':0 < a':=by rw [yQ h q'] at h2; unfold sg at h2; split at h2 <;> omega
      have n:nrm d (a * a' + d * b * b') (a * b' + b * a') < 0:=by rw [np]; exact Int.mul_neg_of_neg_of_pos q q'
      rw [yp h n]
      unfold nrm at q q'
      have k:=yX (p:=a * a) (q:=d * b * b) (r:=d * b' * b') (s:=a' * a') (by omega) (by omega) (AR a) (u4 hd b')
      have e1:a * a * (d * b' * b')=d * (a * b' * (a * b')):=by simp only [Int.mul_assoc,Int.mul_left_comm]
      have e2:d * b * b * (a' * a')=d * (b * a' * (b * a')):=by simp only [Int.mul_assoc,Int.mul_left_comm]
      rw [e1,e2] at k
      have k':=Int.lt_of_mul_lt_mul_left k (by omega)
      have:=(xS (Int.mul_pos sb sa') k').1
      unfold sg
      rw [if_pos (by omega)]
    · have sb':0 < b':=by rw [yp h q'] at h2; unfold sg at h2; split at h2 <;> omega
      have n:0 < nrm d (a * a' + d * b * b') (a * b' + b * a'):=by rw [np]; exact Int.mul_pos_of_neg_of_neg q q'
      rw [yQ h n]
      unfold nrm at q q'
      have k:=yX (p:=a * a) (q:=d * b * b) (r:=a' * a') (s:=d * b' * b') (by omega) (by omega) (AR a) (AR a')
      have e1:a * a * (a' * a')=a * a' * (a * a'):=by simp only [Int.mul_assoc,Int.mul_left_comm]
      have e2:d * b * b * (d * b' * b')=(d * b * b') * (d * b * b'):=by simp only [Int.mul_assoc,Int.mul_left_comm]
      rw [e1,e2] at k
      have:=(xS (Int.mul_pos (Int.mul_pos (by omega) sb) sb') k).1
      unfold sg
      rw [if_pos (by omega)]
    · rw [yo] at h2; omega
  · rw [yo] at h1; omega
theorem sgn_tri {d:Int} (h:Rt d) (a b:Int):sgn d a b=1 ∨ sgn d a b=-1 ∨ (a=0∧b=0):=by
  rcases nrm_tri (a:=a) (b:=b) h with q | q | q
  · have ha:a ≠ 0:=fun z=>by
      subst z
      unfold nrm at q
      have:=u4 h.lo b
      omega
    rw [yQ h q]
    rcases sg_cases a with ⟨_,e⟩ | ⟨_,e⟩ | ⟨e,_⟩
    · exact .inl e
    · exact .inr (.inl e)
    · exact absurd e ha
  · have hb:b ≠ 0:=fun z=>by
      subst z
      unfold nrm at q
      rw [Int.mul_zero] at q
      have:=AR a
      omega
    rw [yp h q]
    rcases sg_cases b with ⟨_,e⟩ | ⟨_,e⟩ | ⟨e,_⟩
    · exact .inl e
    · exact .inr (.inl e)
    · exact absurd e hb
  · exact .inr (.inr q)
theorem Aw {d a b a' b':Int} (h:Rt d):sgn d (a * a' + d * b * b') (a * b' + b * a')=sgn d a b * sgn d a' b':=by
  have neg1:∀ a b,sgn d a b=-1→sgn d (-a) (-b)=1:=fun a b e=>by rw [xX h,e]; rfl
  rcases sgn_tri h a b with p | p | ⟨rfl,rfl⟩
  · rcases sgn_tri h a' b' with q | q | ⟨rfl,rfl⟩
    · rw [t5 h p q,p,q]; rfl
    · have:=t5 h p (neg1 _ _ q)
      have e1:a * -a' + d * b * -b'=-(a * a' + d * b * b'):=by rw [Int.mul_neg,Int.mul_neg,Int.neg_add]
      have e2:a * -b' + b * -a'=-(a * b' + b * a'):=by rw [Int.mul_neg,Int.mul_neg,Int.neg_add]
      rw [e1,e2,xX h] at this
      rw [p,q]; omega
    · simp [yo]
  · rcases sgn_tri h a' b' with q | q | ⟨rfl,rfl⟩
    · have:=t5 h (neg1 _ _ p) q
      have e1:-a * a' + d * -b * b'=-(a * a' + d * b * b'):=by rw [Int.neg_mul,Int.mul_neg,Int.neg_mul,Int.neg_add]
      have e2:-a * b' + -b * a'=-(a * b' + b * a'):=by rw [Int.neg_mul,Int.neg_mul,Int.neg_add]
      rw [e1,e2,xX h] at this
      rw [p,q]; omega
    · have:=t5 h (neg1 _ _ p) (neg1 _ _ q)
      have e1:-a * -a' + d * -b * -b'=a * a' + d * b * b':=by rw [Int.neg_mul_neg,Int.mul_assoc d,Int.neg_mul_neg,← Int.mul_assoc]
      have e2:-a * -b' + -b * -a'=a * b' + b * a':=by rw [Int.neg_mul_neg,Int.neg_mul_neg]
      rw [e1,e2] at this
      rw [this,p,q]; rfl
    · simp [yo]
  · simp [yo]
end Bg
namespace Bg
theorem tZ {d a b:Int} (h:0 ≤ a) (k:0 ≤ b):sgn d a b=if 0 < a + b then 1 else 0:=by unfold sgn; rw [if_pos ⟨h,k⟩]
theorem DQ {d a b:Int} (n:¬ (0 ≤ a∧0 ≤ b)) (h:a ≤ 0) (k:b ≤ 0):sgn d a b=-1:=by unfold sgn; rw [if_neg n,if_pos ⟨h,k⟩]
theorem Bu {d a b:Int} (h:0 < a) (k:b < 0):sgn d a b=if d * b * b < a * a then 1 else -1:=by unfold sgn; rw [if_neg (by omega),if_neg (by omega),if_pos h]
theorem BU {d a b:Int} (h:a < 0) (k:0 < b):sgn d a b=if a * a < d * b * b then 1 else -1:=by unfold sgn; rw [if_neg (by omega),if_neg (by omega),if_neg (by omega)]
end Bg
namespace L2
open PySem PySem.Spec PyProof.Rows Bg
theorem xC (env:Env):∀ (names:List (Str × NameKind)) (acc:List (Str × Addr)),(∀ y ∈ names,y.2=.free→∃ c,env.cells.lookup y.1=some c)→(∀ x c,acc.lookup x=some c→env.cells.lookup x=some c) →
    ∃ cl, (forIn names acc (fun (x : Str × NameKind) (r : List (Str × Addr)) => if (x.snd == NameKind.free) = true then do
                  let a ← cellOf env x.fst
                  pure (ForInStep.yield ((x.fst,a) :: r))
                else pure (ForInStep.yield r)):Sem (List (Str × Addr)))=pure cl∧(∀ x c,cl.lookup x=some c→env.cells.lookup x=some c) ∧
      ∀ x,((∃ c,acc.lookup x=some c) ∨ ∃ y ∈ names,y.1=x∧y.2=.free)→∃ c,cl.lookup x=some c
  | [],acc,_,ha=>⟨acc,rfl,ha,fun x h=>by
      rcases h with h | ⟨y,hy,_⟩
      · exact h
      · simp at hy⟩
  | y :: r,acc,hn,ha=>by
    by_cases hf:y.2=.free
    · obtain ⟨c,hc⟩:=hn y List.mem_cons_self hf
      obtain ⟨cl,e,h1,h2⟩:=xC env r ((y.1,c) :: acc) (fun z hz=>hn z (List.mem_cons_of_mem _ hz)) (fun x d hx=>by
        rw [List.lookup_cons] at hx
        split at hx
        · rename_i q
          have q':x=y.1:=by simpa using q
          rw [q',hc]; exact hx
        · exact ha x d hx)
      refine ⟨cl,?_,h1,fun x h=>h2 x ?_⟩
      · rw [List.forIn_cons,if_pos (by rw [hf]; rfl)]
        unfold cellOf
        rw [hc]
        exact e
      · by_cases q:x=y.1
        · exact .inl ⟨c,by rw [List.lookup_cons,q]; simp⟩
        · rcases h with ⟨d,hd⟩ | ⟨z,hz,e1,e2⟩
          · exact .inl ⟨d,by
              rw [List.lookup_cons]
              have:(x == y.1)=false:=by simpa using q
              rw [this]; exact hd⟩
          · rcases List.mem_cons.mp hz with e3 | e3
            · subst e3; exact absurd e1.symm q
            · exact .inr ⟨z,e3,e1,e2⟩
    · obtain ⟨cl,e,h1,h2⟩:=xC env r acc (fun z hz=>hn z (List.mem_cons_of_mem _ hz)) ha
      refine ⟨cl,?_,h1,fun x h=>h2 x ?_⟩
      · rw [List.forIn_cons,if_neg (by simpa using hf)]
        exact e
      · rcases h with h | ⟨z,hz,e1,e2⟩
        · exact .inl h
        · rcases List.mem_cons.mp hz with e3 | e3
          · subst e3; exact absurd e2 hf
          · exact .inr ⟨z,e3,e1,e2⟩
theorem AV {scope:Scope} {env:Env} (h:∀ y ∈ scope.names,y.2=.free→∃ c,env.cells.lookup y.1=some c) :
    ∃ cl,closureFor scope env=pure cl∧(∀ x c,cl.lookup x=some c→env.cells.lookup x=some c)∧∀ y ∈ scope.names,y.2=.free→∃ c,cl.lookup y.1=some c:=by
  obtain ⟨cl,e,h1,h2⟩:=xC env scope.names [] h (fun x c q=>by simp at q)
  refine ⟨cl,?_,h1,fun y hy hf=>h2 y.1 (.inr ⟨y,hy,rfl,hf⟩)⟩
  exact congrArg (fun z:Sem (List (Str × Addr))=>z >>= fun cs=>pure cs) e
section
variable {prog:Program} {w:World} {A:Around} {R:Result→Shared→Prop} {s:Shared}
abbrev NoX:Value→Shared→Prop:=fun _ _=>False
theorem xB {elt target iter:Expr} {ifs:List Expr} {scope:Scope} {pos:Pos} {it acc:Value} {env:Env} (I:Nat→Shared→Prop)
    (turn:∀ n s,I n s→wpAny (model prog w) A (pyNext it) (fun r s₁=>match r with
      | none=>R (.ok .next) s₁
      | some v=>wpAny (model prog w) A (letOwnedTupleGo target it v) (fun _ s₁'=>wpAny (model prog w) A (assign target env v) (fun _ s₂ =>
          wpAny (model prog w) A (forIn ifs true fun c r=>if r=true then do let ok ← isTrue c env (eval c env); pure (ForInStep.yield ok) else pure (ForInStep.yield r)) (fun ok s₃ =>
            if ok=true then wpAny (model prog w) A (eval elt env) (fun x s₄ =>
              wpAny (model prog w) A (call (.builtin "list.append") [acc,x]) (fun _ s₅=>∃ m,m < n∧I m s₅) NoX s₄) NoX s₃
            else ∃ m,m < n∧I m s₃) NoX s₂) NoX s₁') NoX s₁) NoX s)
    (n:Nat) (h:I n s) :
    codeAny (model prog w) A (.compLoop (.ListComp elt [⟨target,iter,ifs,0⟩] scope pos) 0 it acc env) R s:=by
  refine codeAny_loop rfl I (fun n s hI=>?_) n h
  show wpAny _ A ((compTurn (.ListComp elt [⟨target,iter,ifs,0⟩] scope pos) 0 it acc env).onRaise (fun x=>do noteFrame x env; theTreesLotGoes x)) _ _ s
  refine wpAny_noted ?_
  rw [compTurn_list]
  refine wpAny_bind (wpAny_standAt (wpAny_bind (wpAny_mono (turn n s hI) (fun r s₁ h₁=>?_) fun _ _ h'=>h'.elim)))
  cases r with
  | none=>exact wpAny_pure h₁
  | some v =>
    refine wpAny_bind (wpAny_mono h₁ (fun _ s₁' h₁'=>?_) fun _ _ h'=>h'.elim)
    refine wpAny_bind (wpAny_mono h₁' (fun _ s₂ h₂=>wpAny_bind (wpAny_mono h₂ (fun ok s₃ h₃=>?_) fun _ _ h'=>h'.elim)) fun _ _ h'=>h'.elim)
    cases ok with
    | false=>exact wpAny_pure ⟨rfl,h₃⟩
    | true =>
      exact wpAny_bind (wpAny_bind (wpAny_mono h₃ (fun x s₄ h₄=>wpAny_bind (wpAny_mono h₄ (fun _ s₅ h₅=>wpAny_pure (wpAny_pure ⟨rfl,h₅⟩)) fun _ _ h'=>h'.elim)) fun _ _ h'=>h'.elim))
end
end L2
namespace L2
open PySem PySem.Spec PyProof.Rows Bg
theorem yA {env:Env} (hk:env.scope.kind=.function):∀ {names:List (Str × NameKind)} {x:Str},names.lookup x=some .free→env.kindOf x=some .cell →
    (names.map fun (n,k)=>if (k == NameKind.free && env.scope.kind == .function && env.kindOf n == some .cell) then (n,NameKind.cell) else (n,k)).lookup x=some .cell
  | [],_,h,_=>by simp at h
  | (n,k) :: r,x,h,he=>by
    have ih:=@yA env hk r x
    show List.lookup x ((if (k == NameKind.free && env.scope.kind == .function && env.kindOf n == some .cell)=true then (n,NameKind.cell) else (n,k)) :: _)=_
    cases hx:x == n with
    | true =>
      simp only [List.lookup_cons,hx] at h
      cases h
      have hxn:x=n:=by simpa using hx
      subst hxn
      have hc:(NameKind.free == NameKind.free && env.scope.kind == .function && env.kindOf x == some .cell)=true:=by rw [hk,he]; rfl
      rw [if_pos hc]
      simp [List.lookup_cons]
    | false =>
      simp only [List.lookup_cons,hx] at h
      by_cases hc:(k == NameKind.free && env.scope.kind == .function && env.kindOf n == some .cell)=true
      · rw [if_pos hc]; simp only [List.lookup_cons,hx]; exact ih h he
      · rw [if_neg hc]; simp only [List.lookup_cons,hx]; exact ih h he
theorem vp {env:Env}:∀ {names:List (Str × NameKind)} {x:Str} {k:NameKind},(∀ y ∈ names,y.2 ≠ .cell)→(k=.cell ∨ k=.free) →
    (names.map fun (n,k)=>if (k == NameKind.free && env.scope.kind == .function && env.kindOf n == some .cell) then (n,NameKind.cell) else (n,k)).lookup x=some k→∃ y ∈ names,y.1=x∧y.2=.free
  | [],_,_,_,_,h=>by simp at h
  | (n,k) :: r,x,k',hn,hk,h=>by
    have h':List.lookup x ((if (k == NameKind.free && env.scope.kind == .function && env.kindOf n == some .cell)=true then (n,NameKind.cell) else (n,k)) :: _)=some k':=h
    have ih:=@vp env r x k' (fun y hy=>hn y (List.mem_cons_of_mem _ hy)) hk
    have kn:k ≠ .cell:=hn (n,k) List.mem_cons_self
    by_cases hc:(k == NameKind.free && env.scope.kind == .function && env.kindOf n == some .cell)=true
    · rw [if_pos hc,List.lookup_cons] at h'
      have kf:k=.free:=by
        rw [Bool.and_eq_true,Bool.and_eq_true] at hc
        simpa using hc.1.1
      cases hx:x == n with
      | true =>
        have hxn:x=n:=by simpa using hx
        exact ⟨(n,k),List.mem_cons_self,hxn.symm,kf⟩
      | false =>
        rw [hx] at h'
        obtain ⟨y,hy,q⟩:=ih h'
        exact ⟨y,List.mem_cons_of_mem _ hy,q⟩
    · rw [if_neg hc,List.lookup_cons] at h'
      cases hx:x == n with
      | true =>
        have hxn:x=n:=by simpa using hx
        rw [hx] at h'
        have e:k=k':=Option.some.inj h'
        refine ⟨(n,k),List.mem_cons_self,hxn.symm,?_⟩
        rcases hk with q | q
        · exact absurd (e.trans q) kn
        · exact e.trans q
      | false =>
        rw [hx] at h'
        obtain ⟨y,hy,q⟩:=ih h'
        exact ⟨y,List.mem_cons_of_mem _ hy,q⟩
theorem tS {scope:Scope} {ns:List (Str × NameKind)} (h:(scope.names.all fun y=>y.2 != .free || ns.lookup y.1 == some .cell)=true):∀ y ∈ scope.names,y.2=.free→ns.lookup y.1=some .cell:=fun y hy hf=>by
  have:=List.all_eq_true.mp h y hy
  rw [hf] at this
  simpa using this
theorem Ei {scope:Scope} {ns:List (Str × NameKind)} {N:List Str} {js:List Nat} (h:(js.all fun j=>scope.names.lookup (N.getD j Str.empty) == some .free && ns.lookup (N.getD j Str.empty) == some .cell)=true):∀ j ∈ js,scope.names.lookup (N.getD j Str.empty)=some .free∧ns.lookup (N.getD j Str.empty)=some .cell:=fun j hj=>by
  have:=List.all_eq_true.mp h j hj
  rw [Bool.and_eq_true] at this
  exact ⟨eq_of_beq this.1,eq_of_beq this.2⟩
theorem u7 {scope:Scope} (h:(scope.names.all fun y=>y.2 != .cell)=true):∀ y ∈ scope.names,y.2 ≠ .cell:=fun y hy=>by
  have:=List.all_eq_true.mp h y hy
  simpa using this
theorem vC {scope:Scope} (h:(scope.names.all fun y=>y.2 != .local || scope.names.lookup y.1 == some .local)=true):∀ y ∈ scope.names,y.2=.local→scope.names.lookup y.1=some .local:=fun y hy hf=>by
  have:=List.all_eq_true.mp h y hy
  rw [hf] at this
  simpa using this
def vn (n:Nat) (js:List Nat) (σ:St):St:=List.replicate n none ++ js.map fun j=>(σ[j]?).join
def z5 (X:Cx) (scope:Scope) (cl:List (Str × Addr)) (own:List Str) (js:List Nat) (fp:List Addr) (C:Addr) (s3:Shared) (H3:Hp):Cx :=
  { X with N:=own ++ js.map (fun j=>X.N.getD j Str.empty),s₀:=s3,H₀:=H3,env:=compEnvC scope cl C X.env,outer:=X.stack,ex:=fp,fn:=fun _=>false,pn:=[],xe:=fun _ _=>False }
def PIfs (X:Cx) (ifs:List Expr) (t:TT):Prop:=∀ (pins:List (Addr × Obj)) (s:Shared) (σ:St) (H:Hp) (Q:Bool→Hp→Prop),Inv X pins σ H s→t σ H Q →
  wpAny (model X.prog X.w) X.A (forIn ifs true fun c r=>if r=true then do let ok ← isTrue c X.env (eval c X.env); pure (ForInStep.yield ok) else pure (ForInStep.yield r)) (TP X pins σ Q) X.xe s
def tAll:TT:=fun _ H B=>B true H
theorem zR {X:Cx}:PIfs X [] tAll:=fun _ _ _ H _ I h=>wpAny_tests_nil ⟨H,I,h⟩
theorem vY {X:Cx} {c:Expr} {t:TT} (h:PT X c t):PIfs X [c] t:=fun pins s σ H Q I q=>wpAny_tests_one (h pins s σ H Q I q)
def ui (wi:TI) (g:TG) (tc:TT) (te:TE) (n:Nat) (js:List Nat):TE:=fun σ H Q=>wi σ H fun J H1=>∀ D,H1 D=none→∃ W:Nat→Nat→St→Hp→Prop,(∃ m,W 0 m (vn n js σ) (upd H1 D (.lst []))) ∧
  ∀ i m σ' H',W i m σ' H'→(J.stop i H'∧Q (.ref D) H') ∨ (J.go i H'∧∀ x H2,J.yld i H' x H2→g x σ' H2 fun σ3 H3=>tc σ3 H3 fun b H4 =>
    if b=true then te σ3 H4 fun v H5=>z9 (.ref D) [v] H5 fun _ H6=>∃ m',m' < m∧W (i + 1) m' σ3 H6 else ∃ m',m' < m∧W (i + 1) m' σ3 H4)
section
variable {X:Cx} {pins:List (Addr × Obj)} {σ:St} {H:Hp} {s:Shared} {scope:Scope} {cl:List (Str × Addr)} {own:List Str} {js:List Nat} {fp:List Addr}
theorem Ca (I:Inv X pins σ H s) (hkind:scope.kind=.function) (hcell:∀ y ∈ scope.names,y.2 ≠ .cell) (cl1:∀ x c,cl.lookup x=some c→X.env.cells.lookup x=some c) (cl2:∀ y ∈ scope.names,y.2=.free→∃ c,cl.lookup y.1=some c)
    (hf:∀ b ∈ fp,FpOk X pins H b) (hl:∀ b ∈ fp,b < s.heap.objs.size):(z5 X scope cl own js fp s.heap.objs.size s H).Ok:=by
  have hno:∀ b o,X.base.get? b=some o→b ∉ fp:=fun b o e hb=>by
    rcases (hf b hb).2.2.2.1 with z | z
    · exact I.ok.noex b o e z
    · exact absurd (Nat.lt_of_lt_of_le (Heap.lt_size e) (Nat.le_trans I.ok.bsz z)) (Nat.lt_irrefl _)
  have hex:∀ b ∈ fp,b ∉ frs X.stack:=fun b hb z=>by
    rcases List.mem_cons.mp (I.stkSub b z) with e | e
    · exact (hf b hb).2.1 e
    · exact (hf b hb).2.2.1 e
  exact ⟨I.ok.mod,hkind,I.ok.glob,I.ok.blt,Nat.le_refl _,fun x y c h1 h2=>I.ok.inj x y c (cl1 x c h1) (cl1 y c h2),
    fun x hx=>by
      have hx':(∃ k,(k=NameKind.cell ∨ k=.free)∧(relabel scope X.env).names.lookup x=some k):=by
        rcases hx with z | z
        · exact ⟨_,.inl rfl,z⟩
        · exact ⟨_,.inr rfl,z⟩
      obtain ⟨k,hk,z⟩:=hx'
      obtain ⟨y,hy,e1,e2⟩:=vp hcell hk z
      obtain ⟨c,hc⟩:=cl2 y hy e2
      exact ⟨c,by rw [← e1]; exact hc⟩,
    fun x c h _=>absurd h (by show ¬ (false=true); decide),I.ok.hd,I.ok.frames,.inl rfl,
    fun b hb=>⟨Nat.ne_of_lt (hl b hb),fun x c e=>(hf b hb).2.2.2.2.1 x c (cl1 x c e)⟩,
    I.bs,Nat.le_trans I.ok.bsz I.sz,hno,hex,I.stack,I.stkFree⟩
theorem C1 {h₁:Heap} {m:Str→Option Value} {t':Nat} (I:Inv X pins σ H s) (hkind:scope.kind=.function) (hcell:∀ y ∈ scope.names,y.2 ≠ .cell) (cl1:∀ x c,cl.lookup x=some c→X.env.cells.lookup x=some c) (cl2:∀ y ∈ scope.names,y.2=.free→∃ c,cl.lookup y.1=some c)
    (hjs:∀ j ∈ js,scope.names.lookup (X.N.getD j Str.empty)=some .free∧X.env.scope.names.lookup (X.N.getD j Str.empty)=some .cell)
    (hf:∀ b ∈ fp,FpOk X pins H b) (hl:∀ b ∈ fp,b < s.heap.objs.size) (hn:h₁.Ns s.heap.objs.size m) (k:∀ b o,s.heap.get? b=some o→h₁.get? b=some o) :
    Inv (z5 X scope cl own js fp s.heap.objs.size s H) [] (vn own.length js σ) H { s with heap:=h₁,toks:=t' }:=by
  refine ⟨Ca I hkind hcell cl1 cl2 hf hl,rfl,I.bare,Un.kept k,⟨m,hn,fun i x v h1 h2 h3=>?_⟩,fun x c e=>?_,I.hok.fresh (Nat.le_refl _),fun x c e=>I.freeC x c (cl1 x c e),fun p hp=>absurd (show p ∈ ([]:List (Addr × Obj)) from hp) (by simp),I.hok.kept k,?_⟩
  · have hi:own.length ≤ i:=by
      unfold vn at h2
      by_cases z:i < own.length
      · rw [List.getElem?_append_left (by simpa using z),List.getElem?_replicate,if_pos z] at h2
        cases h2
      · omega
    unfold vn at h2
    rw [List.getElem?_append_right (by simpa using hi),List.length_replicate,List.getElem?_map] at h2
    have h1':(own ++ js.map (fun j=>X.N.getD j Str.empty))[i]?=some x:=h1
    rw [List.getElem?_append_right hi,List.getElem?_map] at h1'
    cases ej:js[i - own.length]? with
    | none=>rw [ej] at h2; cases h2
    | some j =>
      rw [ej] at h2 h1'
      have ex:X.N.getD j Str.empty=x:=Option.some.inj h1'
      have ev:(σ[j]?).join=some v:=Option.some.inj h2
      have ev':σ[j]?=some (some v):=by
        cases q:σ[j]? with
        | none=>rw [q] at ev; cases ev
        | some z=>rw [q] at ev; rw [show z=some v from ev]
      have hjl:j < X.N.length:=by
        rw [← I.len]
        exact (List.getElem?_eq_some_iff.mp ev').1
      have eN:X.N[j]?=some x:=by
        rw [← ex,List.getD_eq_getElem?_getD,List.getElem?_eq_getElem hjl]
        rfl
      obtain ⟨f1,f2⟩:=hjs j (List.mem_of_getElem? ej)
      rw [ex] at f1 f2
      obtain ⟨mm,hnn,hll⟩:=I.loc
      obtain ⟨u,r,lk⟩:=hll j x v eN ev' (.inr (.inl f2))
      refine ⟨u,r,?_⟩
      rcases lk with ⟨q,_⟩ | ⟨_,c,e,ic⟩
      · rw [show X.env.kindOf x=some .cell from f2] at q; cases q
      · obtain ⟨y,hy,e1,e2⟩:∃ y ∈ scope.names,y.1=x∧y.2=.free:=⟨_,PySem.mem_of_lookup f1,rfl,rfl⟩
        obtain ⟨c',hc'⟩:=cl2 y hy e2
        rw [e1] at hc'
        have:c'=c:=by
          have:=cl1 x c' hc'
          rw [e] at this
          exact (Option.some.inj this).symm
        subst this
        obtain ⟨o,ho,hd⟩:=ic
        exact .inr ⟨.inl (yA I.ok.kind f1 f2),c',hc',⟨o,k _ _ ho,hd⟩⟩
  · obtain ⟨v,o,ho,hd⟩:=I.cell x c (cl1 x c e)
    exact ⟨v,o,k _ _ ho,hd⟩
  · show _=(own ++ js.map _).length
    unfold vn
    simp
theorem wI {H':Hp} {σ':St} {s':Shared} {h':Heap} (I:Inv X pins σ H s) (hf:∀ b ∈ fp,FpOk X pins H b) (I':Inv (z5 X scope cl own js fp s.heap.objs.size s H) [] σ' H' s') (sb:Heap.SameBut s.heap.objs.size s'.heap h'):Inv X pins σ H' { s' with heap:=h' }:=by
  have u:=I'.base
  have ne:∀ b o,s.heap.get? b=some o→b ≠ s.heap.objs.size:=fun b o e=>Nat.ne_of_lt (Heap.lt_size e)
  refine I.call' (ch:=fp) I'.os ⟨fun b o e n hb hx=>?_,fun b o e n hb hx=>?_,u.free,fun b o e hx=>?_,u.tups,u.frzs,u.tbls⟩ (fun b o e=>?_) I'.bare fun b hb=>⟨(hf b hb).2.2.2.1,(hf b hb).2.1,(hf b hb).2.2.2.2.1,(hf b hb).2.2.2.2.2⟩
  · exact (sb.2 b (ne b o e)).trans (u.keep b o e n hb hx)
  · obtain ⟨sl,z⟩:=u.slot b o e n hb hx
    exact ⟨sl,(sb.2 b (ne b o e)).trans z⟩
  · obtain ⟨o',z⟩:=u.there b o e hx
    exact ⟨o',(sb.2 b (ne b o e)).trans z⟩
  · have hfr:H' s.heap.objs.size=none:=I'.free
    refine (I'.hok b o e).stay (fun c v hc q=>(sb.2 c ?_).trans q) (fun _ q=>q) fun _ _ q=>q
    rintro rfl
    rcases hc with rfl | hc
    · rw [hfr] at e; cases e
    · rw [hfr] at hc; cases hc
end
theorem v6 {X:Cx} {use:Option (Value→Sem Unit)} {R:Value→Shared→Prop} {pins:List (Addr × Obj)} {σ:St} {H:Hp} {s:Shared} {Q:VK} {elt iter tgt:Expr} {ifs:List Expr} {scope:Scope} {pos:Pos} {wi:TI} {g:TG} {tc:TT} {te:TE} (own:List Str) (js:List Nat)
    (hc:X.calm=true) (hi:PI X tgt iter wi)
    (hg:∀ cl fp C s3 H3,PG (z5 X scope cl own js fp C s3 H3) tgt g) (ht:∀ cl fp C s3 H3,PIfs (z5 X scope cl own js fp C s3 H3) ifs tc) (he:∀ cl fp C s3 H3,PE (z5 X scope cl own js fp C s3 H3) elt te)
    (hfree:∀ y ∈ scope.names,y.2=.free→X.env.scope.names.lookup y.1=some .cell)
    (hjs:∀ j ∈ js,scope.names.lookup (X.N.getD j Str.empty)=some .free∧X.env.scope.names.lookup (X.N.getD j Str.empty)=some .cell)
    (hcell:∀ y ∈ scope.names,y.2 ≠ .cell) (hnames:∀ y ∈ scope.names,y.2=.local→scope.names.lookup y.1=some .local)
    (hkind:scope.kind=.function) (hs:∀ x,foldedSetIterable iter X.env x=pure x)
    (I:Inv X pins σ H s) (h:ui wi g tc te own.length js σ H Q)
    (hend:∀ (D:Addr) (H3 H5:Hp) (σ5:St) (s3 s6:Shared) (fp:List Addr) (cl:List (Str × Addr)),Inv X pins σ H3 s3→(∀ b ∈ fp,FpOk X pins H3 b)→Inv (z5 X scope cl own js fp s3.heap.objs.size s3 H3) [] σ5 H5 s6→Q (.ref D) H5 →
      compPost (model X.prog X.w) X.A X.xe use R (.ref D) s3.heap.objs.size (.ok .next) s6) :
    wpAny (model X.prog X.w) X.A (comprehension (.ListComp elt [⟨tgt,iter,ifs,0⟩] scope pos) scope X.env (firstIterPos [⟨tgt,iter,ifs,0⟩] pos) (newList []) false (eval iter X.env) use) R X.xe s:=by
  have hk:=I.ok.kind
  obtain ⟨cl,hcl,cl1,cl2⟩:=AV (scope:=scope) (env:=X.env) fun y hy hf=>I.ok.has y.1 (.inl (hfree y hy hf))
  refine wpAny_comprehension_free rfl hs hcl hkind hnames (thn (hi pins s σ H _ I h) fun v s1 h1=>thn h1 fun itv s2 h2=>?_)
  obtain ⟨it,fp,tn,J,H2,e,I2,T,st2,f2,q2⟩:=h2
  subst e
  obtain ⟨W,⟨m0,w0⟩,turn⟩:=q2 s2.heap.objs.size I2.fresh
  have I3:=I2.lnew (ys:=[]) (its:=[]) (t':=s2.toks) .nil (Nat.zero_le _)
  refine wpAny_newObj_type (wpAny_newFunctionEnv hcell (by intro y hy; simp at hy) (fun h₁ hns₁ hsb₁=>?_) hkind)
  have hl3:∀ b ∈ fp,b < (s2.heap.push ({ cls:=.type "list",data:=.seq ([]:List Value).toArray }:Obj)).objs.size:=fun b hb=>by
    obtain ⟨o,e,_⟩:=T.obj _ _ st2 b hb
    rw [Heap.size_push]
    exact Nat.lt_succ_of_lt (Heap.lt_size e)
  have f3:∀ b ∈ fp,FpOk X pins (upd H2 s2.heap.objs.size (.lst [])) b:=fun b hb=>by
    obtain ⟨o,e,_⟩:=T.obj _ _ st2 b hb
    refine ⟨?_,(f2 b hb).2⟩
    rw [zt (Nat.ne_of_lt (Heap.lt_size e))]
    exact (f2 b hb).1
  have I4:=C1 (own:=own) (js:=js) (h₁:=h₁) (t':=s2.toks + ([]:List (Str × Value)).length) I3 hkind hcell cl1 cl2 hjs f3 hl3 hns₁ (fun b o e=>(hsb₁.2 b (Nat.ne_of_lt (Heap.lt_size e))).trans (Heap.get?_push_of_some _ e))
  have st4:tn 0 h₁:=T.keep _ _ _ st2 fun b hb o e=>(hsb₁.2 b (Nat.ne_of_lt (hl3 b hb))).trans (Heap.get?_push_of_some _ (Heap.get?_push_of_some _ e))
  have loop:codeAny (model X.prog X.w) X.A (.compLoop (.ListComp elt [⟨tgt,iter,ifs,0⟩] scope pos) 0 (.ref it) (.ref s2.heap.objs.size) (compEnvC scope cl (s2.heap.push ({ cls:=.type "list",data:=.seq ([]:List Value).toArray }:Obj)).objs.size X.env))
      (compPost (model X.prog X.w) X.A X.xe use R (.ref s2.heap.objs.size) (s2.heap.push ({ cls:=.type "list",data:=.seq ([]:List Value).toArray }:Obj)).objs.size) { s2 with heap:=h₁,toks:=s2.toks + ([]:List (Str × Value)).length }:=by
    refine xB (fun n s'=>∃ i σ' H',Inv (z5 X scope cl own js fp _ _ _) [] σ' H' s'∧tn i s'.heap∧(∀ b ∈ fp,H' b=none)∧W i n σ' H') ?_ m0 ⟨0,_,_,I4,st4,fun b hb=>(f3 b hb).1,w0⟩
    rintro n s5 ⟨i,σ5,H5,I5,st5,fr5,w5⟩
    have stat:∀ {H':Hp},(∀ b ∈ fp,H' b=none)→∀ b ∈ fp,FpOk (z5 X scope cl own js fp _ _ _) [] H' b:=fun hn b hb =>
      ⟨hn b hb,(I4.ok.exf b hb).1,I4.ok.exfs b hb,.inl hb,(I4.ok.exf b hb).2,fun p hp=>absurd (show p ∈ ([]:List (Addr × Obj)) from hp) (by simp)⟩
    rcases turn i n σ5 H5 w5 with ⟨stop,qn⟩ | ⟨go,step⟩
    · refine thn (T.done (z5 X scope cl own js fp _ _ _) rfl rfl rfl hc i [] s5 σ5 H5 NoX I5 (stat fr5) st5 stop) fun r s6 ⟨hr,I6⟩=>?_
      subst hr
      exact hend _ _ _ _ _ _ _ _ I3 f3 I6 qn
    · refine thn (T.item (z5 X scope cl own js fp _ _ _) rfl rfl rfl hc i [] s5 σ5 H5 NoX I5 (stat fr5) st5 go) fun r s6 ⟨u,hr,h6⟩=>?_
      subst hr
      refine thn h6 fun _ s7 ⟨x,H7,I7,r7,y7,st7,fr7⟩=>?_
      have I7':=I7.pinned (stat fr7) (T.obj _ _ st7)
      refine thn (hg cl fp _ _ _ _ s7 σ5 H7 x u _ I7' r7 (step x H7 y7)) fun _ s8 ⟨σ8,H8,I8,q8⟩=>?_
      have again:∀ {C3:Addr} {s3:Shared} {H3:Hp} {σ9:St} {H9:Hp} {s9:Shared} {m':Nat},Inv (z5 X scope cl own js fp C3 s3 H3) ([] ++ uk fp s7.heap) σ9 H9 s9→m' < n→W (i + 1) m' σ9 H9→∃ m,m < n∧∃ i σ' H',Inv (z5 X scope cl own js fp C3 s3 H3) [] σ' H' s9∧tn i s9.heap∧(∀ b ∈ fp,H' b=none)∧W i m σ' H':=fun {C3 s3 H3 σ9 H9 s9 m'} I9 hm w9=>by
        refine ⟨m',hm,i + 1,σ9,H9,I9.unpinned,T.keep _ _ _ st7 fun b hb o e=>(I9.pin (b,o) (List.mem_append_right _ (List.mem_append_right _ (xo hb e)))).1,fun b hb=>?_,w9⟩
        obtain ⟨o,e,d⟩:=T.obj _ _ st7 b hb
        exact (I9.pin (b,o) (List.mem_append_right _ (List.mem_append_right _ (xo hb e)))).2.1
      refine thn (ht cl fp _ _ _ _ s8 σ8 H8 _ I8 q8) fun b s9 ⟨H9,I9,q9⟩=>?_
      cases b with
      | false =>
        rw [if_neg Bool.false_ne_true] at q9 ⊢
        obtain ⟨m',hm,w9⟩:=q9
        exact again I9 hm w9
      | true =>
        rw [if_pos rfl] at q9 ⊢
        refine thn (he cl fp _ _ _ _ s9 σ8 H9 _ I9 q9) fun y s10 ⟨v,H10,I10,r10,q10⟩=>?_
        exact thn (ym (X:=z5 X scope cl own js fp _ _ _) _ s10 σ8 H10 (.ref s2.heap.objs.size) [v] (.ref s2.heap.objs.size) [y] _ I10 rfl (.cons r10 .nil) q10) fun _ s11 ⟨_,H11,I11,_,m',hm,w11⟩=>again I11 hm w11
  exact codeAny_compStart_list loop (T.self _ 0 _ _ _ st4 loop)
theorem yi {X:Cx} {elt iter tgt:Expr} {ifs:List Expr} {scope:Scope} {pos:Pos} {wi:TI} {g:TG} {tc:TT} {te:TE} (own:List Str) (js:List Nat)
    (hc:X.calm=true) (hi:PI X tgt iter wi)
    (hg:∀ cl fp C s3 H3,PG (z5 X scope cl own js fp C s3 H3) tgt g) (ht:∀ cl fp C s3 H3,PIfs (z5 X scope cl own js fp C s3 H3) ifs tc) (he:∀ cl fp C s3 H3,PE (z5 X scope cl own js fp C s3 H3) elt te)
    (hfree':(scope.names.all fun y=>y.2 != .free || X.env.scope.names.lookup y.1 == some .cell)=true:=by rfl)
    (hjs':(js.all fun j=>scope.names.lookup (X.N.getD j Str.empty) == some .free && X.env.scope.names.lookup (X.N.getD j Str.empty) == some .cell)=true:=by rfl)
    (hcell':(scope.names.all fun y=>y.2 != .cell)=true:=by rfl) (hnames':(scope.names.all fun y=>y.2 != .local || scope.names.lookup y.1 == some .local)=true:=by rfl)
    (hkind:scope.kind=.function:=by rfl) (hs:∀ x,foldedSetIterable iter X.env x=pure x:=by intro _; rfl) :
    PE X (.ListComp elt [⟨tgt,iter,ifs,0⟩] scope pos) (ui wi g tc te own.length js):=by
  have hfree:∀ y ∈ scope.names,y.2=.free→X.env.scope.names.lookup y.1=some .cell:=tS hfree'
  have hjs:∀ j ∈ js,scope.names.lookup (X.N.getD j Str.empty)=some .free∧X.env.scope.names.lookup (X.N.getD j Str.empty)=some .cell:=Ei hjs'
  have hcell:∀ y ∈ scope.names,y.2 ≠ .cell:=u7 hcell'
  have hnames:∀ y ∈ scope.names,y.2=.local→scope.names.lookup y.1=some .local:=vC hnames'
  intro pins s σ H Q I h
  rw [eval_ListComp]
  refine v6 own js hc hi hg ht he hfree hjs hcell hnames hkind hs I h fun D H3 H5 σ5 s3 s6 fp cl I3 f3 I6 qn=>?_
  obtain ⟨m,hm,_⟩:=id I6.loc
  exact ⟨m,hm,fun h' sb=>⟨.ref D,H5,wI I3 f3 I6 sb,rfl,qn⟩⟩
theorem tK {X:Cx} {i:Nat} {x:Str} {spos px:Pos} {elt iter tgt:Expr} {ifs:List Expr} {scope:Scope} {pos:Pos} {wi:TI} {g:TG} {tc:TT} {te:TE} (hN:X.N.Nodup) (hiN:X.N[i]?=some x) (hx:X.env.scope.names.lookup x=some .local) (own:List Str) (js:List Nat)
    (hc:X.calm=true) (hi:PI X tgt iter wi)
    (hg:∀ cl fp C s3 H3,PG (z5 X scope cl own js fp C s3 H3) tgt g) (ht:∀ cl fp C s3 H3,PIfs (z5 X scope cl own js fp C s3 H3) ifs tc) (he:∀ cl fp C s3 H3,PE (z5 X scope cl own js fp C s3 H3) elt te)
    (hfree':(scope.names.all fun y=>y.2 != .free || X.env.scope.names.lookup y.1 == some .cell)=true:=by rfl)
    (hjs':(js.all fun j=>scope.names.lookup (X.N.getD j Str.empty) == some .free && X.env.scope.names.lookup (X.N.getD j Str.empty) == some .cell)=true:=by rfl)
    (hcell':(scope.names.all fun y=>y.2 != .cell)=true:=by rfl) (hnames':(scope.names.all fun y=>y.2 != .local || scope.names.lookup y.1 == some .local)=true:=by rfl)
    (hkind:scope.kind=.function:=by rfl) (hs:∀ x,foldedSetIterable iter X.env x=pure x:=by intro _; rfl)
    (hsw:swapsWith (.ListComp elt [⟨tgt,iter,ifs,0⟩] scope pos) (some (.Name x px)) spos.line X.env=pure true:=by rfl) :
    PS X (.Assign [.Name x px] (.ListComp elt [⟨tgt,iter,ifs,0⟩] scope pos) spos) (tAsg (ui wi g tc te own.length js) (CW i)):=by
  have hfree:∀ y ∈ scope.names,y.2=.free→X.env.scope.names.lookup y.1=some .cell:=tS hfree'
  have hjs:∀ j ∈ js,scope.names.lookup (X.N.getD j Str.empty)=some .free∧X.env.scope.names.lookup (X.N.getD j Str.empty)=some .cell:=Ei hjs'
  have hcell:∀ y ∈ scope.names,y.2 ≠ .cell:=u7 hcell'
  have hnames:∀ y ∈ scope.names,y.2=.local→scope.names.lookup y.1=some .local:=vC hnames'
  intro pins s σ H D I h
  rw [exec_Assign_Name_used _ _ _ _ hsw]
  refine wpAny_bind (wpAny_standAt (wpAny_bind ?_))
  show wpAny _ X.A (do let _ ← comprehension (.ListComp elt [⟨tgt,iter,ifs,0⟩] scope pos) scope X.env _ (newList []) false (eval iter X.env) (some (assign (.Name x px) X.env))) _ _ s
  refine wpAny_bind (thn (v6 (use:=some (assign (.Name x px) X.env)) (R:=fun _ s'=>SP X pins D .next s') own js hc hi hg ht he hfree hjs hcell hnames hkind hs I h fun D' H3 H5 σ5 s3 s6 fp cl I3 f3 I6 qn=>?_) fun _ s' hq=>wpAny_pure (wpAny_pure hq))
  have I7:Inv X pins σ H5 s6:=wI I3 f3 I6 (Heap.SameBut.refl ..)
  have hlt:X.env.locals < s3.heap.objs.size:=I3.lt
  have hcl:∀ y c,X.env.cells.lookup y=some c→c ≠ s3.heap.objs.size:=fun y c e z=>by
    obtain ⟨v,q⟩:=I3.cell y c e
    exact absurd q.lt (by rw [z]; exact Nat.lt_irrefl _)
  refine wpAny_assign_Name (ua I7 hN hiN (.inl hx) (v:=.ref D') (u:=.ref D') rfl (fun s7 I8 hch=>?_) (.inr hx))
  obtain ⟨m,hm,_⟩:=id I6.loc
  have hne:s3.heap.objs.size ≠ X.env.locals:=Nat.ne_of_gt hlt
  have hm7:s7.heap.Ns s3.heap.objs.size m:=by
    obtain ⟨a,sb,ha⟩:=hch
    refine Heap.Ns.sameBut hm sb ?_
    rcases ha with ha | ha
    · rw [ha]; exact hne
    · exact fun z=>hcl x a ha z.symm
  refine ⟨m,hm7,fun h' sb=>?_⟩
  refine ⟨_,H5,I8.turned (t':=s7.toks) (it:=s3.heap.objs.size) (fun b o hb e=>(sb.2 b hb).trans e) I6.free hne (.inr I3.sz) hcl (fun p hp z=>?_),qn⟩
  exact absurd (Heap.lt_size (I3.pin p hp).1) (by rw [z]; exact Nat.lt_irrefl _)
end L2
namespace L2
open PySem PySem.Spec PyProof.Rows Bg
def vQ (n:Nat) (Pv:Nat→List V→St→Hp→Prop) (i:Nat) (σ:St) (H:Hp):Prop:=∃ m',m' < n - i∧m'=n - (i + 1)∧i + 1 ≤ n∧∃ xs,Pv (i + 1) xs σ H
theorem yv {n:Nat} {Pv:Nat→List V→St→Hp→Prop} {i:Nat} {xs:List V} {σ:St} {H:Hp} (h:i < n) (p:Pv (i + 1) xs σ H):vQ n Pv i σ H:=⟨n - (i + 1),by omega,rfl,h,xs,p⟩
section
variable {g:TG} {tc:TT} {te:TE} {D:Addr} {H1:Hp} {σ0:St} {Q:VK}
theorem yW {R:Hp→Prop} {lo:Int} {n:Nat} (Pv:Nat→List V→St→Hp→Prop) (h0:Pv 0 [] σ0 (upd H1 D (.lst [])))
    (hs:∀ i xs σ H,i < n→Pv i xs σ H→g (.int (lo + i)) σ H fun σ3 H3=>tc σ3 H3 fun b H4=>if b=true then te σ3 H4 fun v H5=>z9 (.ref D) [v] H5 fun _ H6=>vQ n Pv i σ3 H6 else vQ n Pv i σ3 H4)
    (hd:∀ xs σ H,Pv n xs σ H→R H) :
    ∃ W:Nat→Nat→St→Hp→Prop,(∃ m,W 0 m σ0 (upd H1 D (.lst [])))∧∀ i m σ' H',W i m σ' H'→((Itr lo n).stop i H'∧R H') ∨ ((Itr lo n).go i H'∧∀ x H2,(Itr lo n).yld i H' x H2→g x σ' H2 fun σ3 H3=>tc σ3 H3 fun b H4 =>
      if b=true then te σ3 H4 fun v H5=>z9 (.ref D) [v] H5 fun _ H6=>∃ m',m' < m∧W (i + 1) m' σ3 H6 else ∃ m',m' < m∧W (i + 1) m' σ3 H4):=by
  refine ⟨fun i m σ H=>m=n - i∧i ≤ n∧∃ xs,Pv i xs σ H,⟨n,by simp,Nat.zero_le _,[],h0⟩,?_⟩
  rintro i m σ H ⟨rfl,hi,xs,p⟩
  by_cases hlt:i < n
  · refine .inr ⟨hlt,fun x H' y=>?_⟩
    obtain ⟨e,y⟩:=y
    subst e y
    exact hs i xs σ _ hlt p
  · have e:i=n:=by omega
    subst e
    exact .inl ⟨Nat.le_refl _,hd xs σ H p⟩
theorem z3 {R:Hp→Prop} {K:PySem.W.Frag} {a:Addr} {ys:List V} (Pv:Nat→List V→St→Hp→Prop) (h0:Pv 0 [] σ0 (upd H1 D (.lst [])))
    (hl:∀ i xs σ H,i ≤ ys.length→Pv i xs σ H→SqL K H a ys)
    (hs:∀ i x xs σ H,ys[i]?=some x→Pv i xs σ H→g x σ H fun σ3 H3=>tc σ3 H3 fun b H4=>if b=true then te σ3 H4 fun v H5=>z9 (.ref D) [v] H5 fun _ H6=>vQ ys.length Pv i σ3 H6 else vQ ys.length Pv i σ3 H4)
    (hd:∀ xs σ H,Pv ys.length xs σ H→R H) :
    ∃ W:Nat→Nat→St→Hp→Prop,(∃ m,W 0 m σ0 (upd H1 D (.lst [])))∧∀ i m σ' H',W i m σ' H'→((Itl K a).stop i H'∧R H') ∨ ((Itl K a).go i H'∧∀ x H2,(Itl K a).yld i H' x H2→g x σ' H2 fun σ3 H3=>tc σ3 H3 fun b H4 =>
      if b=true then te σ3 H4 fun v H5=>z9 (.ref D) [v] H5 fun _ H6=>∃ m',m' < m∧W (i + 1) m' σ3 H6 else ∃ m',m' < m∧W (i + 1) m' σ3 H4):=by
  refine ⟨fun i m σ H=>m=ys.length - i∧i ≤ ys.length∧∃ xs,Pv i xs σ H,⟨ys.length,by simp,Nat.zero_le _,[],h0⟩,?_⟩
  rintro i m σ H ⟨rfl,hi,xs,p⟩
  have q:=hl i xs σ H hi p
  by_cases hlt:i < ys.length
  · refine .inr ⟨⟨ys,ys[i],q,by simp [hlt]⟩,fun x H' y=>?_⟩
    obtain ⟨e,y⟩:=y
    subst e
    exact hs i x xs σ _ (y ys q) p
  · have e:i=ys.length:=by omega
    subst e
    exact .inl ⟨⟨ys,q,Nat.le_refl _⟩,hd xs σ H p⟩
theorem CI {R:Hp→Prop} {K:PySem.W.Frag} {a:Addr} {ys:List V} (Pv:Nat→List V→St→Hp→Prop) (h0:Pv 0 [] σ0 (upd H1 D (.lst [])))
    (hl:∀ i xs σ H,i ≤ ys.length→Pv i xs σ H→SqT K H a ys)
    (hs:∀ i x xs σ H,ys[i]?=some x→Pv i xs σ H→g x σ H fun σ3 H3=>tc σ3 H3 fun b H4=>if b=true then te σ3 H4 fun v H5=>z9 (.ref D) [v] H5 fun _ H6=>vQ ys.length Pv i σ3 H6 else vQ ys.length Pv i σ3 H4)
    (hd:∀ xs σ H,Pv ys.length xs σ H→R H) :
    ∃ W:Nat→Nat→St→Hp→Prop,(∃ m,W 0 m σ0 (upd H1 D (.lst [])))∧∀ i m σ' H',W i m σ' H'→((Itt K a).stop i H'∧R H') ∨ ((Itt K a).go i H'∧∀ x H2,(Itt K a).yld i H' x H2→g x σ' H2 fun σ3 H3=>tc σ3 H3 fun b H4 =>
      if b=true then te σ3 H4 fun v H5=>z9 (.ref D) [v] H5 fun _ H6=>∃ m',m' < m∧W (i + 1) m' σ3 H6 else ∃ m',m' < m∧W (i + 1) m' σ3 H4):=by
  refine ⟨fun i m σ H=>m=ys.length - i∧i ≤ ys.length∧∃ xs,Pv i xs σ H,⟨ys.length,by simp,Nat.zero_le _,[],h0⟩,?_⟩
  rintro i m σ H ⟨rfl,hi,xs,p⟩
  have q:=hl i xs σ H hi p
  by_cases hlt:i < ys.length
  · refine .inr ⟨⟨ys,ys[i],q,by simp [hlt]⟩,fun x H' y=>?_⟩
    obtain ⟨e,y⟩:=y
    subst e
    exact hs i x xs σ _ (y ys q) p
  · have e:i=ys.length:=by omega
    subst e
    exact .inl ⟨⟨ys,q,Nat.le_refl _⟩,hd xs σ H p⟩
theorem t9 {ta:TA} {σ:St} {H:Hp} {n:Nat} {js:List Nat} (h:ta σ H fun vs H1=>∃ i j:Int,vs=[.int i,.int j]∧(-(2 ^ 62) ≤ i∧i < 2 ^ 62∧-(2 ^ 62) ≤ j∧j < 2 ^ 62)∧∀ D,H1 D=none→∃ W:Nat→Nat→St→Hp→Prop,(∃ m,W 0 m (vn n js σ) (upd H1 D (.lst []))) ∧
  ∀ i_1 m σ' H',W i_1 m σ' H'→((Itr i (j - i).toNat).stop i_1 H'∧Q (.ref D) H') ∨ ((Itr i (j - i).toNat).go i_1 H'∧∀ x H2,(Itr i (j - i).toNat).yld i_1 H' x H2→g x σ' H2 fun σ3 H3=>tc σ3 H3 fun b H4 =>
    if b=true then te σ3 H4 fun v H5=>z9 (.ref D) [v] H5 fun _ H6=>∃ m',m' < m∧W (i_1 + 1) m' σ3 H6 else ∃ m',m' < m∧W (i_1 + 1) m' σ3 H4)):ui (Gv ta) g tc te n js σ H Q:=h
theorem vH {ta:TA} {σ:St} {H:Hp} {n:Nat} {js:List Nat} (h:ta σ H fun vs H1=>∃ j:Int,vs=[.int j]∧-(2 ^ 62) ≤ j∧j < 2 ^ 62∧∀ D,H1 D=none→∃ W:Nat→Nat→St→Hp→Prop,(∃ m,W 0 m (vn n js σ) (upd H1 D (.lst []))) ∧
  ∀ i m σ' H',W i m σ' H'→((Itr 0 j.toNat).stop i H'∧Q (.ref D) H') ∨ ((Itr 0 j.toNat).go i H'∧∀ x H2,(Itr 0 j.toNat).yld i H' x H2→g x σ' H2 fun σ3 H3=>tc σ3 H3 fun b H4 =>
    if b=true then te σ3 H4 fun v H5=>z9 (.ref D) [v] H5 fun _ H6=>∃ m',m' < m∧W (i + 1) m' σ3 H6 else ∃ m',m' < m∧W (i + 1) m' σ3 H4)):ui (EZ ta) g tc te n js σ H Q:=h
theorem yt {K:PySem.W.Frag} {tl:TE} {σ:St} {H:Hp} {n:Nat} {js:List Nat} (h:tl σ H fun x H1=>∃ a,x=.ref a∧(∃ xs,SqL K H1 a xs)∧∀ D,H1 D=none→∃ W:Nat→Nat→St→Hp→Prop,(∃ m,W 0 m (vn n js σ) (upd H1 D (.lst []))) ∧
  ∀ i m σ' H',W i m σ' H'→((Itl K a).stop i H'∧Q (.ref D) H') ∨ ((Itl K a).go i H'∧∀ x H2,(Itl K a).yld i H' x H2→g x σ' H2 fun σ3 H3=>tc σ3 H3 fun b H4 =>
    if b=true then te σ3 H4 fun v H5=>z9 (.ref D) [v] H5 fun _ H6=>∃ m',m' < m∧W (i + 1) m' σ3 H6 else ∃ m',m' < m∧W (i + 1) m' σ3 H4)):ui (Eo K tl) g tc te n js σ H Q:=h
theorem Ea {K:PySem.W.Frag} {tl:TE} {σ:St} {H:Hp} {n:Nat} {js:List Nat} (h:tl σ H fun x H1=>∃ a,x=.ref a∧(∃ xs,SqT K H1 a xs)∧∀ D,H1 D=none→∃ W:Nat→Nat→St→Hp→Prop,(∃ m,W 0 m (vn n js σ) (upd H1 D (.lst []))) ∧
  ∀ i m σ' H',W i m σ' H'→((Itt K a).stop i H'∧Q (.ref D) H') ∨ ((Itt K a).go i H'∧∀ x H2,(Itt K a).yld i H' x H2→g x σ' H2 fun σ3 H3=>tc σ3 H3 fun b H4 =>
    if b=true then te σ3 H4 fun v H5=>z9 (.ref D) [v] H5 fun _ H6=>∃ m',m' < m∧W (i + 1) m' σ3 H6 else ∃ m',m' < m∧W (i + 1) m' σ3 H4)):ui (iTup K tl) g tc te n js σ H Q:=h
theorem GG {B:Bool→Hp→Prop} {σ:St} {H:Hp} (h:B true H):tAll σ H B:=h
theorem Dq {K:PySem.W.Frag} {H:Hp} {p:Addr} {ys:List V} {x:V} (h:H p=some (.tup ys)) (fx:xb x=true) (fs:ys.all xb=true) (q:Q (.bl (!inV x ys)) H):rIn K true x (.ref p) H Q:=⟨p,ys,rfl,.inr (SqT.of h),fx,fs,q⟩
theorem GL {K:PySem.W.Frag} {H:Hp} {p:Addr} {ys:List V} {x:V} (h:H p=some (.lst ys)) (fx:xb x=true) (fs:ys.all xb=true) (q:Q (.bl (inV x ys)) H):rIn K false x (.ref p) H Q:=⟨p,ys,rfl,.inl (SqL.of h),fx,fs,q⟩
theorem GP {K:PySem.W.Frag} {H:Hp} {p:Addr} {ys:List V} {x:V} (h:H p=some (.tup ys)) (fx:xb x=true) (fs:ys.all xb=true) (q:Q (.bl (inV x ys)) H):rIn K false x (.ref p) H Q:=⟨p,ys,rfl,.inr (SqT.of h),fx,fs,q⟩
theorem Hl {K:PySem.W.Frag} {H:Hp} {p:Addr} {xs:List V} {i:Int} {v:V} (h:SqT K H p xs) (e:atI xs i=some v) (q:Q v H):rIxT K (.ref p) (.int i) H Q:=⟨p,xs,i,v,rfl,rfl,h,e,q⟩
theorem Fq {X:Cx} {H:Hp} {a b:Addr} {x y z x' y' z':Int} (ha:SqT X.K H a [.int x,.int y,.int z]) (hb:SqT X.K H b [.int x',.int y',.int z']) (q:Q (.bl (decide (x=x'∧y=y'∧z=z'))) H):rEqT X (.ref a) (.ref b) H Q:=by
  refine ⟨a,b,_,_,_,0,rfl,rfl,Nat.zero_le _,ha,hb,.cons (.int x x') (.cons (.int y y') (.cons (.int z z') .nil)),?_⟩
  have e:([x == x',y == y',z == z']:List Bool).all id=decide (x=x'∧y=y'∧z=z'):=by
    rw [Bool.eq_iff_iff]
    simp
  rw [e]
  exact q
end
section
variable {σ:St} {H:Hp} {K:PySem.W.Frag} {R:St→Hp→Prop}
theorem FF {n:Nat} {t:TGs} {a:Addr} {xs:List V} (h:H a=some (.tup xs)) (hn:xs.length=n) (q:t xs σ H R):gTup K n t (.ref a) σ H R:=⟨a,xs,rfl,SqT.of h,hn,q⟩
theorem Eu {t:TG} {u:TGs} {v:V} {r:List V} (q:t v σ H fun σ' H'=>u r σ' H' R):Fj t u (v :: r) σ H R:=⟨v,r,rfl,q⟩
theorem FD (q:R σ H):gNil [] σ H R:=⟨rfl,q⟩
end
def TopI (mg:Str→Option Value) (x:Str) (i:Int):Prop:=∃ u,mg x=some u∧RelV (.int i) u
def TopT (K:PySem.W.Frag) (mg:Str→Option Value) (x:Str) (xs:List V):Prop:=∃ a,mg x=some (.ref a)∧∀ H:Hp,SqT K H a xs
theorem topT_mk {K:PySem.W.Frag} {h:Heap} {mg:Str→Option Value} {x:Str} {a:Addr} {o:Obj} {its:Array Value} {n:Nat} {xs:List V} (X:K.In h) (G:h.Ns mainGlobals mg) (e:PySem.W.nsIn K mainGlobals x=some (some (.ref a)))
    (l:K.lookup a=some o) (c:o.cls=.type "tuple") (d:o.data=.seq its n) (z:its.size ≤ sizeLine) (v:Vals xs its.toList):TopT K mg x xs:=⟨a,PySem.W.mg_of X G e,fun _=>.inr ⟨o,its,n,l,c,d,z,v⟩⟩
theorem topI_mk {K:PySem.W.Frag} {h:Heap} {mg:Str→Option Value} {x:Str} {i:Int} {t:Tok} (X:K.In h) (G:h.Ns mainGlobals mg) (e:PySem.W.nsIn K mainGlobals x=some (some (.int i t))):TopI mg x i:=⟨_,PySem.W.mg_of X G e,⟨t,rfl⟩⟩
end L2
namespace L2
open PySem PySem.Spec PyProof.Rows Bg
theorem bl_q {Q:VK} {H:Hp} {x y:Bool} (e:x=y) (q:Q (.bl y) H):Q (.bl x) H:=by rw [e]; exact q
theorem A4 {Q:VK} {H:Hp} {x y:Int} (e:x=y) (q:Q (.int y) H):Q (.int x) H:=by rw [e]; exact q
def rIsN:R2:=fun x y H Q=>y=.non∧Q (.bl (decide (x=.non))) H
theorem EY {X:Cx}:OpR X (compareOp .Is) rIsN:=Gn
theorem GJ {H:Hp} {Q:VK} {x:V} (q:Q (.bl (decide (x=.non))) H):rIsN x .non H Q:=⟨rfl,q⟩
def sqs:List Int:=[4,9,16,25,36,49,64,81]
def yD (n:Nat):List Int:=((List.range n).map fun (i:Nat)=>(2:Int) + i).filter fun d=>!sqs.contains d
theorem ww (n:Nat):yD (n + 1)=yD n ++ (if sqs.contains ((2:Int) + n) then [] else [(2:Int) + n]):=by
  unfold yD
  rw [List.range_succ,List.map_append,List.filter_append]
  congr 1
  simp only [List.map_cons,List.map_nil,List.filter_cons,List.filter_nil]
  cases sqs.contains ((2:Int) + n) <;> rfl
theorem AZ {n:Nat} (hn:n ≤ 98) {d:Int} (h:d ∈ yD n):Rt d:=by
  unfold yD at h
  rw [List.mem_filter,List.mem_map] at h
  obtain ⟨⟨i,hi,rfl⟩,hc⟩:=h
  rw [List.mem_range] at hi
  refine Hn ⟨by omega,by omega⟩ ?_
  simp only [sqs,List.contains_cons,List.contains_nil,Bool.or_false,Bool.not_eq_true',Bool.or_eq_false_iff,beq_eq_false_iff_ne,ne_eq] at hc
  exact hc
theorem u5:(yD 98).length=90:=by decide +kernel
theorem EQ (d:Int):inV (.int d) [.int 4,.int 9,.int 16,.int 25,.int 36,.int 49,.int 64,.int 81]=sqs.contains d:=by
  simp only [inV,List.any_cons,List.any_nil,eqV,sqs,List.contains_cons,List.contains_nil,Bool.or_false]
  simp only [BEq.comm (b:=d)]
theorem Av {xs:List Int} {i:Int} (h0:0 ≤ i) (h1:i < xs.length):∃ d ∈ xs,atI (xs.map V.int) i=some (.int d):=by
  have hi:i.toNat < xs.length:=by omega
  refine ⟨xs[i.toNat],List.getElem_mem hi,?_⟩
  have e:=zI (xs:=xs.map V.int) (j:=i.toNat) (v:=.int xs[i.toNat]) (by rw [List.getElem?_map,List.getElem?_eq_getElem hi]; rfl)
  rw [show ((i.toNat:Nat):Int)=i by omega] at e
  exact e
end L2
namespace Bg
theorem Ga {d a b:Int} (h:Rt d) (z:¬ (a=0∧b=0)):a * a - d * b * b ≠ 0:=fun e=>z (Am h e)
theorem u3 {a b k:Int} (hk:k ≠ 0) (h:a * k=b * k):a=b:=Int.eq_of_mul_eq_mul_right hk h
theorem Du {x y z:Int} (h1:1 ≤ z) (g:g3 x y z=1):lA x y z=x∧lB x y z=y∧lN x y z=z:=by
  have:=yR (x:=x) (y:=y) (z:=z) (a:=x) (b:=y) (n:=z) h1 g (by omega) rfl rfl
  exact ⟨this.1.symm,this.2.1.symm,this.2.2.symm⟩
end Bg
namespace Bg
end Bg
namespace Bg
end Bg
namespace Bg
def Br (j k:Nat) (q:Rat):Prop:=Bd j q.num∧Bd k (q.den:Int)
structure Tb where
  a:Rat
  b:Rat
  c:Rat
  e:Rat
def Tb.zero:Tb:=⟨0,0,0,0⟩
def Tb.add (s t:Tb):Tb:=⟨s.a + t.a,s.b + t.b,s.c + t.c,s.e + t.e⟩
def Tb.sub (s t:Tb):Tb:=⟨s.a - t.a,s.b - t.b,s.c - t.c,s.e - t.e⟩
def Tb.tr (s:Tb):Tb:=⟨s.a,s.c,s.b,s.e⟩
structure Sd where
  x:Int
  y:Int
  z:Int
structure Sd.Ok (d:Int) (s:Sd):Prop where
  z1:1 ≤ s.z
  g:g3 s.x s.y s.z=1
  bx:Bd 120 s.x
  bY:Bd 120 s.y
  bz:Bd 30 s.z
  up:sgn d s.x s.y=1
def Sd.p (s:Sd):Rat:=Rat.divInt s.x s.z
def Sd.q (s:Sd):Rat:=Rat.divInt s.y s.z
structure Bo where
  w:Sd
  h:Sd
def Bo.Ok (d:Int) (b:Bo):Prop:=b.w.Ok d∧b.h.Ok d
def Bo.tb (b:Bo):Tb:=⟨b.w.p * b.h.p,b.w.p * b.h.q,b.w.q * b.h.p,b.w.q * b.h.q⟩
end Bg
namespace Bg
structure Ms where
  f:Rat
  g:Rat
def Ms.Ok (m:Ms):Prop:=Br 90 10 m.f∧Br 90 10 m.g
def Sd.ms (s:Sd):Ms:=⟨s.p,s.q⟩
end Bg
namespace Bg
theorem Di {d n p q:Int} (hR:Rt d) (hn:0 < n) (h:sgn d p q=1):sgn d (n + p) q=1:=by
  have d2:=hR.lo
  by_cases hp:0 ≤ p
  · by_cases hq:0 ≤ q
    · rw [tZ (by omega) hq,if_pos (by omega)]
    · have p0:0 < p:=by
        rcases Int.lt_or_eq_of_le hp with z | z
        · exact z
        · subst z
          rw [DQ (by omega) (by omega) (by omega)] at h
          exact absurd h (by decide)
      rw [Bu p0 (by omega)] at h
      rw [Bu (by omega) (by omega)]
      have h1:d * q * q < p * p:=by
        by_cases z:d * q * q < p * p
        · exact z
        · rw [if_neg z] at h
          exact absurd h (by decide)
      have h2:p * p ≤ (n + p) * (n + p):=Int.mul_le_mul (by omega) (by omega) (by omega) (by omega)
      rw [if_pos (by omega)]
  · by_cases hq:0 < q
    · rw [BU (by omega) hq] at h
      have h1:p * p < d * q * q:=by
        by_cases z:p * p < d * q * q
        · exact z
        · rw [if_neg z] at h
          exact absurd h (by decide)
      by_cases hs:0 ≤ n + p
      · rw [tZ hs (by omega),if_pos (by omega)]
      · rw [BU (by omega) hq]
        have h2:(-(n + p)) * (-(n + p)) ≤ (-p) * (-p):=Int.mul_le_mul (by omega) (by omega) (by omega) (by omega)
        rw [Int.neg_mul_neg,Int.neg_mul_neg] at h2
        rw [if_pos (by omega)]
    · rw [DQ (by omega) (by omega) (by omega)] at h
      exact absurd h (by decide)
theorem EX {d a b a' b':Int} (hR:Rt d) (h:sgn d a b=1) (h':sgn d a' b'=1):sgn d (a + a') (b + b')=1:=by
  have hN:a * a - d * b * b ≠ 0:=by
    refine Ga hR fun z=>?_
    rw [z.1,z.2,yo] at h
    exact absurd h (by decide)
  obtain ⟨k,w,v,hk,e1,e2,e3,e4⟩:∃ k w v:Int,0 < k∧k * a'=w * a + d * v * b∧k * b'=w * b + v * a∧k * (a + a')=(k + w) * a + d * v * b∧k * (b + b')=(k + w) * b + v * a:=by
    rcases Int.lt_or_gt_of_ne hN with z | z
    · refine ⟨-(a * a - d * b * b),-(a' * a - d * b' * b),-(b' * a - a' * b),by omega,?_,?_,?_,?_⟩ <;> grind
    · refine ⟨a * a - d * b * b,a' * a - d * b' * b,b' * a - a' * b,z,?_,?_,?_,?_⟩ <;> grind
  have s1:=xI hR hk a' b'
  rw [e1,e2,Aw hR,h,Int.mul_one,h'] at s1
  have s2:=Di hR hk s1
  have s3:=xI hR hk (a + a') (b + b')
  rw [e3,e4,Aw hR,h,s2] at s3
  rw [← s3]
  rfl
def Tb.A (d:Int) (t:Tb):Rat:=t.a + (d:Rat) * t.e
def Tb.B (t:Tb):Rat:=t.b + t.c
end Bg
namespace Bg
end Bg
namespace Bg
end Bg
namespace Bg
theorem yc {e x v:Int} (h:e ∣ x * v) (g:Int.gcd e v=1):e ∣ x:=by
  have h1:e ∣ x * v:=h
  have h2:e ∣ x * e:=⟨x,Int.mul_comm ..⟩
  have h3:e ∣ (Int.gcd (x * e) (x * v):Nat):=Int.dvd_coe_gcd h2 h1
  rw [Int.gcd_mul_left,g,Nat.mul_one] at h3
  exact Int.dvd_natAbs.mp h3
theorem yV {a b:Int} (h:∀ e:Int,e ∣ a→e ∣ b→e ∣ 1):Int.gcd a b=1:=by
  have:=h (Int.gcd a b:Nat) (Int.gcd_dvd_left ..) (Int.gcd_dvd_right ..)
  have h2:=Int.natAbs_dvd_natAbs.mpr this
  simpa using h2
theorem wk {a b e:Int} (h:Int.gcd a b=1) (ha:e ∣ a) (hb:e ∣ b):e ∣ 1:=by
  have:=Int.dvd_coe_gcd ha hb
  rw [h] at this
  exact this
theorem xf {a b e:Int} (h:Int.gcd a b=1) (ha:e ∣ a):Int.gcd e b=1 :=
  yV fun _ h1 h2=>wk h (Int.dvd_trans h1 ha) h2
theorem vb {a b c:Int} (h1:Int.gcd a b=1) (h2:Int.gcd a c=1):Int.gcd a (b * c)=1 :=
  yV fun e ha hb=>by
    have e1:Int.gcd e c=1:=xf h2 ha
    exact wk h1 ha (yc hb e1)
theorem Fg {z z':Int} (h1:1 ≤ z) (h2:1 ≤ z'):∃ s u v:Int,s=(Int.gcd z z':Nat)∧1 ≤ s∧1 ≤ u∧1 ≤ v∧z=s * u∧z'=s * v∧z.fdiv s=u∧z'.fdiv s=v∧Int.gcd u v=1:=by
  have d1:((Int.gcd z z':Nat):Int) ∣ z:=Int.gcd_dvd_left ..
  have d2:((Int.gcd z z':Nat):Int) ∣ z':=Int.gcd_dvd_right ..
  have hp:0 < Int.gcd z z':=Int.gcd_pos_of_ne_zero_left _ (by omega)
  obtain ⟨u,hu⟩:=d1
  obtain ⟨v,hv⟩:=d2
  have hs:(1:Int) ≤ (Int.gcd z z':Nat):=by omega
  have hg:Int.gcd u v=1:=by
    have e:Int.gcd z z'=Int.gcd ((Int.gcd z z':Nat) * u) ((Int.gcd z z':Nat) * v):=by rw [← hu,← hv]
    rw [Int.gcd_mul_left,Int.natAbs_natCast] at e
    exact (Nat.eq_of_mul_eq_mul_left hp (by rw [Nat.mul_one]; exact e)).symm
  generalize ((Int.gcd z z':Nat):Int)=s at *
  subst hu; subst hv
  refine ⟨s,u,v,rfl,hs,?_,?_,rfl,rfl,Int.mul_fdiv_cancel_left _ (by omega),Int.mul_fdiv_cancel_left _ (by omega),hg⟩
  · refine Int.not_lt.mp fun q=>?_
    have:=Int.mul_nonpos_of_nonneg_of_nonpos (show (0:Int) ≤ s by omega) (show u ≤ 0 by omega)
    omega
  · refine Int.not_lt.mp fun q=>?_
    have:=Int.mul_nonpos_of_nonneg_of_nonpos (show (0:Int) ≤ s by omega) (show v ≤ 0 by omega)
    omega
def aS (z z':Int):Int:=(Int.gcd z z':Nat)
def aA (x z x' z':Int):Int:=x * z'.fdiv (aS z z') + x' * z.fdiv (aS z z')
def aL (x y z x' y' z':Int):Int:=(Int.gcd (Int.gcd (aS z z') (aA x z x' z'):Nat) (aA y z y' z'):Nat)
theorem Ec {x y z x' y' z':Int} (h1:1 ≤ z) (h2:1 ≤ z') (g1:g3 x y z=1) (g2:g3 x' y' z'=1) :
    1 ≤ aS z z'∧1 ≤ aL x y z x' y' z'∧(aA x z x' z').fdiv (aL x y z x' y' z')=lA (x * z' + x' * z) (y * z' + y' * z) (z * z')∧(aA y z y' z').fdiv (aL x y z x' y' z')=lB (x * z' + x' * z) (y * z' + y' * z) (z * z') ∧
    z.fdiv (aS z z') * z'.fdiv (aL x y z x' y' z')=lN (x * z' + x' * z) (y * z' + y' * z) (z * z'):=by
  obtain ⟨s,u,v,hs,s1,u1,v1,ez,ez',fu,fv,guv⟩:=Fg h1 h2
  have eS:aS z z'=s:=hs.symm
  have eA:∀ p q,aA p z q z'=p * v + q * u:=fun p q=>by unfold aA; rw [eS,fu,fv]
  have eL:aL x y z x' y' z'=(Int.gcd (Int.gcd s (x * v + x' * u):Nat) (y * v + y' * u):Nat):=by unfold aL; rw [eS,eA,eA]
  rw [eS,eA,eA,fu]
  generalize hl:aL x y z x' y' z'=l at *
  generalize ha:x * v + x' * u=a at *
  generalize hb:y * v + y' * u=b at *
  have l1:1 ≤ l:=by
    have:0 < Int.gcd (Int.gcd s a:Nat) b:=Int.gcd_pos_of_ne_zero_left _ (by
      have:=Int.gcd_pos_of_ne_zero_left a (show s ≠ 0 by omega)
      omega)
    omega
  have dls:l ∣ s:=by rw [eL]; exact Int.dvd_trans (Int.gcd_dvd_left ..) (Int.gcd_dvd_left ..)
  have dla:l ∣ a:=by rw [eL]; exact Int.dvd_trans (Int.gcd_dvd_left ..) (Int.gcd_dvd_right ..)
  have dlb:l ∣ b:=by rw [eL]; exact Int.gcd_dvd_right ..
  obtain ⟨m,hm⟩:=dls
  obtain ⟨X,hX⟩:=dla
  obtain ⟨Y,hY⟩:=dlb
  have l0:l ≠ 0:=by omega
  have fX:a.fdiv l=X:=by rw [hX]; exact Int.mul_fdiv_cancel_left _ l0
  have fY:b.fdiv l=Y:=by rw [hY]; exact Int.mul_fdiv_cancel_left _ l0
  have fZ:z'.fdiv l=m * v:=by rw [ez',hm,Int.mul_assoc]; exact Int.mul_fdiv_cancel_left _ l0
  rw [fX,fY,fZ]
  have m1:1 ≤ m:=by
    refine Int.not_lt.mp fun q=>?_
    have:=Int.mul_nonpos_of_nonneg_of_nonpos (show (0:Int) ≤ l by omega) (show m ≤ 0 by omega)
    omega
  refine ⟨s1,l1,?_⟩
  have gm:g3 X Y m=1:=by
    have e:(g3 (l * X) (l * Y) (l * m):Int)=l:=by
      unfold g3
      rw [← hX,← hY,← hm,← eL]
    rw [DU] at e
    have e2:l.natAbs * g3 X Y m=l.natAbs * 1:=by omega
    exact Nat.eq_of_mul_eq_mul_left (by omega) e2
  have cop:∀ e:Int,e ∣ X→e ∣ Y→Int.gcd e u=1∧Int.gcd e v=1∧Int.gcd e m=1:=fun e eX eY=>by
    have ea:e ∣ a:=by rw [hX]; exact Int.dvd_trans eX (Int.dvd_mul_left ..)
    have eb:e ∣ b:=by rw [hY]; exact Int.dvd_trans eY (Int.dvd_mul_left ..)
    refine ⟨yV fun f f1 f2=>?_,yV fun f f1 f2=>?_,yV fun f f1 f2=>?_⟩
    · have fv1:Int.gcd f v=1:=xf guv f2
      have k1:f ∣ x * v:=by
        have:=Int.dvd_sub (Int.dvd_trans f1 ea) (Int.dvd_trans f2 (Int.dvd_mul_left x' u))
        rw [← ha,Int.add_sub_cancel] at this
        exact this
      have k2:f ∣ y * v:=by
        have:=Int.dvd_sub (Int.dvd_trans f1 eb) (Int.dvd_trans f2 (Int.dvd_mul_left y' u))
        rw [← hb,Int.add_sub_cancel] at this
        exact this
      have:=Ao (yc k1 fv1) (yc k2 fv1) (Int.dvd_trans f2 (show u ∣ z by rw [ez]; exact Int.dvd_mul_left ..))
      rw [g1] at this
      exact this
    · have fu1:Int.gcd f u=1:=xf (Int.gcd_comm u v ▸ guv) f2
      have k1:f ∣ x' * u:=by
        have:=Int.dvd_sub (Int.dvd_trans f1 ea) (Int.dvd_trans f2 (Int.dvd_mul_left x v))
        rw [← ha,Int.add_comm,Int.add_sub_cancel] at this
        exact this
      have k2:f ∣ y' * u:=by
        have:=Int.dvd_sub (Int.dvd_trans f1 eb) (Int.dvd_trans f2 (Int.dvd_mul_left y v))
        rw [← hb,Int.add_comm,Int.add_sub_cancel] at this
        exact this
      have:=Ao (yc k1 fu1) (yc k2 fu1) (Int.dvd_trans f2 (show v ∣ z' by rw [ez']; exact Int.dvd_mul_left ..))
      rw [g2] at this
      exact this
    · have:=Ao (Int.dvd_trans f1 eX) (Int.dvd_trans f1 eY) f2
      rw [gm] at this
      exact this
  have gX:g3 X Y (u * (m * v))=1:=by
    have dX:=g3_a X Y (u * (m * v))
    have dY:=g3_b X Y (u * (m * v))
    have dZ:=g3_n X Y (u * (m * v))
    obtain ⟨c1,c2,c3⟩:=cop _ dX dY
    have c4:=vb c1 (vb c3 c2)
    have:=wk c4 (Int.dvd_refl _) dZ
    have:=Int.natAbs_dvd_natAbs.mpr this
    simpa using this
  refine yR ?_ gX (Int.mul_ne_zero (by omega) (by omega)) ?_ ?_
  · exact Int.mul_pos (by omega) (Int.mul_pos (by omega) (by omega))
  · subst ez ez'
    refine Int.eq_of_mul_eq_mul_left l0 ?_
    clear cop gX gm eL hl eA hs fu fv fX fY fZ guv g1 g2
    have e1:l * (X * (s * u * (s * v)))=a * (s * u * (s * v)):=by rw [hX,Int.mul_assoc l X]
    have e2:l * ((x * (s * v) + x' * (s * u)) * (u * (m * v)))=(x * v + x' * u) * s * (u * (l * m * v)):=by grind
    rw [e1,e2,← hm,ha]
    grind
  · subst ez ez'
    refine Int.eq_of_mul_eq_mul_left l0 ?_
    clear cop gX gm eL hl eA hs fu fv fX fY fZ guv g1 g2
    have e1:l * (Y * (s * u * (s * v)))=b * (s * u * (s * v)):=by rw [hY,Int.mul_assoc l Y]
    have e2:l * ((y * (s * v) + y' * (s * u)) * (u * (m * v)))=(y * v + y' * u) * s * (u * (l * m * v)):=by grind
    rw [e1,e2,← hm,hb]
    grind
theorem tM {k:Nat} {z a:Int} (h:z ≠ 0) (hb:Bd k z):Bd k ((Int.gcd z a:Nat):Int):=hb.of_le (by
  rw [Int.natAbs_natCast]
  exact Nat.le_of_dvd (by omega) (by simpa using Int.natAbs_dvd_natAbs.mpr (Int.gcd_dvd_left z a)))
theorem Gw (x y z:Int):g3 (-x) (-y) z=g3 x y z:=by
  unfold g3
  rw [Int.gcd_neg,Int.gcd_neg]
end Bg
namespace Bg
structure B4 where
  a:Int
  b:Int
  c:Int
  e:Int
def B4.nx (d:Int) (s:B4):B4:=if 0 < sgn d (s.a - s.c) (s.b - s.e) then ⟨s.a - s.c,s.b - s.e,s.c,s.e⟩ else ⟨s.a,s.b,s.c - s.a,s.e - s.b⟩
def b4:B4:=⟨0,1,1,0⟩
theorem z7 {d a b N:Int} (hR:Rt d) (hN:1 ≤ N):sgn d (lA a b N) (lB a b N)=sgn d a b:=by
  have n0:N ≠ 0:=by omega
  have h1:=l_n (a:=a) (b:=b) n0
  refine xN hR (k:=N) (m:=lN a b N) (by omega) (by omega) ?_ ?_
  · rw [Int.mul_comm,l_a,Int.mul_comm]
  · rw [Int.mul_comm,l_b,Int.mul_comm]
def B4.det (s:B4):Int:=s.a * s.e - s.b * s.c
def B4.i (s:B4) (x y:Int):Int:=s.det * (x * s.e - y * s.c)
def B4.j (s:B4) (x y:Int):Int:=s.det * (s.a * y - s.b * x)
end Bg
namespace Bg
def B4.srv (s:B4) (x y:Int):Prop:=0 ≤ s.i x y∧0 ≤ s.j x y
instance {s:B4} {x y:Int}:Decidable (s.srv x y):=inferInstanceAs (Decidable (0 ≤ s.i x y∧0 ≤ s.j x y))
def st (d:Int):Nat→B4
  | 0=>b4
  | k + 1=>(st d k).nx d
end Bg
namespace Bg
def BsE (s s':B4) (N:Int):Prop:=(lA s.a s.b N=lA s'.a s'.b N∧lB s.a s.b N=lB s'.a s'.b N∧lN s.a s.b N=lN s'.a s'.b N)∧(lA s.c s.e N=lA s'.c s'.e N∧lB s.c s.e N=lB s'.c s'.e N∧lN s.c s.e N=lN s'.c s'.e N)
instance {s s':B4} {N:Int}:Decidable (BsE s s' N):=inferInstanceAs (Decidable (_∧_))
end Bg
namespace Bg
end Bg
namespace Bg
end Bg
namespace Bg
def tmS (m:Int) (s:Sd):Sd:=⟨lA (m * s.x) (m * s.y) s.z,lB (m * s.x) (m * s.y) s.z,lN (m * s.x) (m * s.y) s.z⟩
def adS (s t:Sd):Sd:=⟨lA (s.x * t.z + t.x * s.z) (s.y * t.z + t.y * s.z) (s.z * t.z),lB (s.x * t.z + t.x * s.z) (s.y * t.z + t.y * s.z) (s.z * t.z),lN (s.x * t.z + t.x * s.z) (s.y * t.z + t.y * s.z) (s.z * t.z)⟩
structure SK (k j:Nat) (s:Sd):Prop where
  z1:1 ≤ s.z
  g:g3 s.x s.y s.z=1
  bx:Bd k s.x
  by':Bd k s.y
  bz:Bd j s.z
theorem SK.mono {k j k' j':Nat} {s:Sd} (h:SK k j s) (l:k ≤ k') (l':j ≤ j'):SK k' j' s:=⟨h.z1,h.g,h.bx.mono l,h.by'.mono l,h.bz.mono l'⟩
theorem SK.ne {k j:Nat} {s:Sd} (h:SK k j s):s.z ≠ 0:=by have:=h.z1; omega
def nul:Sd:=⟨0,0,1⟩
def mny (s:B4) (N:Int) (pl:Nat) (w:Sd):Int:=if pl=0 then s.i (N / w.z * w.x) (N / w.z * w.y) else s.j (N / w.z * w.x) (N / w.z * w.y)
def hg (s:B4) (N:Int) (pl:Nat):List Bo→Sd:=fun L=>L.foldl (fun a b=>adS a (tmS (mny s N pl b.w) b.h)) nul
structure B5 (d N:Int) (b:Bo):Prop where
  w:SK 20 12 b.w
  h:SK 20 12 b.h
  wu:sgn d b.w.x b.w.y=1
  hu:sgn d b.h.x b.h.y=1
  dv:b.w.z ∣ N
end Bg
namespace L2
open PySem PySem.Spec PyProof.Rows Bg
def rSum (K:PySem.W.Frag):List V→Hp→VK→Prop:=fun xs H Q=>∃ (a:Addr) (ns:List Int),xs=[.ref a]∧SqL K H a (ns.map V.int)∧Q (.int ns.sum) H
def Gi (K:PySem.W.Frag):List V→Hp→VK→Prop:=fun xs H Q=>∃ (a:Addr) (bs:List Bool),xs=[.ref a]∧SqL K H a (bs.map V.bl)∧Q (.bl (bs.all id)) H
theorem vz:∀ {ns:List Int} {us:List Value},Vals (ns.map V.int) us→∃ xs:Array (Int × Tok),us.toArray=intItems xs∧xs.toList.map (·.1)=ns
  | [],us,h=>by
    rw [Vals.zero h]
    exact ⟨#[],by simp [intItems],rfl⟩
  | n :: ns,u :: us,.cons r t=>by
      obtain ⟨tk,rfl⟩:=r
      obtain ⟨xs,e1,e2⟩:=vz t
      refine ⟨#[(n,tk)] ++ xs,?_,by simp [e2]⟩
      have e3:(Value.int n tk :: us).toArray=#[Value.int n tk] ++ us.toArray:=by simp
      rw [e3,e1]
      simp [intItems]
theorem tL {xs:Array (Int × Tok)}:preSum (numAt xs) xs.size=(xs.toList.map (·.1)).sum:=by
  rw [preSum_eq,List.take_of_length_le (by simp)]
section
variable {X:Cx}
theorem Bq (hc:X.calm=true):xh X (.builtin "sum") (rSum X.K):=by
  intro pins s σ H xs us Q I r h
  obtain ⟨a,ns,rfl,hq,q⟩:=h
  obtain ⟨u,rfl,ru⟩:=Vals.one r
  cases ru
  obtain ⟨its,rv,p,hz⟩:=I.list hq
  obtain ⟨ys,e1,e2⟩:=vz rv
  have hl:s.heap.IsList a (intItems ys):=by rw [← e1]; exact p.isList
  refine sum_intListG (I.ok.hd hc) hl fun h' tk t' hk=>?_
  rw [tL,e2]
  exact ⟨.int ns.sum,H,I.kept (t':=tk) hk,⟨t',rfl⟩,q⟩
theorem B3 (hc:X.calm=true):xh X (.builtin "all") (Gi X.K):=by
  intro pins s σ H xs us Q I r h
  obtain ⟨a,bs,rfl,hq,q⟩:=h
  obtain ⟨u,rfl,ru⟩:=Vals.one r
  cases ru
  obtain ⟨its,rv,p,hz⟩:=I.list hq
  have hlt:a < s.heap.objs.size:=by
    obtain ⟨o,_,e,_⟩:=p
    exact Heap.lt_size e
  refine call_all_walk (wpAny_pyIter_list p.isList ?_)
  refine ⟨_,_,_,_,_,_,(fun i=>bs.getD i false),rfl,Walks.list (A:=X.A.in1) (show X.A.in1.handled=none from I.ok.hd hc) _ a (Nat.ne_of_lt hlt) its.toArray,⟨⟨_,Heap.get?_push_size _ rfl,rfl,rfl⟩,p.isList.push _⟩,?_,fun h' tk hk=>?_⟩
  · intro i v s' Q' E' hP hQ
    have hP':its[i]?=some v:=by simpa using hP
    have hi:i < bs.length:=by
      have:=rv.length
      rw [List.length_map] at this
      have:=(List.getElem?_eq_some_iff.mp hP').1
      omega
    obtain ⟨u,hu,ru⟩:=rv.get (i:=i) (x:=.bl bs[i]) (by rw [List.getElem?_map,List.getElem?_eq_getElem hi]; rfl)
    rw [hP'] at hu
    cases hu
    cases ru
    have e:bs.getD i false=bs[i]:=by rw [List.getD_eq_getElem?_getD,List.getElem?_eq_getElem hi]; rfl
    have hQ':Q' (bs.getD i false) s':=hQ
    rw [e] at hQ'
    exact wpAny_truthy_bool hQ'
  · have e:(List.range its.toArray.size).all (fun i=>bs.getD i false)=bs.all id:=by
      have:=rv.length
      rw [List.length_map] at this
      rw [List.size_toArray,← this,v9]
    rw [e]
    refine ⟨.bl _,H,I.kept (t':=tk) fun b o e'=>hk b o ?_ (Heap.get?_push_of_some _ e'),rfl,q⟩
    intro hb
    have e2:b=s.heap.objs.size:=by simpa using hb
    exact absurd (Heap.lt_size e') (by rw [e2]; exact Nat.lt_irrefl _)
end
end L2
namespace L2
open PySem PySem.Spec PyProof.Rows Bg
def FI (t c:String):Option Bool:=if (Value.type t == Value.type c)=true then some true else if PySem.W.kitMeta c=true then (fastBuiltinMro t).map (·.contains (Value.type c)) else none
theorem Gg {K:PySem.W.Frag} {t c:String} {b:Bool} (h:FI t c=some b):PySem.W.kitOne K (.type t) (.type c)=some b:=h
inductive Kd (H:Hp):V→String→Prop where
  | non:Kd H .non "NoneType"
  | bl (x:Bool):Kd H (.bl x) "bool"
  | int (i:Int):Kd H (.int i) "int"
  | str (x:Str):Kd H (.str x) "str"
  | lst {a:Addr} {xs:List V} (e:H a=some (.lst xs)):Kd H (.ref a) "list"
  | tup {a:Addr} {xs:List V} (e:H a=some (.tup xs)):Kd H (.ref a) "tuple"
  | dK {a:Addr} {xs:List (Key × V)} (e:H a=some (.dK xs)):Kd H (.ref a) "dict"
theorem Kd.ty {K:PySem.W.Frag} {H:Hp} {x:V} {t:String} (k:Kd H x t):TyOf K H x (.type t):=by
  cases k with
  | non=>exact .non
  | bl b=>exact .bl b
  | int i=>exact .int i
  | str s=>exact .str s
  | lst e=>exact .lst e
  | tup e=>exact .tup e
  | dK e=>exact .dK e
theorem FH {K:PySem.W.Frag} {H:Hp} {Q:VK} {x:V} {t T:String} {b:Bool} (k:Kd H x t) (e:FI t T=some b) (q:Q (.bl b) H):rIs K [x,.ty T] H Q:=⟨_,_,_,_,rfl,k.ty,Gg e,q⟩
theorem G0 {K:PySem.W.Frag} {H:Hp} {Q:VK} {a:Addr} {ns:List Int} (h:SqL K H a (ns.map V.int)) (q:Q (.int ns.sum) H):rSum K [.ref a] H Q:=⟨a,ns,rfl,h,q⟩
theorem Gh {K:PySem.W.Frag} {H:Hp} {Q:VK} {a:Addr} {bs:List Bool} (h:SqL K H a (bs.map V.bl)) (q:Q (.bl (bs.all id)) H):Gi K [.ref a] H Q:=⟨a,bs,rfl,h,q⟩
inductive T0 where
  | flat (x:V)
  | tup (xs:List V)
  | lst (xs:List V)
end L2
namespace L2
open PySem PySem.Spec PyProof.Rows Bg
section
variable {H0 H:Hp} {Q:VK} {ls:List (Addr × HO)}
end
end L2
namespace L2
open PySem PySem.Spec PyProof.Rows
section
variable {X:Cx} {tg:Expr}
end
end L2
namespace L2
open PySem PySem.Spec PyProof.Rows Bg
end L2
namespace L2
open PySem PySem.Spec PyProof.Rows Bg
abbrev SdAt (H:Hp) (p:Addr) (s:Sd):Prop:=H p=some (.tup [.int s.x,.int s.y,.int s.z])
structure Cell where
  p:Addr
  pw:Addr
  ph:Addr
  b:Bo
def Cell.v (c:Cell):V:=.ref c.p
structure Cell.At (H:Hp) (c:Cell):Prop where
  t:H c.p=some (.tup [.ref c.pw,.ref c.ph])
  w:SdAt H c.pw c.b.w
  h:SdAt H c.ph c.b.h
theorem Cell.At.same {H H':Hp} {c:Cell} (h:c.At H) (s:Same H H'):c.At H':=⟨s _ _ h.t,s _ _ h.w,s _ _ h.h⟩
theorem Cell.At.sameX {H H':Hp} {c:Cell} {D:Addr} {xs:List V} (h:c.At H) (s:SameX D H H') (e:H D=some (.lst xs)):c.At H':=⟨s.tup h.t e,s.tup h.w e,s.tup h.h e⟩
end L2
namespace L2
open PySem PySem.Spec PyProof.Rows Bg
section
variable {K:PySem.W.Frag} {H:Hp} {Q:VK} {σ:St} {D:Ends}
end
end L2
namespace L2
open PySem PySem.Spec PyProof.Rows Bg
def rLst (K:PySem.W.Frag):List V→Hp→VK→Prop:=fun xs H Q=>∃ p ys,xs=[.ref p]∧(SqL K H p ys ∨ SqT K H p ys)∧∀ l,H l=none→Q (.ref l) (upd H l (.lst ys))
theorem wO {X:Cx}:xh X (.type "list") (rLst X.K):=uQ
end L2
namespace L2
open PySem PySem.Spec PyProof.Rows Bg
end L2
namespace L2
open PySem PySem.Spec PyProof.Rows Bg
section
variable {prog:Program} {w:World} {A:Around} {E:Value→Shared→Prop}
end
end L2
namespace L2
open PySem PySem.Spec PyProof.Rows Bg
section
variable {X:Cx}
end
end L2
namespace L2
open PySem PySem.Spec PyProof.Rows Bg
end L2
namespace L2
open PySem PySem.Spec PyProof.Rows Bg
section
variable {X:Cx}
end
section
variable {K:PySem.W.Frag} {σ:St} {H:Hp} {Q:VK}
theorem EV {n:Nat} (h:n ≤ 1000):n ≤ sizeLine:=xp h
theorem GY {T:String} {r:V→List V→Hp→VK→Prop} {to:TE} (h:to σ H fun x H1=>tyV K T x H1∧r x [] H1 Q):tBM0 K T r to σ H Q:=h
theorem Hu {i j:Str} (h:Q (.bl (decide (i=j))) H):rEq (.str i) (.str j) H Q:=⟨rfl,by
  have e:decide (V.str i=V.str j)=decide (i=j):=by rw [Bool.eq_iff_iff]; simp
  rw [e]; exact h⟩
theorem Dn {z:Str} (h:Q (.bl true) H):rIs K [.str z,.ty "str"] H Q:=⟨_,_,_,_,rfl,.str z,vN K _,h⟩
end
end L2
namespace L2
open PySem PySem.Spec PyProof.Rows Bg
section
variable {prog:Program} {w:World} {A:Around} {E:Value→Shared→Prop} {s:Shared} {R:Result→Shared→Prop}
variable {I:Addr} {fp wr:List Addr} {G:Array GenState→Array GenState→Prop} {n:Nat} {P:Nat→Value→Prop} {St:Nat→Shared→Prop}
end
end L2
namespace L2
open PySem PySem.Spec PyProof.Rows Bg
section
variable {X:Cx} {e:Expr} {te:TE} {p1 p2 pos pos2:Pos}
end
end L2
namespace L2
open PySem PySem.Spec PyProof.Rows Bg
theorem Ez {X:Cx} {n:Nat} {H:Hp} {a b r1 r2 s1 s2:Addr} (ha:H a=some (.tup [.ref r1,.ref r2])) (hb:H b=some (.tup [.ref s1,.ref s2])) (e1:EqV X n H (.ref r1) (.ref s1) true) (e2:EqV X n H (.ref r2) (.ref s2) true):EqV X (n + 1) H (.ref a) (.ref b) true :=
  EqV.tup (X:=X) (n:=n) (bs:=[true,true]) (SqT.of ha) (SqT.of hb) (.cons e1 (.cons e2 .nil)) (fun _=>rfl)
end L2
namespace Bg
end Bg
namespace Bg
end Bg
namespace L2
open PySem PySem.Spec PyProof.Rows Bg
end L2
namespace L2
open PySem PySem.Spec PyProof.Rows Bg
end L2
namespace L2
open PySem PySem.Spec PyProof.Rows Bg
section
variable {X:Cx}
end
section
variable {K:PySem.W.Frag} {H:Hp} {Q:VK} {σ:St} {D:Ends}
end
structure Ln where
  p:Addr
  s:Sd
def Ln.v (c:Ln):V:=.ref c.p
def Ln.u (c:Ln):Int × Int:=(c.s.x,c.s.y)
end L2
namespace L2
open PySem PySem.Spec PyProof.Rows Bg
section
variable {X:Cx} {tg:Expr}
end
section
variable {K:PySem.W.Frag} {H:Hp} {Q:VK}
theorem F5 {a:Addr} {ns:List Int} {i j:Nat} (hS:SqL K H a (ns.map V.int)) (q:∀ (p:Addr) (H2:Hp),Same H H2→H2 p=some (.lst (((ns.drop i).take (j - i)).map V.int))→Q (.ref p) H2):rSlL K (.ref a) (some (i:Int)) (some (j:Int)) H Q:=by
  refine ⟨a,_,rfl,hS,fun p hp=>?_⟩
  refine q p _ (z4 hp _) ?_
  rw [zk]
  unfold cutV
  rw [HT.sIx_nat,HT.sIx_nat,List.map_take,List.map_drop]
  congr 2
  generalize ns.map V.int=xs
  rcases Nat.le_total i xs.length with z | z
  · rw [Nat.min_eq_left z]
    rcases Nat.le_total j xs.length with y | y
    · rw [Nat.min_eq_left y]
    · rw [Nat.min_eq_right y,List.take_of_length_le (by rw [List.length_drop]; omega),List.take_of_length_le (by rw [List.length_drop]; omega)]
  · rw [Nat.min_eq_right z,List.drop_of_length_le (Nat.le_refl _),List.drop_of_length_le z,List.take_nil,List.take_nil]
end
end L2
namespace L2
open PySem PySem.Spec PyProof.Rows Bg
theorem Inv.turnedL {X:Cx} {pins:List (Addr × Obj)} {σ:St} {H:Hp} {s:Shared} {h':Heap} {t':Nat} {its:List Addr} (I:Inv X pins σ H s) (k:∀ b o,b ∉ its→s.heap.get? b=some o→h'.get? b=some o) (hf:∀ b ∈ its,FpOk X pins H b):Inv X pins σ H { s with heap:=h',toks:=t' }:=by
  have nit:∀ b u,H b=some u→b ∉ its:=fun b u e z=>by have:=(hf b z).1; rw [this] at e; cases e
  refine I.step (g':=s.gens) (d':=s.drawn) (ch:=its) (fun b hb=>?_) (fun b o _ _ hc e _=>k b o hc e) (fun b o _ _ hc e _=>⟨o.slots,k b o hc e⟩) (fun _ _ _ _ n=>n)
    (fun b o hc e=>⟨o,k b o hc e⟩) (fun _ _ e=>e) (fun _ _ _ e=>e) (fun b ps e=>⟨#[],by rw [e]; simp⟩) (fun m hm=>?_) (fun b u e=>?_) I.bare
  · obtain ⟨f0,f1,f2,f3,f4,f5⟩:=hf b hb
    exact ⟨f3,f1,f4,f5⟩
  · obtain ⟨o,es,ep,ho,r⟩:=hm
    exact ⟨o,es,ep,k _ o (fun z=>(hf _ z).2.1 rfl) ho,r⟩
  · refine (I.hok b u e).stay (fun c v hc q=>k c v ?_ q) (fun _ q=>q) fun _ _ q=>q
    rcases hc with z | z
    · rw [z]; exact nit b u e
    · exact nit c _ z
theorem tI {h:Heap} {c:Addr} {o o':Obj} (hc:c ≠ h.objs.size) (e:(h.push o).get? c=some o'):h.get? c=some o':=by
  obtain ⟨e1,e2⟩:=Heap.get?_some_iff.mp e
  refine Heap.get?_some_iff.mpr ⟨?_,e2⟩
  cases h
  simpa [Heap.push,Array.getElem?_push,hc] using e1
section
variable {X:Cx}
end
end L2
namespace L2
open PySem PySem.Spec PyProof.Rows Bg
section
variable {X:Cx}
end
end L2
namespace L2
open PySem PySem.Spec PyProof.Rows Bg
section
variable {X:Cx}
def FK:V→List V→Hp→VK→Prop:=fun x vs H Q=>∃ i:Int,x=.int i∧vs=[]∧Q (.int ((Builtin.Int.intBits i:Nat):Int)) H
theorem Ef:MtR X "int.bit_length" FK:=by
  intro pins s σ H x xs v us Q I rx rv h
  obtain ⟨i,rfl,rfl,q⟩:=h
  obtain ⟨t,rfl⟩:=rx
  have hus:=rv.zero
  subst hus
  exact call_int_bit_length ⟨.int _,H,I.tok _,⟨_,rfl⟩,q⟩
theorem E9 {i:Int} {H:Hp} {Q:VK} (q:Q (.int ((Builtin.Int.intBits i:Nat):Int)) H):FK (.int i) [] H Q:=⟨i,rfl,rfl,q⟩
theorem GR {K:PySem.W.Frag} {H:Hp} {z:Int} {R:Prop} (q:R):tyV K "int" (.int z) H∧R:=⟨rfl,q⟩
end
theorem Ew {k:Nat} {i:Int} (h:Bd k i):¬ ((k:Int) < ((Builtin.Int.intBits i:Nat):Int)):=by
  unfold Builtin.Int.intBits
  by_cases c:i=0
  · subst c
    rw [if_pos (by decide)]
    omega
  · rw [if_neg (by simpa using c)]
    have h1:i.natAbs.log2 < k:=(Nat.log2_lt (by omega)).mpr h
    omega
end L2
namespace L2
open PySem PySem.Spec PyProof.Rows Bg
section
variable {X:Cx}
end
end L2
namespace L2
open PySem PySem.Spec PyProof.Rows Bg
section
variable {X:Cx} {tg:Expr}
end
section
variable {g:TG} {tc:TT} {te:TE} {σ0:St} {H1:Hp} {D:Addr}
end
end L2
namespace L2
open PySem PySem.Spec PyProof.Rows Bg
section
variable {X:Cx}
end
end L2
namespace L2
open PySem PySem.Spec PyProof.Rows Bg
section
variable {X:Cx} {tg:Expr}
end
end L2
namespace L2
open PySem PySem.Spec PyProof.Rows Bg
end L2
namespace L2
open PySem PySem.Spec PyProof.Rows Bg
section
variable {X:Cx}
end
end L2
namespace L2
open PySem PySem.Spec PyProof.Rows Bg
section
variable {X:Cx}
end
def TopS (mg:Str→Option Value) (x:Str) (z:Str):Prop:=∃ u,mg x=some u∧RelV (.str z) u
theorem topS_mk {K:PySem.W.Frag} {h:Heap} {mg:Str→Option Value} {x z:Str} {t:Tok} (X:K.In h) (G:h.Ns mainGlobals mg) (e:PySem.W.nsIn K mainGlobals x=some (some (.str z t))):TopS mg x z:=⟨_,PySem.W.mg_of X G e,⟨t,rfl⟩⟩
section
variable {K:PySem.W.Frag} {σ:St} {H:Hp} {Q:VK}
end
end L2
namespace L2
open PySem PySem.Spec PyProof.Rows Bg Builtin Builtin.Str
section
variable {X:Cx}
end
section
variable {H:Hp} {Q:VK}
end
end L2
namespace L2
open PySem PySem.Spec PySem.W PySem.Calls PyProof.Rows Bg PySem.Builtin PySem.Builtin.ObjectAttr PySem.Builtin.Getset_descriptor
section
variable {prog:Program} {w:World} {A:Around} {E:Value→Shared→Prop} {K:Frag} {x C:Addr} {h:Heap} {g:Array GenState} {d:Drawn} {t:Nat} {os:OsState}
end
end L2
namespace L2
open PySem PySem.Spec PyProof.Rows Bg
section
variable {X:Cx} {pins:List (Addr × Obj)} {σ:St} {H:Hp} {s:Shared}
end
section
variable {P:Program} {w:World} {K:PySem.W.Frag} {mg:Str→Option Value} {base:Heap} {N:List Str} {qual:Str} {scope:Scope} {f:Addr} {cd:Value} {A:Around} {outer:List Env} {s0:Shared} {H0:Hp} {E:XK}
end
end L2
namespace L2
open PySem PySem.Spec PyProof.Rows Bg
section
variable {X:Cx} {pl pins:List (Addr × Obj)} {σ:St} {H:Hp} {s:Shared} {EE:St→XK} {a:Addr}
end
end L2
namespace L2
open PySem PySem.Spec PyProof.Rows Bg
section
variable {X:Cx} {k j:Nat} {x:Str} {ps:List Str} {dvs:List V} {sp:Sp} {p pos:Pos} {e:Expr} {es:List Expr} {t:TA} {E:XK}
end
section
variable {P:Program} {w:World} {K:PySem.W.Frag} {mg:Str→Option Value} {base:Heap}
end
end L2
namespace L2
open PySem PySem.Spec PyProof.Rows Bg
section
variable {X:Cx} {pins:List (Addr × Obj)} {σ:St} {H:Hp} {s:Shared} {pos:Pos}
theorem Gy (I:Inv X pins σ H s):sysModules < s.heap.objs.size:=Nat.lt_trans (by decide) (show mainGlobals < s.heap.objs.size from (I.mod.glob.keeps I.bk).lt)
theorem dnew {P:Program} {w:World} {H:Hp} (h:Heap) (hb:sysModules < h.objs.size):ObjOk P w H (h.push { cls:=.type "dict",data:=.dict #[] }) h.objs.size (.dK []) :=
  ⟨Nat.zero_le _,beq_eq_false_iff_ne.mpr (Ne.symm (Nat.ne_of_lt hb)),[],.nil,Heap.DictOf.new h⟩
def DI:TE:=fun _ H Q=>∀ p H',H p=none→Same H H'→H' p=some (.dK [])→Q (.ref p) H'
theorem vJ:PE X (.Dict [] [] pos) DI:=fun pins s σ H Q I h =>
  wpAny_Dict_empty ⟨.ref s.heap.objs.size,_,I.laid (a:=s.heap.objs.size) (o:=.dK []) (t':=s.toks) (fun _ _ q=>Heap.get?_push_of_some _ q) (Nat.le_refl _) (dnew s.heap (Gy I)),rfl,
    h _ _ (I.hok.fresh (Nat.le_refl _)) (z4 (I.hok.fresh (Nat.le_refl _)) _) zk⟩
theorem u9 {σ:St} {H:Hp} {Q:VK} (q:∀ p H',H p=none→Same H H'→H' p=some (.dK [])→Q (.ref p) H'):DI σ H Q:=q
end
end L2
namespace L2
open PySem PySem.Spec PyProof.Rows Bg
section
variable {X:Cx}
structure WE (X:Cx) (e:Expr) (t:TE):Prop where
  w:PE X e t
structure WA (X:Cx) (es:List Expr) (t:TA):Prop where
  w:PA X es t
def DT:Expr→Bool
  | .Starred _ _=>true
  | _=>false
theorem EG {e:Expr} {es:List Expr} {env:Env} (h:DT e=false):starEach (e :: es) env=(false,eval e env) :: starEach es env:=by
  cases e <;> first | rfl | exact absurd (show true=false from h) (by decide)
theorem xa {e:Expr} {t:TE} (h:PE X e t):WE X e t:=⟨h⟩
theorem yz:WA X [] tNil:=⟨zd⟩
theorem zL {e:Expr} {es:List Expr} {te:TE} {t:TA} (ha:WE X e te) (hr:WA X es t) (h:DT e=false:=by rfl):WA X (e :: es) (Ey te t):=⟨za ha.w hr.w (EG h)⟩
theorem xW {es:List Expr} {t:TA} {x1:Nat} {pos:Pos} (h:WA X es t):WE X (.Tuple es x1 pos) (tTup t):=⟨zK h.w⟩
theorem ve {es:List Expr} {t:TA} {pos:Pos} (h:WA X es t):WE X (.List es pos) (tLst t):=⟨zU h.w⟩
end
end L2
namespace L2
open PySem PySem.Spec PyProof.Rows Bg
end L2
namespace L2
open PySem PySem.Spec PyProof.Rows Bg
end L2
namespace L2
open PySem PySem.Spec PyProof.Rows Bg
end L2
namespace L2
open PySem PySem.Spec PyProof.Rows Bg
end L2
namespace L2
open PySem PySem.Spec PyProof.Rows Bg
section
variable {X:Cx}
end
end L2
namespace L2
open PySem PySem.Spec PyProof.Rows Bg
theorem BI {X:Cx} {n:Nat} {H:Hp} {a b:Addr} {xs ys:List V} {bs:List Bool} {pins:List (Addr × Obj)} {σ:St} {s:Shared} {A:Around} (ha:SqL X.K H a xs) (hb:SqL X.K H b ys) (he:EqVs X n H xs ys bs) (I:Inv X pins σ H s) (hu:A.units + 4 * (n + 1) < cLine) :
    ∃ (is js:Array Value),s.heap.IsList a is∧s.heap.IsList b js∧is.size=js.size∧(∀ j (h1:j < is.size) (h2:j < js.size),SeqAt.EqAt A.in1 s is[j] js[j] (bs.getD j false))∧((List.range is.size).all (fun j=>bs.getD j false))=bs.all id:=by
  obtain ⟨is,r1,p1,_⟩:=I.list ha
  obtain ⟨js,r2,p2,_⟩:=I.list hb
  obtain ⟨l1,l2⟩:=he.len
  have q1:=r1.length
  have q2:=r2.length
  refine ⟨is.toArray,js.toArray,p1.isList,p2.isList,by rw [List.size_toArray,List.size_toArray]; omega,fun j h1 h2=>?_,?_⟩
  · have hj1:j < xs.length:=by rw [q1]; simpa using h1
    have hj2:j < ys.length:=by rw [q2]; simpa using h2
    obtain ⟨v,ev,rv⟩:=r1.get (List.getElem?_eq_getElem hj1)
    obtain ⟨u,eu,ru⟩:=r2.get (List.getElem?_eq_getElem hj2)
    have e1:is.toArray[j]=v:=by
      have:is[j]?=some v:=ev
      rw [List.getElem?_eq_getElem (by simpa using h1)] at this
      simpa using Option.some.inj this
    have e2:js.toArray[j]=u:=by
      have:js[j]?=some u:=eu
      rw [List.getElem?_eq_getElem (by simpa using h2)] at this
      simpa using Option.some.inj this
    rw [e1,e2]
    exact he.at (List.getElem?_eq_getElem hj1) (List.getElem?_eq_getElem hj2) pins σ s v u A.in1 I rv ru (by show A.units + 1 + 4 * n < cLine; omega)
  · have e1:is.toArray.size=bs.length:=by rw [List.size_toArray]; omega
    rw [e1,v9]
def rEqL (X:Cx):R2:=fun x y H Q=>∃ a b xs ys bs n,x=.ref a∧y=.ref b∧n ≤ 9∧SqL X.K H a xs∧SqL X.K H b ys∧EqVs X n H xs ys bs∧Q (.bl (bs.all id)) H
theorem Fr {X:Cx} (hu:X.A.units + 64 < cLine):OpR X (compareOp .Eq) (rEqL X):=by
  intro pins s σ H x y v u Q I rx ry h
  obtain ⟨a,b,xs,ys,bs,n,rfl,rfl,hn,ha,hb,he,q⟩:=h
  cases rx
  cases ry
  obtain ⟨is,js,p1,p2,hz,hj,e⟩:=BI (A:=X.A) ha hb he I (by omega)
  refine SeqAt.eq_listAt p1 p2 hz (by omega) hj ?_
  rw [e]
  exact ⟨.bl _,H,I,rfl,q⟩
theorem F1 {X:Cx} {H:Hp} {Q:VK} {a b:Addr} {ns:List Int} (ha:H a=some (.lst (ns.map V.int))) (hb:H b=some (.lst (ns.map V.int))) (q:Q (.bl true) H):rEqL X (.ref a) (.ref b) H Q:=by
  have key:∀ ms:List Int,EqVs X 0 H (ms.map V.int) (ms.map V.int) (ms.map fun _=>true):=by
    intro ms
    induction ms with
    | nil=>exact .nil
    | cons m ms ih =>
      have e:EqV X 0 H (.int m) (.int m) true:=by
        have:=EqV.int (X:=X) (n:=0) (H:=H) m m
        simpa using this
      exact .cons e ih
  refine ⟨a,b,_,_,_,0,rfl,rfl,Nat.zero_le _,SqL.of ha,SqL.of hb,key ns,?_⟩
  have e:(ns.map fun _=>true).all id=true:=by simp
  rw [e]
  exact q
theorem DC {X:Cx} {H:Hp} {Q:VK} {a b:Addr} {C D:List Cell} (ha:H a=some (.lst (C.map Cell.v))) (hb:H b=some (.lst (D.map Cell.v))) (hC:∀ c ∈ C,c.At H) (hD:∀ c ∈ D,c.At H) (e:C.map Cell.b=D.map Cell.b) (q:Q (.bl true) H):rEqL X (.ref a) (.ref b) H Q:=by
  have key:∀ (C D:List Cell),(∀ c ∈ C,c.At H)→(∀ c ∈ D,c.At H)→C.map Cell.b=D.map Cell.b→EqVs X 2 H (C.map Cell.v) (D.map Cell.v) (C.map fun _=>true):=by
    intro C
    induction C with
    | nil =>
      intro D _ _ e
      have:D=[]:=by
        cases D with
        | nil=>rfl
        | cons d D=>simp at e
      subst this
      exact .nil
    | cons c C ih =>
      intro D hC hD e
      cases D with
      | nil=>simp at e
      | cons d D =>
        simp only [List.map_cons,List.cons.injEq] at e
        have ac:=hC c List.mem_cons_self
        have ad:=hD d List.mem_cons_self
        have w1:=ac.w
        have w2:=ad.w
        have h1:=ac.h
        have h2:=ad.h
        rw [← e.1] at w2 h2
        have e2:EqV X 2 H (.ref c.p) (.ref d.p) true:=Ez ac.t ad.t (eqv3 w1 w2) (eqv3 h1 h2)
        exact .cons e2 (ih D (fun x hx=>hC x (List.mem_cons_of_mem _ hx)) (fun x hx=>hD x (List.mem_cons_of_mem _ hx)) e.2)
  refine ⟨a,b,_,_,_,2,rfl,rfl,by decide,SqL.of ha,SqL.of hb,key C D hC hD e,?_⟩
  have e':(C.map fun _=>true).all id=true:=by simp
  rw [e']
  exact q
theorem Bx {H:Hp} {Q:VK} {l:Addr} {xs:List V} (h:H l=some (.lst xs)) (q:∀ H2,SameX l H H2→Q .non H2):DB (.ref l) [] H Q:=⟨l,xs,rfl,rfl,h,q _ fun b o e n=>by rw [zt n]; exact e⟩
structure H5 (d N:Int) (H:Hp) (p:Addr) (C:List Cell):Prop where
  l:H p=some (.lst (C.map Cell.v))
  at':∀ c ∈ C,c.At H
  ok:∀ c ∈ C,B5 d N c.b
end L2
namespace L2
open PySem PySem.Spec PyProof.Rows Bg
section
variable {M:Model} {A:Around} {E:Value→Shared→Prop} {s:Shared}
end
section
variable {X:Cx} {pins:List (Addr × Obj)} {σ:St} {H:Hp} {s:Shared}
end
section
variable {X:Cx} {pins:List (Addr × Obj)} {σ:St} {H:Hp} {s:Shared} {scope:Scope} {cl:List (Str × Addr)} {own:List Str} {js:List Nat} {fp:List Addr} {C:Addr} {s3:Shared} {H3:Hp} {E:XK}
end
end L2
namespace L2
open PySem PySem.Spec PyProof.Rows Bg
section
variable {X:Cx} {pins:List (Addr × Obj)} {σ:St} {H:Hp} {s:Shared} {scope:Scope} {cl:List (Str × Addr)} {own:List Str} {js:List Nat} {fp:List Addr} {E:XK}
end
end L2
namespace L2
open PySem PySem.Spec PyProof.Rows Bg
end L2
namespace L2
open PySem PySem.Spec PyProof.Rows Bg
theorem Inv.retrack {X:Cx} {pins:List (Addr × Obj)} {σ:St} {H:Hp} {s:Shared} {d:Addr} {u u':HO} (I:Inv X pins σ H s) (e:H d=some u) (nf:∀ o v,X.H₀ d ≠ some (.frz o v)) (nt:∀ xs,u ≠ .tup xs) (nb:∀ ps,u ≠ .tbl ps) (no:∀ y,u ≠ .own y)
    (new:ObjOk X.prog X.w H s.heap d u') (no':∀ y,u' ≠ .own y):Inv X pins σ (upd H d u') s:=by
  have ne:∀ {b},H b=none→b ≠ d:=fun {b} q z=>by rw [z,e] at q; cases q
  have st:∀ b v,ObjOk X.prog X.w H s.heap b v→ObjOk X.prog X.w (upd H d u') s.heap b v:=fun b v x=>x.stay (fun c w' _ q=>q)
    (fun c q=>by rw [zt (fun z=>no _ (by rw [z,e] at q; exact Option.some.inj q))]; exact q)
    (fun c xs q=>by rw [zt (fun z=>nt _ (by rw [z,e] at q; exact Option.some.inj q))]; exact q)
  refine ⟨I.ok,I.os,I.bare,⟨I.base.keep,I.base.slot,fun b o q n hx=>?_,I.base.there,fun b xs q=>?_,fun b o v q=>?_,fun b ps q=>?_⟩,I.loc,I.cell,?_,fun x c q=>?_,fun p hp=>?_,fun b v q=>?_,I.len⟩
  · have k:=I.base.free b o q n hx
    rw [zt (ne k)]
    exact k
  · have k:=I.base.tups b xs q
    rw [zt (fun z=>nt xs (by rw [z,e] at k; exact Option.some.inj k))]
    exact k
  · have k:=I.base.frzs b o v q
    rw [zt (fun z=>nf o v (by rw [← z]; exact q))]
    exact k
  · obtain ⟨more,k⟩:=I.base.tbls b ps q
    exact ⟨more,by rw [zt (fun z=>nb _ (by rw [z,e] at k; exact Option.some.inj k))]; exact k⟩
  · rw [zt (ne I.free)]; exact I.free
  · rw [zt (ne (I.freeC x c q))]; exact I.freeC x c q
  · obtain ⟨k1,k2,k3⟩:=I.pin p hp
    exact ⟨k1,by rw [zt (ne k2)]; exact k2,k3⟩
  · by_cases z:b=d
    · subst z
      rw [zk] at q
      cases q
      exact st _ _ new
    · rw [zt z] at q
      exact st _ _ (I.hok b v q)
def Itd (d:Addr) (ob:Obj) (kvs:List (Key × V)):It :=
  ⟨fun i H=>H d=some (.frz ob (.dK kvs))∧i < kvs.length,fun i H x H'=>H'=H∧∃ kv,kvs[i]?=some kv∧x=kV kv.1,fun i H=>H d=some (.frz ob (.dK kvs))∧kvs.length ≤ i⟩
theorem Bw {P:Program} {w:World} {k:Key} {u:Value} (h:(zV P w).is k u=true):RelV (kV k) u:=by
  cases k with
  | inl i =>
    have h:Value.isInt i u=true:=h
    unfold Value.isInt at h
    split at h
    · exact ⟨_,by rw [show i=_ from (beq_iff_eq.mp h).symm]⟩
    · cases h
  | inr x =>
    have h:Value.isStrOf x u=true:=h
    unfold Value.isStrOf at h
    split at h
    · exact ⟨_,by rw [show x=_ from (beq_iff_eq.mp h).symm]⟩
    · cases h
theorem An {P:Program} {w:World} {H:Hp} {h:Heap} {d:Addr} {ob:Obj} {es:Array DictEntry} {ep:Nat} {kvs:List (Key × V)} (hdat:ob.data=.dict es ep) (ok:HOk P w H h) (e:H d=some (.frz ob (.dK kvs))):∃ vs,KV kvs vs∧h.DictAt (zV P w) d vs ep:=by
  obtain ⟨g,_,_,vs,r,o,es',ep',g',c,dd,r2⟩:=ok d _ e
  have:o=ob:=by rw [g] at g'; exact (Option.some.inj g').symm
  subst this
  rw [hdat] at dd
  cases dd
  exact ⟨vs,r,o,es,g,c,hdat,r2⟩
theorem B8 {P:Program} {w:World} {K:PySem.W.Frag} {tg:Expr} (d it:Addr) {ob:Obj} {es:Array DictEntry} {ep:Nat} {kvs:List (Key × V)} (hdat:ob.data=.dict es ep):Turn P w K tg (Itd d ob kvs) [it] it (fun i h=>h.IsKeyIter it d i kvs.length ep) where
  mem:=by simp
  obj:=fun i h st b hb=>by
    have e:b=it:=by simpa using hb
    subst e
    obtain ⟨o,e,c,dd⟩:=st
    exact ⟨o,e,fun v z=>by rw [dd] at z; cases z⟩
  keep:=fun i h h' st k=>st.at fun o e=>k it (by simp) o e
  item:=by
    intro X hP hw hK hc i pins s σ H E I hf st hg
    subst hP hw hK
    obtain ⟨hfz,hi⟩:=hg
    obtain ⟨vs,r,da⟩:=An hdat I.hok hfz
    have hl:=r.length
    obtain ⟨f0,f1,f2,f3,f4,f5⟩:=hf it (by simp)
    obtain ⟨⟨k,v⟩,hk⟩:∃ p,vs[i]?=some p:=⟨vs[i]'(by omega),by simp⟩
    have hkk:kvs[i]?.map (·.1)=some k:=by
      have:=congrArg (·[i]?) r.keys
      simp only [List.getElem?_map,hk] at this
      exact this
    obtain ⟨kv,hkv,ekv⟩:∃ kv,kvs[i]?=some kv∧kv.1=k:=by
      cases q:kvs[i]? with
      | none=>rw [q] at hkk; cases hkk
      | some kv=>rw [q] at hkk; exact ⟨kv,rfl,Option.some.inj hkk⟩
    rw [hl] at st ⊢
    refine wpAny_pyNext_dict_item st da hk fun key h' hkey st' sb=>?_
    have I1:Inv X pins σ H { s with heap:=h' }:=I.turned (t':=s.toks) (fun b o hb e=>(sb.2 b hb).trans e) f0 f1 f3 f4 f5
    obtain ⟨o,e,c,dd⟩:=id st'
    exact ⟨key,rfl,BG (s:={ s with heap:=h' }) e c dd (by decide) ⟨kV k,H,I1,Bw hkey,⟨rfl,kv,hkv,by rw [ekv]⟩,st',fun b hb=>(hf b hb).1⟩⟩
  done:=by
    intro X hP hw hK hc i pins s σ H E I hf st hg
    subst hP hw hK
    obtain ⟨hfz,hi⟩:=hg
    obtain ⟨vs,r,da⟩:=An hdat I.hok hfz
    have hl:=r.length
    obtain ⟨f0,f1,f2,f3,f4,f5⟩:=hf it (by simp)
    rw [hl] at st
    exact wpAny_pyNext_dict_end (I.ok.hd hc) st da (List.getElem?_eq_none (by omega)) fun h' eb=>⟨rfl,I.turned (t':=s.toks) (fun b o hb e=>eb b o hb e) f0 f1 f3 f4 f5⟩
  self:=fun _ _ _ _ _ st h=>wpAny_pyIter_keyiter st h
def NoFz (H₀:Hp) (d:Addr):Prop:=∀ o v,H₀ d ≠ some (.frz o v)
def ER (H₀:Hp) (td:TE):TI:=fun σ H R=>td σ H fun x H1=>∃ d kvs,x=.ref d∧H1 d=some (.dK kvs)∧∀ ob,NoFz H₀ d→R (Itd d ob kvs) (upd H1 d (.frz ob (.dK kvs)))
theorem Inv.nofrz {X:Cx} {pins:List (Addr × Obj)} {σ:St} {H:Hp} {s:Shared} {d:Addr} {kvs:List (Key × V)} (I:Inv X pins σ H s) (e:H d=some (.dK kvs)):∀ o v,X.H₀ d ≠ some (.frz o v):=fun o v q=>by
  have k:=I.base.frzs d o v q
  rw [e] at k
  cases k
theorem Inv.freeze {X:Cx} {pins:List (Addr × Obj)} {σ:St} {H:Hp} {s:Shared} {d:Addr} {kvs:List (Key × V)} {ob:Obj} (I:Inv X pins σ H s) (e:H d=some (.dK kvs)) (g:s.heap.get? d=some ob):Inv X pins σ (upd H d (.frz ob (.dK kvs))) s :=
  I.retrack e (I.nofrz e) (fun _ z=>by cases z) (fun _ z=>by cases z) (fun _ z=>by cases z) ⟨g,I.hok d _ e⟩ (fun _ z=>by cases z)
theorem Inv.thaw {X:Cx} {pins:List (Addr × Obj)} {σ:St} {H:Hp} {s:Shared} {d:Addr} {kvs:List (Key × V)} {ob:Obj} (I:Inv X pins σ H s) (nf:∀ o v,X.H₀ d ≠ some (.frz o v)) (e:H d=some (.frz ob (.dK kvs))):Inv X pins σ (upd H d (.dK kvs)) s :=
  I.retrack e nf (fun _ z=>by cases z) (fun _ z=>by cases z) (fun _ z=>by cases z) (I.hok d _ e).2 (fun _ z=>by cases z)
theorem A3 {X:Cx} {tg e:Expr} {td:TE} (hd:PE X e td):PI X tg e (ER X.H₀ td):=by
  intro pins s σ H R I h
  refine thn (hd pins s σ H _ I h) fun v s1 ⟨x,H1,I1,r1,q1⟩=>?_
  obtain ⟨d,kvs,ex,hq,q⟩:=q1
  subst ex
  cases r1
  obtain ⟨z,y,vs,r,dof⟩:=id (I1.hok d _ hq)
  obtain ⟨ep,o,es,ho,r2⟩:=dof.dictAt
  obtain ⟨c,hdat,r3⟩:=id r2
  refine wpAny_pyIter_dict y ⟨o,es,ho,r2⟩ ?_
  have I2:=(I1.kept (h':=s1.heap.push { cls:=.type "dict_keyiterator",data:=.fields #[.ref d,.int 0 0,.int vs.length 0,.int ep 0] }) (t':=s1.toks) fun b o e=>Heap.get?_push_of_some _ e).freeze hq (Heap.get?_push_of_some _ ho)
  refine ⟨s1.heap.objs.size,[s1.heap.objs.size],_,_,_,rfl,I2,B8 d _ hdat,?_,fun b hb=>?_,q o (I1.nofrz hq)⟩
  · rw [r.length]
    exact ⟨_,Heap.get?_push_size _ rfl,rfl,rfl⟩
  · have e:b=s1.heap.objs.size:=by simpa using hb
    subst e
    have hn:=I1.hok.fresh (Nat.le_refl s1.heap.objs.size)
    exact I1.fpOk (Nat.le_refl _) (by rw [zt (fun z=>by rw [z,hq] at hn; cases hn)]; exact hn)
def DP (H₀:Hp) (td:TE) (g:TG) (tc:TT) (te:TE) (n:Nat) (js:List Nat):TE:=fun σ H Q=>ui (ER H₀ td) g tc te n js σ H fun v H2=>∃ d ob kvs,NoFz H₀ d∧H2 d=some (.frz ob (.dK kvs))∧Q v (upd H2 d (.dK kvs))
theorem t8 {X:Cx} {elt iter tgt:Expr} {ifs:List Expr} {scope:Scope} {pos:Pos} {td:TE} {g:TG} {tc:TT} {te:TE} (own:List Str) (js:List Nat)
    (hc:X.calm=true) (hi:PI X tgt iter (ER X.H₀ td))
    (hg:∀ cl fp C s3 H3,PG (z5 X scope cl own js fp C s3 H3) tgt g) (ht:∀ cl fp C s3 H3,PIfs (z5 X scope cl own js fp C s3 H3) ifs tc) (he:∀ cl fp C s3 H3,PE (z5 X scope cl own js fp C s3 H3) elt te)
    (hfree':(scope.names.all fun y=>y.2 != .free || X.env.scope.names.lookup y.1 == some .cell)=true:=by rfl)
    (hjs':(js.all fun j=>scope.names.lookup (X.N.getD j Str.empty) == some .free && X.env.scope.names.lookup (X.N.getD j Str.empty) == some .cell)=true:=by rfl)
    (hcell':(scope.names.all fun y=>y.2 != .cell)=true:=by rfl) (hnames':(scope.names.all fun y=>y.2 != .local || scope.names.lookup y.1 == some .local)=true:=by rfl)
    (hkind:scope.kind=.function:=by rfl) (hs:∀ x,foldedSetIterable iter X.env x=pure x:=by intro _; rfl) :
    PE X (.ListComp elt [⟨tgt,iter,ifs,0⟩] scope pos) (DP X.H₀ td g tc te own.length js):=by
  intro pins s σ H Q I h
  rw [eval_ListComp]
  refine v6 own js hc hi hg ht he (tS hfree') (Ei hjs') (u7 hcell') (vC hnames') hkind hs I h fun D H3 H5 σ5 s3 s6 fp cl I3 f3 I6 qn=>?_
  obtain ⟨d,ob,kvs,nf,e,qn⟩:=qn
  obtain ⟨m,hm,_⟩:=id I6.loc
  exact ⟨m,hm,fun h' sb=>⟨.ref D,_,(wI I3 f3 I6 sb).thaw nf e,rfl,qn⟩⟩
section
variable {g:TG} {tc:TT} {te:TE} {D:Addr} {H1:Hp} {σ0:St} {Q:VK}
theorem uA {R:Hp→Prop} {d:Addr} {ob:Obj} {kvs:List (Key × V)} (Pv:Nat→List V→St→Hp→Prop) (h0:Pv 0 [] σ0 (upd H1 D (.lst [])))
    (hl:∀ i xs σ H,i ≤ kvs.length→Pv i xs σ H→H d=some (.frz ob (.dK kvs)))
    (hs:∀ i kv xs σ H,kvs[i]?=some kv→Pv i xs σ H→g (kV kv.1) σ H fun σ3 H3=>tc σ3 H3 fun b H4=>if b=true then te σ3 H4 fun v H5=>z9 (.ref D) [v] H5 fun _ H6=>vQ kvs.length Pv i σ3 H6 else vQ kvs.length Pv i σ3 H4)
    (hd:∀ xs σ H,Pv kvs.length xs σ H→R H) :
    ∃ W:Nat→Nat→St→Hp→Prop,(∃ m,W 0 m σ0 (upd H1 D (.lst [])))∧∀ i m σ' H',W i m σ' H'→((Itd d ob kvs).stop i H'∧R H') ∨ ((Itd d ob kvs).go i H'∧∀ x H2,(Itd d ob kvs).yld i H' x H2→g x σ' H2 fun σ3 H3=>tc σ3 H3 fun b H4 =>
      if b=true then te σ3 H4 fun v H5=>z9 (.ref D) [v] H5 fun _ H6=>∃ m',m' < m∧W (i + 1) m' σ3 H6 else ∃ m',m' < m∧W (i + 1) m' σ3 H4):=by
  refine ⟨fun i m σ H=>m=kvs.length - i∧i ≤ kvs.length∧∃ xs,Pv i xs σ H,⟨kvs.length,by simp,Nat.zero_le _,[],h0⟩,?_⟩
  rintro i m σ H ⟨rfl,hi,xs,p⟩
  have q:=hl i xs σ H hi p
  by_cases hlt:i < kvs.length
  · refine .inr ⟨⟨q,hlt⟩,fun x H' y=>?_⟩
    obtain ⟨e,kv,hkv,ex⟩:=y
    subst e ex
    exact hs i kv xs σ _ hkv p
  · have e:i=kvs.length:=by omega
    subst e
    exact .inl ⟨⟨q,Nat.le_refl _⟩,hd xs σ H p⟩
theorem Ba {H₀:Hp} {td:TE} {σ:St} {H:Hp} {n:Nat} {js:List Nat} (h:td σ H fun x H1=>∃ d kvs,x=.ref d∧H1 d=some (.dK kvs)∧∀ ob,NoFz H₀ d→∀ D,(upd H1 d (.frz ob (.dK kvs))) D=none→∃ W:Nat→Nat→St→Hp→Prop,(∃ m,W 0 m (vn n js σ) (upd (upd H1 d (.frz ob (.dK kvs))) D (.lst []))) ∧
  ∀ i m σ' H',W i m σ' H'→((Itd d ob kvs).stop i H'∧∃ d' ob' kvs',NoFz H₀ d'∧H' d'=some (.frz ob' (.dK kvs'))∧Q (.ref D) (upd H' d' (.dK kvs'))) ∨ ((Itd d ob kvs).go i H'∧∀ x H2,(Itd d ob kvs).yld i H' x H2→g x σ' H2 fun σ3 H3=>tc σ3 H3 fun b H4 =>
    if b=true then te σ3 H4 fun v H5=>z9 (.ref D) [v] H5 fun _ H6=>∃ m',m' < m∧W (i + 1) m' σ3 H6 else ∃ m',m' < m∧W (i + 1) m' σ3 H4)):DP H₀ td g tc te n js σ H Q:=h
end
def OwnM (P:Program) (w:World) (K:PySem.W.Frag) (mg:Str→Option Value) (base:Heap) (CX:CXT) (C:Addr) (k:Nat) (m:Str) (ps:List Str) (dvs:List V) (sp:Sp):Prop :=
  ∃ (f:Addr) (fd:FuncData) (ds:List Value),FnOk P w K mg base CX k f fd ps sp∧Cls K C∧Meth K C m f∧Binds K fd ps ds∧Vals dvs ds
def OwnI (P:Program) (w:World) (K:PySem.W.Frag) (mg:Str→Option Value) (base:Heap) (CX:CXT) (C:Addr) (k:Nat) (x:Str) (ps:List Str) (dvs:List V) (sp:Sp):Prop :=
  ∃ (f:Addr) (fd:FuncData) (ds:List Value),FnOk P w K mg base CX k f fd ps sp∧Mk K C f∧mg x=some (.ref C)∧Binds K fd ps ds∧Vals dvs ds
section
variable {X:Cx} {CX:CXT} {k j:Nat} {C:Addr} {x m:Str} {ps ks:List Str} {dvs:List V} {sp:Sp} {E:XK} {p pos apos:Pos} {e o:Expr} {es:List Expr} {ta:TE} {t tk:TA} {pl:Sem Bool} {kws:List Keyword} {gV:List V→List V→List V}
theorem wQ (O:OwnM X.prog X.w X.K X.mg X.base CX C k m ps dvs sp) (hx:xu CX X E) (hr:Room j X.A) (he:PE X o ta) (ha:PA X (e :: es) t) (hk:k ≤ j:=by decide)
    (hst:starEach (e :: es) X.env=(false,eval e X.env) :: starEach es X.env:=by rfl) (hpl:(backTo pos (starEach es X.env)).any (·.1)=false:=by rfl)
    (ht:eval (.Call (.Attribute o m apos) (e :: es) [] pos) X.env=(do
      let ov ← eval o X.env
      standAt apos.atName
      let (f,first) ← holding [ov] (getMethod ov m pl)
      callWith pos f first (backTo pos (starEach (e :: es) X.env)) (backToKw pos (keywordEach [] X.env))):=by rfl):PE X (.Call (.Attribute o m apos) (e :: es) [] pos) (Bi C m sp dvs E ta t):=by
  obtain ⟨f,fd,ds,F,c,hm,hb,hd⟩:=O
  exact D6 he c hm F (hr.mono hk) hb hd hx ha hst hpl ht
theorem Aq (O:OwnM X.prog X.w X.K X.mg X.base CX C k m ps dvs sp) (hx:xu CX X E) (hr:Room j X.A) (he:PE X o ta) (hk:k ≤ j:=by decide)
    (ht:eval (.Call (.Attribute o m apos) [] [] pos) X.env=(do
      let ov ← eval o X.env
      standAt apos.atName
      let (f,first) ← holding [ov] (getMethod ov m pl)
      callWith pos f first (backTo pos (starEach [] X.env)) (backToKw pos (keywordEach [] X.env))):=by rfl):PE X (.Call (.Attribute o m apos) [] [] pos) (Bi C m sp dvs E ta tNil):=by
  obtain ⟨f,fd,ds,F,c,hm,hb,hd⟩:=O
  exact CG he c hm F (hr.mono hk) hb hd hx ht
theorem Eg (O:OwnI X.prog X.w X.K X.mg X.base CX C k x ps dvs sp) (hx:xu CX X E) (hr:Room j X.A) (hg:Gl X x) (ha:PA X (e :: es) t) (hk:k + 1 ≤ j:=by decide)
    (hdb:(x == ("__debug__":Str))=false:=by decide) (he:starEach (e :: es) X.env=(false,eval e X.env) :: starEach es X.env:=by rfl) (hpl:(backTo pos (starEach es X.env)).any (·.1)=false:=by rfl):PE X (.Call (.Name x p) (e :: es) [] pos) (Ej C sp dvs E t):=by
  obtain ⟨f,fd,ds,F,M,hm,hb,hd⟩:=O
  exact EJ M F (hr.mono hk) hg hm hb hd hx ha hdb he hpl
end
def TopM (K:PySem.W.Frag) (C:Addr) (m qual:Str) (st:Stmt):Prop:=∃ (f:Addr) (fd:FuncData),Fun K m qual st f fd∧Meth K C m f
def TopIn (K:PySem.W.Frag) (mg:Str→Option Value) (C:Addr) (x qual:Str) (st:Stmt) (its:List Value):Prop:=∃ (f:Addr) (fd:FuncData),FunD K "__init__" qual st f fd its∧Mk K C f∧mg x=some (.ref C)
section
variable {P:Program} {w:World} {K:PySem.W.Frag} {mg:Str→Option Value} {base:Heap} {CX:CXT} {C:Addr} {k:Nat} {x m qual:Str} {st:Stmt} {ps ks:List Str} {dvs:List V} {its ds:List Value} {sp:Sp}
theorem TopM.own (T:TopM K C m qual st) (c:Cls K C)
    (hb:∀ (kV doc pm:Value) (an:Option Addr) (cdv ct:Value) (us:List Value),us.length=ps.length→bindArgs (PySem.W.fnOf m qual (defArgs st) (defBody st) (defScope st) .none kV doc pm an cdv ct) ⟨us,[]⟩=pure (ps.zip us))
    (h:∀ f fd,Fun K m qual st f fd→FnOk P w K mg base CX k f fd ps sp):OwnM P w K mg base CX C k m ps [] sp:=by
  obtain ⟨f,fd,F,hm⟩:=T
  exact ⟨f,fd,[],h f fd F,c,hm,F.binds hb,.nil⟩
theorem TopIn.own (T:TopIn K mg C x qual st its)
    (hb:∀ (T:Addr) (kV doc pm:Value) (an:Option Addr) (cdv ct:Value) (us:List Value),(us ++ ds).length=ps.length→∃ k:Option (Array Value)→Sem (List (Str × Value)),
      bindArgs (PySem.W.fnOf "__init__" qual (defArgs st) (defBody st) (defScope st) (.ref T) kV doc pm an cdv ct) ⟨us,[]⟩=seqItems? (.ref T) >>= k∧k (some its.toArray)=pure (ps.zip (us ++ ds)))
    (hd:Vals dvs ds) (h:∀ f fd,FunD K "__init__" qual st f fd its→FnOk P w K mg base CX k f fd ps sp):OwnI P w K mg base CX C k x ps dvs sp:=by
  obtain ⟨f,fd,F,M,hm⟩:=T
  exact ⟨f,fd,ds,h f fd F,M,hm,F.binds hb,hd⟩
end
theorem topM_mk {K:PySem.W.Frag} {C:Addr} {m qual:Str} {st:Stmt} {f:Addr} {oc:Value} {od an:Option Addr} {osl:Array (Option Value)} {kV doc pm cdv ct:Value}
    (l:K.lookup f=some ⟨oc,od,.func (PySem.W.fnOf m qual (defArgs st) (defBody st) (defScope st) .none kV doc pm an cdv ct),osl⟩)
    (c:PySem.W.codeIn K cdv qual=true) (k:PySem.W.keepIn K (.ref f)=true) (a:PySem.W.findIn K (.ref C) m=some (some (.ref f))) (n:PySem.W.isFn K (.ref f)=true):TopM K C m qual st:=⟨f,_,DX l c k,⟨a,n,k⟩⟩
theorem topIn_mk {K:PySem.W.Frag} {h:Heap} {mg:Str→Option Value} {C:Addr} {x qual:Str} {st:Stmt} {f T:Addr} {oc:Value} {od an:Option Addr} {osl:Array (Option Value)} {kV doc pm cdv ct:Value} {its:List Value} {n:Nat} {to:Obj} (X:K.In h) (G:h.Ns mainGlobals mg)
    (l:K.lookup f=some ⟨oc,od,.func (PySem.W.fnOf "__init__" qual (defArgs st) (defBody st) (defScope st) (.ref T) kV doc pm an cdv ct),osl⟩)
    (c:PySem.W.codeIn K cdv qual=true) (k:PySem.W.keepIn K (.ref f)=true) (t:K.lookup T=some to) (d:to.data=.seq its.toArray n)
    (m:PySem.W.makesIn K C=true) (i:PySem.W.findIn K (.ref C) "__init__"=some (some (.ref f))) (nf:PySem.W.isFn K (.ref f)=true) (kc:PySem.W.keepIn K (.ref C)=true) (a:PySem.W.nsIn K mainGlobals x=some (some (.ref C))):TopIn K mg C x qual st its :=
  ⟨f,_,⟨⟨oc,od,T,kV,doc,pm,an,cdv,ct,osl,_,n,rfl,l,c,t,d⟩,k⟩,⟨m,i,nf,kc⟩,PySem.W.mg_of X G a⟩
end L2
namespace L2
open PySem PySem.Spec PyProof.Rows Bg
section
variable {prog:Program} {w:World} {κ:Type} [DecidableEq κ] {knd:KeyKind prog w κ} {A:Around} {E:Value→Shared→Prop}
theorem xl:entryFor table "dict.update.loop"=some Builtin.«dict.update.loop»:=entryFor_of_tree (by kernel_rfl)
theorem vh:typeLookup (.type "list") "keys"=pure none:=by rw [typeLookup_type,builtinLookup_eq_fast]; kernel_rfl
theorem u6 {s:Shared} {a:Addr} {o:Obj} {xs:Array Value} {k:Nat} {Q:Option Value→Shared→Prop} (hx:s.heap.get? a=some o) (hc:o.cls=.type "list") (hdat:o.data=.seq xs k) (hd:o.dict=none) (hA:A.handled=none)
    (q:∀ h' tk e,Heap.NewExcOf s.heap h' e "AttributeError"→Q none { s with heap:=h',toks:=tk }):wpAny (model prog w) A (getAttr? (.ref a) "keys") Q E s:=by
  obtain ⟨c,dct,dat,sl⟩:=o
  simp only at hc hdat hd
  subst hc hdat hd
  obtain ⟨hp,g,d,tk,os⟩:=s
  have tT:∀ tk',(⟨hp,g,d,tk',os⟩:Shared).TypeIs (.ref a) "list":=fun _=>⟨_,hx,rfl⟩
  have k1:=sub_AttributeError
  have k3:=F.slot_list_getattribute.lookup
  have k4:=F.slot_list_getattribute.bind (.ref a)
  have k5:=am_list_getattr_none
  unfold getAttr? getAttrBy? getAttrBy
  repeat (any_goals (first | assumption | exact tT _ | ((with_reducible show wpAny _ _ (call (Value.builtin "list.__getattribute__") _ _) _ _ _); refine call_meets F.slot_list_getattribute (tT _) am_entry_list_getattribute (F.args_list_getattribute_2 _ _) (meets_getattribute_miss_list a xs k sl "keys" _ vh (by decide +kernel)) ⟨hx,hA,fun h' tk' e hx'=>?_⟩) | wp_step))
  obtain ⟨t',u',he⟩:=hx'.there
  show wpAny _ _ (getattributeRaised _ _ _ _ _ _ _) _ _ _
  unfold getattributeRaised
  repeat (any_goals (first | assumption | wp_step))
  exact q _ _ _ hx'.of
theorem uG (hh:A.handled=none) {R:Result→Shared→Prop} {d it l:Addr} (hdi:d ≠ it) (hdl:l ≠ d) (hli:l ≠ it) {items:List Value} {rs:List (κ × Value)} {s0:Shared}
    (hit0:∀ (i:Nat) (x:Value),items[i]?=some x→∃ (p:Addr) (k:κ) (v key:Value),x=.ref p∧p ≠ d∧p ≠ it∧s0.heap.IsTuple p #[key,v]∧rs[i]?=some (k,v)∧knd.is k key=true)
    (hlen:rs.length=items.length) (hnd:(rs.map (·.1)).Nodup) (hsz:rs.length ≤ sizeLine) (hl0:s0.heap.IsList l items.toArray)
    (hR:∀ h' tk,h'.DictOf knd d rs→(∀ b o,b ≠ it→b ≠ d→s0.heap.get? b=some o→h'.get? b=some o)→R (.ok (.ret .none)) { s0 with heap:=h',toks:=tk }) :
    ∀ (n i:Nat) (h:Heap) (tk:Nat),items.length=i + n→h.IsListIter it l i→h.DictOf knd d (rs.take i)→(∀ b o,b ≠ it→b ≠ d→s0.heap.get? b=some o→h.get? b=some o) →
      codeAny (model prog w) A (.builtin "dict.update.loop" ⟨[.ref d,.ref it,rawInt i,.none],[]⟩) R { s0 with heap:=h,toks:=tk }
  | 0,i,h,tk,e,hi,hd,hk=>by
    have hl:h.IsList l items.toArray:=by
      obtain ⟨o,g,c⟩:=hl0
      exact ⟨o,hk l o hli hdl g,c⟩
    refine codeAny_builtin xl ?_
    unfold Builtin.«dict.update.loop»
    refine wpAny_bind (wpAny_pyNext_list_end (A:=A.under _) hh hi hl (by simp; omega) fun h' eb=>?_)
    have hd':h'.DictOf knd d rs:=by
      have:=hd.extBut eb hdi
      rwa [List.take_of_length_le (by omega)] at this
    exact wpAny_bind (wpAny_pure (wpAny_pure (hR h' tk hd' fun b o n1 n2 g=>eb b o n1 (hk b o n1 n2 g))))
  | n + 1,i,h,tk,e,hi,hd,hk=>by
    have hl:h.IsList l items.toArray:=by
      obtain ⟨o,g,c⟩:=hl0
      exact ⟨o,hk l o hli hdl g,c⟩
    obtain ⟨x,hx⟩:∃ x,items[i]?=some x:=⟨items[i]'(by omega),by simp⟩
    obtain ⟨p,k,v,key,rfl,np,npi,⟨o,go,oc,m,od⟩,hr,hkey⟩:=hit0 i x hx
    refine codeAny_builtin xl ?_
    unfold Builtin.«dict.update.loop»
    refine wpAny_bind (wpAny_pyNext_list_item hi hl (by simpa using hx) fun h' hi' sb=>?_)
    have gp:h'.get? p=some o:=(sb.2 p npi).trans (hk p o npi np go)
    refine wpAny_bind (wpAny_holding ?_)
    refine wpAny_bind (wpAny_tryCatch ?_)
    unfold Builtin.Dict.pairItems
    refine wpAny_bind (wpAny_typeOf (s:={ s0 with heap:=h',toks:=tk }) (T:="tuple") ⟨o,gp,oc⟩ ?_)
    rw [if_pos (by decide)]
    refine wpAny_bind (wpAny_seqItems (s:={ s0 with heap:=h',toks:=tk }) gp od (wpAny_pure ?_))
    show wpAny _ _ (holding [key,v] (dictSet d key v)) _ _ _
    refine wpAny_holding (wpAny_dictSet_pairs (s:={ s0 with heap:=h',toks:=tk }) (hsz:=by rw [List.length_take]; omega) hkey (hd.sameBut sb hdi) fun h2 hd2 sb2=>?_)
    refine wpAny_pure ⟨Code.quiet_builtin _ (by decide +kernel),?_⟩
    have est:stored (rs.take i) k v=rs.take (i + 1):=by
      rw [List.take_add_one,hr]
      unfold stored
      rw [if_neg]
      · rfl
      · intro z
        obtain ⟨y,hy,ey⟩:=List.any_eq_true.mp z
        have ey:y.1=k:=of_decide_eq_true ey
        obtain ⟨j,hj,rfl⟩:=List.getElem_of_mem hy
        rw [List.length_take] at hj
        have hi2:=(List.getElem?_eq_some_iff.mp hr)
        obtain ⟨hi3,hi4⟩:=hi2
        refine List.pairwise_iff_getElem.mp hnd j i (by rw [List.length_map]; omega) (by rw [List.length_map]; omega) (by omega) ?_
        simp only [List.getElem_map]
        rw [hi4]
        simpa using ey
    rw [est] at hd2
    have:=uG hh hdi hdl hli hit0 hlen hnd hsz hl0 hR n (i + 1) h2 (tk + 1) (by omega) (hi'.at fun o g=>(sb2.2 it (Ne.symm hdi)).trans g) hd2 fun b o n1 n2 g=>(sb2.2 b n2).trans ((sb.2 b n1).trans (hk b o n1 n2 g))
    exact this
theorem wL {s:Shared} {Q:Value→Shared→Prop} {l:Addr} {ol:Obj} {n:Nat} {items:List Value} {rs:List (κ × Value)} (hh:A.handled=none) (hl:s.heap.get? l=some ol) (hc:ol.cls=.type "list") (hdat:ol.data=.seq items.toArray n) (hdd:ol.dict=none)
    (hit0:∀ (i:Nat) (x:Value),items[i]?=some x→∃ (p:Addr) (k:κ) (v key:Value),x=.ref p∧s.heap.IsTuple p #[key,v]∧rs[i]?=some (k,v)∧knd.is k key=true)
    (hlen:rs.length=items.length) (hnd:(rs.map (·.1)).Nodup) (hsz:rs.length ≤ sizeLine)
    (q:∀ h' tk,h'.DictOf knd s.heap.objs.size rs→(∀ b o,s.heap.get? b=some o→h'.get? b=some o)→Q (.ref s.heap.objs.size) { s with heap:=h',toks:=tk }) :
    wpAny (model prog w) A (call (.type "dict") [.ref l]) Q E s:=by
  refine callType_codes (Q₁:=fun obj s₁=>obj=.ref s.heap.objs.size∧s₁={ s with heap:=s.heap.push { cls:=.type "dict",data:=.dict #[] } }) F.kt_called_dict (F.kt_typeCall_dict_1 _) F.entry_dict_init (kt_code_dict_new _ ⟨rfl,rfl⟩) ?_
  rintro obj s₁ ⟨rfl,rfl⟩
  have hnew:(s.heap.push { cls:=.type "dict",data:=.dict #[] }).DictOf knd s.heap.objs.size []:=Heap.DictOf.new s.heap
  have hl1:=Heap.get?_push_of_some { cls:=.type "dict",data:=.dict #[] } hl
  refine ⟨hnew.typeIs,F.args_dict_init_2 _ _,?_⟩
  unfold Builtin.«dict.__init__»
  refine wpAny_bind ?_
  unfold Builtin.Dict.selfAndRest
  refine wpAny_bind (wpAny_notOrdered_dict hnew.typeIs ?_)
  show wpAny _ _ (pure (s.heap.objs.size,[Value.ref l])) _ _ _
  refine wpAny_pure ?_
  show wpAny _ _ (Builtin.Dict.updateFrom "dict.__init__" s.heap.objs.size (.ref l) [] .none) _ _ _
  unfold Builtin.Dict.updateFrom
  refine wpAny_bind (wpAny_typeOf (s:={ s with heap:=s.heap.push { cls:=.type "dict",data:=.dict #[] } }) (T:="list") ⟨ol,hl1,hc⟩ ?_)
  rw [if_pos (by decide)]
  refine wpAny_bind (u6 (s:={ s with heap:=s.heap.push { cls:=.type "dict",data:=.dict #[] } }) hl1 hc hdat hdd (show A.in1.in1.handled=none from hh) fun h1 tk1 e1 new=>?_)
  simp only [Option.isNone_none,if_true]
  have kp:∀ b o,(s.heap.push { cls:=.type "dict",data:=.dict #[] }).get? b=some o→h1.get? b=some o:=new.keeps
  have hl2:=kp _ _ hl1
  refine wpAny_bind (wpAny_rule ?_)
  refine wpAny_bind (wpAny_pyIter_list (s:={ s with heap:=h1,toks:=tk1 }) ⟨ol,hl2,hc,n,hdat⟩ ?_)
  refine wpAny_pure ⟨Code.quiet_builtin _ (by decide +kernel),?_⟩
  have lt:∀ {b o},s.heap.get? b=some o→b < s.heap.objs.size:=fun g=>Heap.lt_size g
  obtain ⟨od,_,_,god,_⟩:=id hnew
  have ltd:s.heap.objs.size < h1.objs.size:=Heap.lt_size (kp _ _ god)
  have up:∀ b o,s.heap.get? b=some o→(h1.push { cls:=.type "list_iterator",data:=.fields #[.ref l,.int 0 0] }).get? b=some o:=fun b o g=>Heap.get?_push_of_some _ (kp b o (Heap.get?_push_of_some _ g))
  have hd0:(h1.push { cls:=.type "list_iterator",data:=.fields #[.ref l,.int 0 0] }).DictOf knd s.heap.objs.size (rs.take 0):=by
    obtain ⟨o,es,ep,g,r⟩:=hnew
    exact ⟨o,es,ep,Heap.get?_push_of_some _ (kp _ _ g),r⟩
  refine uG (s0:={ s with heap:=h1.push { cls:=.type "list_iterator",data:=.fields #[.ref l,.int 0 0] },toks:=tk1 }) (A:=A.in1) (show A.in1.handled=none from hh) (d:=s.heap.objs.size) (it:=h1.objs.size) (l:=l) (Nat.ne_of_lt ltd) (Nat.ne_of_lt (lt hl)) (Nat.ne_of_lt (Nat.lt_trans (lt hl) ltd)) (items:=items) (rs:=rs) (fun i x hx=>?_) hlen hnd hsz ⟨ol,up _ _ hl,hc,n,hdat⟩ (fun h' tk dd kk=>⟨rfl,?_⟩) items.length 0 _ tk1 (by simp) ⟨_,Heap.get?_push_size _ rfl,rfl,rfl⟩ hd0 fun b o _ _ g=>g
  · obtain ⟨p,k,v,key,e,⟨o,g,c⟩,r,hk⟩:=hit0 i x hx
    exact ⟨p,k,v,key,e,Nat.ne_of_lt (lt g),Nat.ne_of_lt (Nat.lt_trans (lt g) ltd),⟨o,up _ _ g,c⟩,r,hk⟩
  · exact q h' tk dd fun b o g=>kk b o (Nat.ne_of_lt (Nat.lt_trans (lt g) ltd)) (Nat.ne_of_lt (lt g)) (up b o g)
end
def DJ:List V→Hp→VK→Prop:=fun xs H Q=>∃ (l:Addr) (ps:List Addr) (kvs:List (Key × V)),xs=[.ref l]∧H l=some (.lst (ps.map V.ref))∧ps.length=kvs.length∧(∀ (i:Nat) (p:Addr) (kv:Key × V),ps[i]?=some p→kvs[i]?=some kv→H p=some (.tup [kV kv.1,kv.2]))∧(kvs.map (·.1)).Nodup∧kvs.length ≤ sizeLine∧∀ p,H p=none→Q (.ref p) (upd H p (.dK kvs))
def D3:List V→Hp→VK→Prop:=fun xs H Q=>∃ (a:Addr) (kvs:List (Key × V)),xs=[.ref a]∧H a=some (.dK kvs)∧∀ p,H p=none→Q (.ref p) (upd H p (.dK kvs))
theorem AD {X:Cx}:xh X (.type "dict") D3:=by
  intro pins s σ H xs us Q I r h
  obtain ⟨a,kvs,rfl,e,q⟩:=h
  obtain ⟨u,rfl,ru⟩:=Vals.one r
  cases ru
  exact C8 I (.inl e) fun p s' hp I'=>⟨.ref p,_,I',rfl,q p hp⟩
theorem t6 {P:Program} {w:World} {H:Hp} {h:Heap} (ok:HOk P w H h):∀ {ps:List Addr} {kvs:List (Key × V)},ps.length=kvs.length→(∀ (i:Nat) (p:Addr) (kv:Key × V),ps[i]?=some p→kvs[i]?=some kv→H p=some (.tup [kV kv.1,kv.2])) →
    ∃ rs:List (Key × Value),KV kvs rs∧∀ (i:Nat) (x:Value),(ps.map Value.ref)[i]?=some x→∃ (p:Addr) (k:Key) (v key:Value),x=.ref p∧h.IsTuple p #[key,v]∧rs[i]?=some (k,v)∧(zV P w).is k key=true
  | [],[],_,_=>⟨[],.nil,fun i x e=>by simp at e⟩
  | [],_ :: _,e,_=>by cases e
  | _ :: _,[],e,_=>by cases e
  | p :: ps,kv :: kvs,e,hp=>by
    obtain ⟨rs,r,hr⟩:=t6 ok (ps:=ps) (kvs:=kvs) (by simpa using e) fun i p' kv' h1 h2=>hp (i + 1) p' kv' h1 h2
    obtain ⟨_,its,rv,tp⟩:=ok p _ (hp 0 p kv rfl rfl)
    obtain ⟨key,v,rfl,rk,rv⟩:=Vals.two rv
    refine ⟨(kv.1,v) :: rs,.cons ⟨rfl,rv⟩ r,fun i x hx=>?_⟩
    cases i with
    | zero =>
      have:x=.ref p:=(Option.some.inj hx).symm
      subst this
      exact ⟨p,kv.1,v,key,rfl,tp,rfl,AQ rk⟩
    | succ i=>exact hr i x hx
theorem CA:∀ {ps:List Addr} {its:List Value},Vals (ps.map V.ref) its→its=ps.map Value.ref
  | [],_,r=>by cases r; rfl
  | p :: ps,_,r=>by
    cases r with
    | cons r1 r2 =>
      cases r1
      rw [CA r2]
      rfl
theorem AW {X:Cx} (hc:X.calm=true):xh X (.type "dict") DJ:=by
  intro pins s σ H xs us Q I r h
  obtain ⟨l,ps,kvs,rfl,el,hlen,hps,hnd,hsz,q⟩:=h
  obtain ⟨u,rfl,ru⟩:=Vals.one r
  cases ru
  obtain ⟨_,its,n,rv,gl⟩:=id (I.hok l _ el)
  have:=CA rv
  subst this
  obtain ⟨rs,rr,hr⟩:=t6 I.hok hlen hps
  have hl:=rr.length
  refine wL (I.ok.hd hc) gl rfl rfl rfl hr (by rw [List.length_map]; omega) (by rw [← rr.keys]; exact hnd) (by omega) fun h' tk dd kk=>?_
  refine ⟨.ref s.heap.objs.size,_,I.laid (a:=s.heap.objs.size) (o:=.dK kvs) (t':=tk) kk (Nat.le_refl _) (Ab hsz (beq_eq_false_iff_ne.mpr (Ne.symm (Nat.ne_of_lt I.big))) rr dd),rfl,q _ (I.hok.fresh (Nat.le_refl _))⟩
end L2
namespace L2
open PySem PySem.Spec PyProof.Rows Bg
section
variable {prog:Program} {w:World} {κ:Type} [DecidableEq κ] {knd:KeyKind prog w κ} {A:Around} {E:Value→Shared→Prop}
theorem vW:typeLookup (.type "dict") "__len__"=pure (some (.builtin "dict.__len__")):=by rw [typeLookup_type,builtinLookup_eq_fast]; kernel_rfl
theorem B1 {s:Shared} {S I d:Addr} {kvs:List (κ × Value)} {ep:Nat} {R:Result→Shared→Prop} (hh:A.handled=none) (hn:kvs.length ≤ sizeLine) (g1:s.heap.get? S=some { cls:=.type "list",data:=.seq ([]:List Value).toArray }) (hI:s.heap.IsKeyIter I d 0 kvs.length ep) (hm:s.heap.DictAt knd d kvs ep) (nSI:S ≠ I) (nSd:S ≠ d) (ndI:d ≠ I)
    (hR:∀ (s':Shared) (acc:Array Value) (c:Nat),(∀ b o,b ≠ S→b ≠ I→s.heap.get? b=some o→s'.heap.get? b=some o)→s'.gens=s.gens→s'.drawn=s.drawn→s'.os=s.os→s'.heap.get? S=some { cls:=.type "list",dict:=none,data:=.seq acc c,slots:=#[] }→ItemsOf (fun i v=>∃ k x,kvs[i]?=some (k,x)∧knd.is k v=true) acc kvs.length→R (.ok (.ret (.ref S))) s') :
    wpAny (model prog w) A.in1 (rule "list.extend.makes-room" >>= fun _=>Builtin.List.listTouch (.ref S) >>= fun _=>again (.builtin "list.extend.loop" ⟨[.ref S,.ref I,.ref S],[]⟩))
      (fun fin s'=>match fin with | .done f=>R (.ok f) s' | .again c'=>c'.quiet=true∧codeAny (model prog w) A c' R s') (fun e s'=>R (.error e) s') s:=by
  refine wpAny_bind (wpAny_rule ?_)
  refine wpAny_bind ?_
  show wpAny _ A.in1 (updateSeq S (·.push .none) >>= fun _=>updateSeq S (·.pop)) _ _ _
  refine wpAny_bind (wpAny_updateSeq g1 rfl ?_)
  have g2:=Heap.get?_update_self (Obj.mapSeq (·.push Value.none)) g1 rfl
  refine wpAny_updateSeq g2 rfl ?_
  have g3:=Heap.get?_update_self (Obj.mapSeq (·.pop)) g2 rfl
  have oth:∀ (b:Addr) (o:Obj),b ≠ S→s.heap.get? b=some o→((s.heap.update S (Obj.mapSeq (·.push Value.none))).update S (Obj.mapSeq (·.pop))).get? b=some o :=
    fun b o nb g=>(Heap.get?_update_other _ _ nb.symm).trans ((Heap.get?_update_other _ _ nb.symm).trans g)
  have W:=(Walks.dictKeys (knd:=knd) (A:=A.in1) (show A.in1.handled=none from hh) I d ndI kvs ep).toS
  refine wpAny_pure ⟨plainId_quiet F.plain_extend_loop _,codeAny_extend_loopS W hn S ?_ _ kvs.length 0 _ _ _ rfl (Nat.zero_le _) ⟨hI.at fun o g=>oth I o nSI.symm g,hm.at' fun o g=>oth d o nSd.symm g⟩ g3 (ItemsOf.nil _) fun s' acc' c' hmv hS' hacc=>?_⟩
  · intro z
    rcases List.mem_cons.mp z with z | z
    · exact nSI z
    · exact nSd (by simpa using z)
  · refine hR s' acc' c' (fun b o n1 n2 g=>hmv.heap b o (fun z=>?_) (oth b o n1 g)) hmv.gens hmv.drawn hmv.os hS' hacc
    rcases List.mem_cons.mp z with z | z
    · exact n1 z
    · exact n2 (by simpa using z)
theorem uc {s:Shared} {d:Addr} {kvs:List (κ × Value)} {ep:Nat} {Q:List Value→Shared→Prop} (hh:A.handled=none) (hds:(d == sysModules)=false) (hm:s.heap.DictAt knd d kvs ep) (hn:kvs.length ≤ sizeLine)
    (hQ:∀ (s':Shared) (acc:Array Value),(∀ b o,s.heap.get? b=some o→s'.heap.get? b=some o)→s'.gens=s.gens→s'.drawn=s.drawn→s'.os=s.os→s.heap.objs.size < s'.heap.objs.size→ItemsOf (fun i v=>∃ k x,kvs[i]?=some (k,x)∧knd.is k v=true) acc kvs.length→Q acc.toList s') :
    wpAny (model prog w) A (collect (.ref d)) Q E s:=by
  have ltd:=hm.lt_size
  unfold collect
  refine wpAny_bind (wpAny_runValue (codeAny_builtin F.entry_proto_collect ?_))
  rw [Around.under_plainId F.plain_proto_collect _]
  show wpAny _ A.in1 (newList [] >>= fun l=>again (.builtin "list.__iadd__" ⟨[l,.ref d],[]⟩)) _ _ s
  refine wpAny_bind (wpAny_newObj_type ?_)
  refine wpAny_pure ⟨plainId_quiet F.plain_list_iadd _,codeAny_builtin F.entry_list_iadd ?_⟩
  rw [Around.under_plainId F.plain_list_iadd _]
  show wpAny _ A.in1 (Builtin.List.listExtendWith (.ref s.heap.objs.size) (.ref d) (.ref s.heap.objs.size)) _ _ _
  have h1:Builtin.List.listSameRef (.ref s.heap.objs.size) (.ref d)=false:=by simp [Builtin.List.listSameRef,Ne.symm (Nat.ne_of_lt ltd)]
  have hm1:=hm.keep (h':=s.heap.push { cls:=.type "list",data:=.seq ([]:List Value).toArray }) fun b o e=>Heap.get?_push_of_some _ e
  unfold Builtin.List.listExtendWith
  refine wpAny_bind (wpAny_typeOf hm1.dictOf.typeIs ?_)
  rw [if_neg (by rw [h1]; decide)]
  refine wpAny_bind (wpAny_pyIter_dict hds hm1 ?_)
  have hm2:=hm1.keep (h':=(s.heap.push { cls:=.type "list",data:=.seq ([]:List Value).toArray }).push { cls:=.type "dict_keyiterator",data:=.fields #[.ref d,.int 0 0,.int kvs.length 0,.int ep 0] }) fun b o e=>Heap.get?_push_of_some _ e
  refine wpAny_bind (wpAny_holding ?_)
  unfold Builtin.List.listLengthHint
  refine wpAny_bind (wpAny_specialOf hm2.dictOf.typeIs vW ?_)
  (generalize hid:("dict.__len__":String)=id0; (fail_if_success (clear hid id0)); wp_delta; rw [show splitId id0=some ("dict","__len__") from by subst hid; decide +kernel]; subst hid)
  refine wpAny_bind (wpAny_isInstance (b:=true) hm2.dictOf.typeIs (by rw [isSubtype_type]; kernel_rfl) ?_)
  rw [if_neg (by decide)]
  refine wpAny_ite ?_
  rw [if_pos (by decide)]
  refine wpAny_bind (wpAny_typeOf hm2.dictOf.typeIs ?_)
  refine wpAny_pure ?_
  rw [if_pos (by decide)]
  have szI:(s.heap.push { cls:=.type "list",data:=.seq ([]:List Value).toArray }).objs.size=s.heap.objs.size + 1:=Heap.size_push _ _
  refine B1 (s:={ s with heap:=(s.heap.push { cls:=.type "list",data:=.seq ([]:List Value).toArray }).push { cls:=.type "dict_keyiterator",data:=.fields #[.ref d,.int 0 0,.int kvs.length 0,.int ep 0] } }) (R:=fun r s'=>match r with | .ok (.ret v)=>wpAny (model prog w) A (match v with | .ref a=>(do let o ← load a; match o.data with | .seq xs _=>pure xs.toList | _=>unsupported "internal:collect":Sem (List Value)) | _=>unsupported "internal:collect") Q E s' | .ok _=>False | .error e=>E e s') hh hn (S:=s.heap.objs.size) (I:=(s.heap.push { cls:=.type "list",data:=.seq ([]:List Value).toArray }).objs.size) (Heap.get?_push_of_some _ (Heap.get?_push_size _ rfl)) ⟨_,Heap.get?_push_size _ rfl,rfl,rfl⟩ hm2 (by rw [szI]; exact Nat.ne_of_lt (Nat.lt_succ_self _)) (Nat.ne_of_gt ltd) (by rw [szI]; exact Nat.ne_of_lt (Nat.lt_succ_of_lt ltd)) fun s' acc c kk e1 e2 e3 hS' hacc=>?_
  show wpAny _ A (load s.heap.objs.size >>= _) _ _ s'
  refine wpAny_bind (wpAny_load hS' (wpAny_pure (hQ s' acc (fun b o g=>?_) e1 e2 e3 (Heap.lt_size hS') hacc)))
  have lt:=Heap.lt_size g
  exact kk b o (Nat.ne_of_lt lt) (by rw [szI]; exact Nat.ne_of_lt (Nat.lt_succ_of_lt lt)) (Heap.get?_push_of_some _ (Heap.get?_push_of_some _ g))
theorem wf:∀ {l:List Value} {ns:List Int},l.length=ns.length→(∀ (j:Nat) (v:Value) (n:Int),l[j]?=some v→ns[j]?=some n→∃ t,v=.int n t)→IntsAre l ns
  | [],[],_,_=>.nil
  | [],_ :: _,e,_=>by cases e
  | _ :: _,[],e,_=>by cases e
  | v :: l,n :: ns,e,h=>by
    obtain ⟨t,rfl⟩:=h 0 v n rfl rfl
    exact .cons n t (wf (by simpa using e) fun j v' n' h1 h2=>h (j + 1) v' n' h1 h2)
theorem vG {kvs:List (Key × Value)} {ns:List Int} {acc:Array Value} (hk:kvs.map (·.1)=ns.map Sum.inl) (h:ItemsOf (fun i v=>∃ k x,kvs[i]?=some (k,x)∧(zV prog w).is k v=true) acc kvs.length):IntsAre acc.toList ns:=by
  have hl:kvs.length=ns.length:=by
    have:=congrArg List.length hk
    rwa [List.length_map,List.length_map] at this
  refine wf (by rw [Array.length_toList,h.1,hl]) fun j v n h1 h2=>?_
  obtain ⟨k,x,e1,e2⟩:=h.2 j v (by rw [← Array.getElem?_toList]; exact h1)
  have:k=.inl n:=by
    have z:=congrArg (·[j]?) hk
    simp only [List.getElem?_map,e1,h2,Option.map_some,Option.some.injEq] at z
    exact z
  subst this
  exact Bw e2
theorem tE {s:Shared} {d:Addr} {kvs:List (Key × Value)} {ns:List Int} {ep:Nat} {Q:Value→Shared→Prop} (hh:A.handled=none) (hds:(d == sysModules)=false) (hm:s.heap.DictAt (zV prog w) d kvs ep) (hk:kvs.map (·.1)=ns.map Sum.inl) (h64:kvs.length < 64)
    (q:∀ (h':Heap) (tk p e:Nat) (vs':List Value) (ns':List Int),(∀ b o,s.heap.get? b=some o→h'.get? b=some o)→s.heap.objs.size ≤ p→h'.get? p=some (seqObj "list" vs'.toArray e)→IntsAre vs' ns'→ns'.Perm ns→ns'.Pairwise (· ≤ ·)→Q (.ref p) { s with heap:=h',toks:=tk }) :
    wpAny (model prog w) A (call (.builtin "sorted") [.ref d]) Q E s:=by
  have hz:kvs.length ≤ sizeLine:=Nat.le_trans (Nat.le_of_lt h64) (by rw [sizeLine_eq]; decide)
  refine Calls.call_function_entry kind_sorted plain_sorted entry_sorted (args_sorted1 _) ?_
  unfold Builtin.«sorted»
  refine wpAny_bind (m:=checkCount "sorted" 1 1 _) (wpAny_pure ?_)
  refine wpAny_bind (uc (show A.in1.handled=none from hh) hds hm hz fun s' acc kk e1 e2 e3 lts hacc=>?_)
  obtain ⟨h0,g0,d0,t0,o0⟩:=s
  obtain ⟨h1,g1,d1,t1,o1⟩:=s'
  simp only at e1 e2 e3 kk hm lts
  subst e1 e2 e3
  have hI:=vG hk hacc
  refine wpAny_bind (wpAny_newList (hsz:=by rw [Array.length_toList,hacc.1]; exact hz) ?_)
  have gl:(h1.push (seqObj "list" acc.toList.toArray 0)).get? h1.objs.size=some (seqObj "list" acc.toList.toArray 0):=Heap.get?_push_size _ rfl
  refine wpAny_bind (wpAny_holding (wpAny_call_entry slot_list_sort ⟨_,gl,rfl⟩ entry_list_sort (list_sort_tree gl hI (by rw [Array.length_toList,hacc.1]; exact h64) fun out ns' a1 a2 a3=>⟨_,rfl,?_⟩) (args_list_sort _)))
  obtain ⟨e,he⟩:=sortedHeap_at (out:=out) gl
  refine wpAny_pure ⟨_,rfl,q _ t1 h1.objs.size e out.toList ns' (fun b o g=>?_) (Nat.le_of_lt lts) he a1 a2 a3⟩
  have lt:=Heap.lt_size (kk b o g)
  rw [sortedHeap_old (Nat.ne_of_lt lt) (by rw [Heap.size_push]; exact Nat.lt_succ_of_lt lt)]
  exact Heap.get?_push_of_some _ (kk b o g)
end
theorem tV {ns ns':List Int} (hp:ns'.Perm ns) (h1:ns'.Pairwise (· ≤ ·)) (h2:ns.Pairwise (· < ·)):ns'=ns :=
  List.Perm.eq_of_pairwise (fun a b _ _ h k=>Int.le_antisymm h k) h1 (h2.imp fun h=>Int.le_of_lt h) hp
def DG:List V→Hp→VK→Prop:=fun xs H Q=>∃ (d:Addr) (kvs:List (Key × V)) (ns:List Int),xs=[.ref d]∧H d=some (.dK kvs)∧kvs.map (·.1)=ns.map Sum.inl∧ns.Pairwise (· < ·)∧kvs.length < 64∧∀ p,H p=none→Q (.ref p) (upd H p (.lst (ns.map V.int)))
theorem yJ:∀ {vs:List Value} {ns:List Int},IntsAre vs ns→Vals (ns.map V.int) vs
  | _,_,.nil=>.nil
  | _,_,.cons n t r=>.cons ⟨t,rfl⟩ (yJ r)
theorem wg {X:Cx} (hc:X.calm=true):xh X (.builtin "sorted") DG:=by
  intro pins s σ H xs us Q I r h
  obtain ⟨d,kvs,ns,rfl,e,hk,hr,h64,q⟩:=h
  obtain ⟨u,rfl,ru⟩:=Vals.one r
  cases ru
  obtain ⟨z,y,vs,rel,dof⟩:=id (I.hok d _ e)
  obtain ⟨ep,da⟩:=dof.dictAt
  have hl:=rel.length
  refine tE (I.ok.hd hc) y da (by rw [← rel.keys]; exact hk) (by omega) fun h' tk p ep' vs' ns' kk hp hg hI hpm hpw=>?_
  have:=tV hpm hpw hr
  subst this
  have hl2:(ns'.map V.int).length ≤ sizeLine:=by
    have:kvs.length=ns'.length:=by
      have:=congrArg List.length hk
      rwa [List.length_map,List.length_map] at this
    rw [List.length_map]
    omega
  exact ⟨.ref p,_,I.laid (a:=p) (o:=.lst (ns'.map V.int)) (t':=tk) kk hp ⟨hl2,vs',ep',yJ hI,hg⟩,rfl,q p (I.hok.fresh hp)⟩
end L2
namespace L2
open PySem PySem.Spec PyProof.Rows Bg
def Ite (K:PySem.W.Frag) (a:Addr):It :=
  ⟨fun i H=>∃ xs x,SqL K H a xs∧xs[i]?=some x,
   fun i H v H'=>∃ T,H T=none∧v=.ref T∧∀ xs,SqL K H a xs→∃ x,xs[i]?=some x∧H'=upd H T (.tup [.int (i:Int),x]),
   fun i H=>∃ xs,SqL K H a xs∧xs.length ≤ i⟩
theorem A9 {P:Program} {w:World} {K:PySem.W.Frag} {es:List Expr} {k:Nat} {pos:Pos} (a e it:Addr) (ne:e ≠ it):Turn P w K (.Tuple es k pos) (Ite K a) [e,it] e
    (fun i h=>(∃ old,IsEnum h e it (i:Int) old)∧h.IsListIter it a i) where
  mem:=by simp
  obj:=fun i h st c hc=>by
    obtain ⟨⟨old,he⟩,⟨o1,e1,c1,d1⟩⟩:=st
    have hc':c=e ∨ c=it:=by simpa using hc
    rcases hc' with rfl | rfl
    · exact ⟨_,he,fun v q=>by cases q⟩
    · exact ⟨o1,e1,fun v q=>by rw [d1] at q; cases q⟩
  keep:=fun i h h' st kk=>by
    obtain ⟨⟨old,he⟩,h1⟩:=st
    exact ⟨⟨old,kk e (by simp) _ he⟩,h1.at fun o q=>kk it (by simp) o q⟩
  item:=by
    intro X hP hw hK hc i pins s σ H E I hf st hg
    subst hP hw hK
    obtain ⟨xs,x,hq,hx⟩:=hg
    obtain ⟨⟨old,he⟩,h1⟩:=st
    obtain ⟨its,rv,p1,hz1⟩:=I.list hq
    obtain ⟨u,hu,ru⟩:=rv.get hx
    refine wpAny_pyNext_enum_item he h1 p1.isList (x:=u) (by simpa using hu) ne fun h' a1 a2 a3 a4 hk=>?_
    refine ⟨_,rfl,?_⟩
    have lt:∀ {c o},s.heap.get? c=some o→s.heap.objs.size ≠ c:=fun q=>Nat.ne_of_gt (Heap.lt_size q)
    refine wpAny_letOwnedTupleGo_enum (s:={ s with heap:=h',toks:=s.toks + 1 }) a1 fun h2' he' hs'=>?_
    have hs':Heap.SameBut e h' h2':=hs'
    have hT:H s.heap.objs.size=none:=I.hok.fresh (Nat.le_refl _)
    have I0:Inv X pins σ (upd H s.heap.objs.size (.tup [.int (i:Int),x])) { s with heap:=s.heap.push { cls:=.type "tuple",data:=.seq #[.int (i:Int) s.toks,u] },toks:=s.toks + 1 } :=
      I.laid (t':=s.toks + 1) (fun b u e=>Heap.get?_push_of_some _ e) (Nat.le_refl _) ⟨show [V.int (i:Int),x].length ≤ sizeLine from xp (by simp),[.int (i:Int) s.toks,u],.cons ⟨_,rfl⟩ (.cons ru .nil),⟨_,Heap.get?_push_size _ rfl,rfl,_,rfl⟩⟩
    have hne:∀ c ∈ [e,it],c ≠ s.heap.objs.size:=fun c hc=>by
      have hc':c=e ∨ c=it:=by simpa using hc
      rcases hc' with rfl | rfl
      · exact (lt he).symm
      · obtain ⟨_,q,_⟩:=h1; exact (lt q).symm
    have hf':∀ c ∈ [e,it],FpOk X pins (upd H s.heap.objs.size (.tup [.int (i:Int),x])) c:=fun c hc=>by
      obtain ⟨f0,f1,f2,f3,f4,f5⟩:=hf c hc
      exact ⟨by rw [zt (hne c hc)]; exact f0,f1,f2,f3,f4,f5⟩
    have I1:=Inv.turnedL (s:={ s with heap:=s.heap.push { cls:=.type "tuple",data:=.seq #[.int (i:Int) s.toks,u] },toks:=s.toks + 1 }) (h':=h2') (t':=s.toks + 1) (its:=[e,it]) I0 (fun c o hc q=>by
      have c1:c ≠ e:=fun q=>hc (by simp [q])
      have c3:c ≠ it:=fun q=>hc (by simp [q])
      refine hs'.extBut _ _ c1 ?_
      by_cases hcs:c=s.heap.objs.size
      · subst hcs
        have e':some ({ cls:=.type "tuple",data:=.seq #[.int (i:Int) s.toks,u] }:Obj)=some o:=(Heap.get?_push_size s.heap rfl).symm.trans q
        rw [← e']
        exact a3
      · exact hk c o c1 c3 (tI hcs q)) hf'
    refine ⟨.ref s.heap.objs.size,_,I1,rfl,⟨_,hT,rfl,fun xs' q1=>⟨x,by rw [I.list_inj q1 hq]; exact hx,rfl⟩⟩,⟨⟨_,by simpa using he'⟩,a2.extBut hs'.extBut (Ne.symm ne)⟩,fun c hc=>?_⟩
    rw [zt (hne c hc)]
    exact (hf c hc).1
  done:=by
    intro X hP hw hK hc i pins s σ H E I hf st hg
    subst hP hw hK
    obtain ⟨xs,hq,hx⟩:=hg
    obtain ⟨⟨old,he⟩,h1⟩:=st
    obtain ⟨its,rv,p1,hz1⟩:=I.list hq
    have l1:=rv.length
    obtain ⟨f0,f1,f2,f3,f4,f5⟩:=hf it (by simp)
    refine wpAny_pyNext_enum_end (I.ok.hd hc) he h1 p1.isList (by simp; omega) fun h' hk=>⟨rfl,I.turned (t':=s.toks) (it:=it) (fun c o hc q=>hk c o hc q) f0 f1 f3 f4 f5⟩
  self:=fun _ _ _ _ _ st h=>by
    obtain ⟨⟨old,he⟩,_⟩:=st
    exact wpAny_pyIter_enum he h
def Itv (K:PySem.W.Frag) (a:Addr) (n:Nat):It :=
  ⟨fun i H=>i < n∧∃ xs x,SqL K H a xs∧xs[n - 1 - i]?=some x,fun i H x H'=>H'=H∧∀ xs,SqL K H a xs→xs[n - 1 - i]?=some x,fun i _=>i=n⟩
theorem Cz {P:Program} {w:World} {K:PySem.W.Frag} {tg:Expr} (a it:Addr) (n:Nat):Turn P w K tg (Itv K a n) [it] it (fun i h=>h.IsRevIter it a ((n:Int) - 1 - (i:Int))) where
  mem:=by simp
  obj:=fun i h st b hb=>by
    have e:b=it:=by simpa using hb
    subst e
    obtain ⟨o,e,c,d⟩:=st
    exact ⟨o,e,fun v z=>by rw [d] at z; cases z⟩
  keep:=fun i h h' st k=>st.at fun o e=>k it (by simp) o e
  item:=by
    intro X hP hw hK hc i pins s σ H E I hf st hg
    subst hP hw hK
    obtain ⟨hi,xs,x,hq,hx⟩:=hg
    obtain ⟨its,rv,p,hz⟩:=I.list hq
    obtain ⟨u,hu,ru⟩:=rv.get hx
    obtain ⟨f0,f1,f2,f3,f4,f5⟩:=hf it (by simp)
    have e1:(n:Int) - 1 - (i:Int)=((n - 1 - i:Nat):Int):=by omega
    rw [e1] at st
    refine wpAny_pyNext_rev_item st p.isList (x:=u) (by simpa using hu) fun h' st' sb=>?_
    have I1:Inv X pins σ H { s with heap:=h' }:=I.turned (t':=s.toks) (fun b o hb e=>(sb.2 b hb).trans e) f0 f1 f3 f4 f5
    obtain ⟨o,e,c,d⟩:=id st'
    have e2:((n - 1 - i:Nat):Int) - 1=(n:Int) - 1 - ((i + 1:Nat):Int):=by omega
    rw [e2] at st'
    exact ⟨u,rfl,BG (s:={ s with heap:=h' }) e c d (by decide) ⟨x,H,I1,ru,⟨rfl,fun ys hy=>by rw [I.list_inj hy hq]; exact hx⟩,st',fun b hb=>(hf b hb).1⟩⟩
  done:=by
    intro X hP hw hK hc i pins s σ H E I hf st hg
    subst hP hw hK
    have hg:i=n:=hg
    subst hg
    obtain ⟨f0,f1,f2,f3,f4,f5⟩:=hf it (by simp)
    have e1:(i:Int) - 1 - (i:Int)=-1:=by omega
    rw [e1] at st
    exact wpAny_pyNext_rev_end (I.ok.hd hc) st fun h' hk=>⟨rfl,I.turned (t':=s.toks) (it:=it) (fun c o hc q=>hk c o hc q) f0 f1 f3 f4 f5⟩
  self:=fun _ _ _ _ _ st h=>wpAny_pyIter_revIter st h
theorem vo:bootBuiltins "enumerate"=some (.type "enumerate"):=by first | rfl | decide +kernel
section
variable {X:Cx}
def FS (K:PySem.W.Frag) (ta:TA):TI:=fun σ H R=>ta σ H fun vs H1=>∃ a xs,vs=[.ref a]∧SqL K H1 a xs∧R (Ite K a) H1
theorem Be {es:List Expr} {k:Nat} {tpos:Pos} {a:Expr} {ta:TA} {p pos:Pos} (hg:Gl X "enumerate") (hm:X.mg "enumerate"=none) (ha:PA X [a] ta) (hs:starEach [a] X.env=[(false,eval a X.env)]:=by rfl) :
    PI X (.Tuple es k tpos) (.Call (.Name "enumerate" p) [a] [] pos) (FS X.K ta):=by
  intro pins s σ H R I h
  refine Call_ (xT I hg hm vo (PyProof.Rows.callWith_type1 (thn (ha pos pins s σ H _ I h) fun us s1 ⟨vs,H1,I1,r1,q1⟩=>?_) hs rfl))
  obtain ⟨l1,xs,e,q1,q⟩:=q1
  subst e
  cases r1 with
  | cons r rr =>
    cases rr
    cases r
    obtain ⟨its1,rv1,p1,hz1⟩:=I1.list q1
    refine call_enumerate_list p1.isList fun h' he hit hsz hk=>?_
    refine wpAny_pyIter_enum (s:={ s1 with heap:=h' }) he ?_
    refine ⟨_,[_,_],_,_,H1,rfl,I1.kept (t':=s1.toks) hk,A9 l1 _ _ (Nat.ne_of_gt (Nat.lt_succ_self s1.heap.objs.size)),⟨⟨_,he⟩,hit⟩,fun c hc=>?_,q⟩
    have hc':c=s1.heap.objs.size + 1 ∨ c=s1.heap.objs.size:=by simpa using hc
    have hge:s1.heap.objs.size ≤ c:=by
      rcases hc' with rfl | rfl
      · exact Nat.le_add_right ..
      · exact Nat.le_refl _
    exact I1.fpOk hge (I1.hok.fresh hge)
def FO (K:PySem.W.Frag) (ta:TA):TI:=fun σ H R=>ta σ H fun vs H1=>∃ a xs,vs=[.ref a]∧SqL K H1 a xs∧R (Itv K a xs.length) H1
theorem EI {tg:Expr} {a:Expr} {ta:TA} {p pos:Pos} (hg:Gl X "reversed") (hm:X.mg "reversed"=none) (ha:PA X [a] ta) (hs:starEach [a] X.env=[(false,eval a X.env)]:=by rfl) :
    PI X tg (.Call (.Name "reversed" p) [a] [] pos) (FO X.K ta):=by
  intro pins s σ H R I h
  refine Call_ (xT I hg hm boot_reversed (PyProof.Rows.callWith_type1 (thn (ha pos pins s σ H _ I h) fun us s1 ⟨vs,H1,I1,r1,q1⟩=>?_) hs rfl))
  obtain ⟨l1,xs,e,q1,q⟩:=q1
  subst e
  cases r1 with
  | cons r rr =>
    cases rr
    cases r
    obtain ⟨its1,rv1,p1,hz1⟩:=I1.list q1
    have hl:=rv1.length
    refine call_reversed_list p1.isList ?_
    have hit:(s1.heap.push (revObj l1 ((its1.toArray.size:Int) - 1))).IsRevIter s1.heap.objs.size l1 ((xs.length:Int) - 1 - ((0:Nat):Int)):=⟨_,Heap.get?_push_size _ rfl,rfl,by simp [revObj,hl]⟩
    refine wpAny_pyIter_revIter (s:={ s1 with heap:=_ }) hit ?_
    refine ⟨_,[_],_,_,H1,rfl,I1.kept (t':=s1.toks) fun b o e=>Heap.get?_push_of_some _ e,Cz l1 _ xs.length,hit,fun b hb=>?_,q⟩
    have e:b=s1.heap.objs.size:=by simpa using hb
    subst e
    exact I1.fpOk (Nat.le_refl _) (I1.hok.fresh (Nat.le_refl _))
theorem DH {K:PySem.W.Frag} {σ:St} {H:Hp} {E:Ends} {g:TG} {ta:TA} {tb:TS} (h:ta σ H fun vs H1=>∃ a xs,vs=[.ref a]∧SqL K H1 a xs∧∃ W:Nat→Nat→St→Hp→Prop,(∃ m,W 0 m σ H1)∧∀ i m σ H,W i m σ H →
  ((Ite K a).stop i H∧E.nx σ H) ∨ ((Ite K a).go i H∧∃ N:St→Hp→Prop,(∀ σ' H',N σ' H'→∃ m',m' < m∧W (i + 1) m' σ' H')∧∀ x H',(Ite K a).yld i H x H'→g x σ H' fun σ2 H2=>tb { E with nx:=N,ct:=N,bk:=E.nx } σ2 H2)) :
  tFor (FS K ta) g tb E σ H:=h
theorem Fh {K:PySem.W.Frag} {σ:St} {H:Hp} {E:Ends} {g:TG} {ta:TA} {tb:TS} (h:ta σ H fun vs H1=>∃ a xs,vs=[.ref a]∧SqL K H1 a xs∧∃ W:Nat→Nat→St→Hp→Prop,(∃ m,W 0 m σ H1)∧∀ i m σ H,W i m σ H →
  ((Itv K a xs.length).stop i H∧E.nx σ H) ∨ ((Itv K a xs.length).go i H∧∃ N:St→Hp→Prop,(∀ σ' H',N σ' H'→∃ m',m' < m∧W (i + 1) m' σ' H')∧∀ x H',(Itv K a xs.length).yld i H x H'→g x σ H' fun σ2 H2=>tb { E with nx:=N,ct:=N,bk:=E.nx } σ2 H2)) :
  tFor (FO K ta) g tb E σ H:=h
theorem Ae {K:PySem.W.Frag} {a:Addr} {xs:List V} {g:TG} {tb:TS} {D:Ends} {σ:St} {H:Hp} (Pv:Nat→St→Hp→Prop) (h0:Pv 0 σ H) (hl:∀ i σ H,i ≤ xs.length→Pv i σ H→SqL K H a xs)
    (hs:∀ i x T σ H,xs[i]?=some x→H T=none→Pv i σ H→g (.ref T) σ (upd H T (.tup [.int (i:Int),x])) fun σ2 H2=>tb { D with nx:=Pv (i + 1),ct:=Pv (i + 1),bk:=D.nx } σ2 H2) (hd:∀ σ H,Pv xs.length σ H→D.nx σ H) :
    ∃ W:Nat→Nat→St→Hp→Prop,(∃ m,W 0 m σ H)∧∀ i m σ H,W i m σ H →
      ((Ite K a).stop i H∧D.nx σ H) ∨ ((Ite K a).go i H∧∃ N:St→Hp→Prop,(∀ σ' H',N σ' H'→∃ m',m' < m∧W (i + 1) m' σ' H')∧∀ x H',(Ite K a).yld i H x H'→g x σ H' fun σ2 H2=>tb { D with nx:=N,ct:=N,bk:=D.nx } σ2 H2):=by
  refine ⟨fun i m σ H=>m=xs.length - i∧i ≤ xs.length∧Pv i σ H,⟨xs.length,by simp,Nat.zero_le _,h0⟩,?_⟩
  rintro i m σ H ⟨rfl,hi,p⟩
  have q1:=hl i σ H hi p
  by_cases hlt:i < xs.length
  · refine .inr ⟨⟨xs,xs[i],q1,by simp [hlt]⟩,Pv (i + 1),fun σ' H' p'=>⟨xs.length - (i + 1),by omega,rfl,hlt,p'⟩,fun v H' yy=>?_⟩
    obtain ⟨T,hT,rfl,yy⟩:=yy
    obtain ⟨x,hx,rfl⟩:=yy xs q1
    exact hs i x T σ H hx hT p
  · have e:i=xs.length:=by omega
    subst e
    exact .inl ⟨⟨xs,q1,Nat.le_refl _⟩,hd σ H p⟩
theorem De {K:PySem.W.Frag} {a:Addr} {xs:List V} {g:TG} {tb:TS} {D:Ends} {σ:St} {H:Hp} (Pv:Nat→St→Hp→Prop) (h0:Pv 0 σ H) (hl:∀ i σ H,i ≤ xs.length→Pv i σ H→SqL K H a xs)
    (hs:∀ i x σ H,i < xs.length→xs[xs.length - 1 - i]?=some x→Pv i σ H→g x σ H fun σ2 H2=>tb { D with nx:=Pv (i + 1),ct:=Pv (i + 1),bk:=D.nx } σ2 H2) (hd:∀ σ H,Pv xs.length σ H→D.nx σ H) :
    ∃ W:Nat→Nat→St→Hp→Prop,(∃ m,W 0 m σ H)∧∀ i m σ H,W i m σ H →
      ((Itv K a xs.length).stop i H∧D.nx σ H) ∨ ((Itv K a xs.length).go i H∧∃ N:St→Hp→Prop,(∀ σ' H',N σ' H'→∃ m',m' < m∧W (i + 1) m' σ' H')∧∀ x H',(Itv K a xs.length).yld i H x H'→g x σ H' fun σ2 H2=>tb { D with nx:=N,ct:=N,bk:=D.nx } σ2 H2):=by
  refine ⟨fun i m σ H=>m=xs.length - i∧i ≤ xs.length∧Pv i σ H,⟨xs.length,by simp,Nat.zero_le _,h0⟩,?_⟩
  rintro i m σ H ⟨rfl,hi,p⟩
  have q:=hl i σ H hi p
  by_cases hlt:i < xs.length
  · have hj:xs.length - 1 - i < xs.length:=by omega
    refine .inr ⟨⟨hlt,xs,xs[xs.length - 1 - i],q,by simp [hj]⟩,Pv (i + 1),fun σ' H' p'=>⟨xs.length - (i + 1),by omega,rfl,hlt,p'⟩,fun x H' y=>?_⟩
    obtain ⟨e,y⟩:=y
    subst e
    exact hs i x σ _ hlt (y xs q) p
  · have e:i=xs.length:=by omega
    subst e
    exact .inl ⟨rfl,hd σ H p⟩
end
def DO (K:PySem.W.Frag):List V→Hp→VK→Prop:=fun xs H Q=>∃ (a:Addr) (ns ms:List Int),xs=[.ref a]∧SqL K H a (ns.map V.int)∧ms.Perm ns∧ms.Pairwise (· ≤ ·)∧ns.length < 64∧∀ p,H p=none→Q (.ref p) (upd H p (.lst (ms.map V.int)))
theorem wv:∀ {vs:List Value} {ns:List Int},Vals (ns.map V.int) vs→IntsAre vs ns
  | _,[],.nil=>.nil
  | _,n :: ns,.cons ⟨t,e⟩ r=>by rw [e]; exact .cons n t (wv r)
theorem vt {X:Cx}:xh X (.builtin "sorted") (DO X.K):=by
  intro pins s σ H xs us Q I r h
  obtain ⟨a,ns,ms,rfl,hq,hp,hs,h64,q⟩:=h
  obtain ⟨u,rfl,ru⟩:=Vals.one r
  cases ru
  obtain ⟨its,rv,p1,hz1⟩:=I.list hq
  have hl:=rv.length
  rw [List.length_map] at hl
  refine sorted_ints p1.isList (wv rv) (by omega) fun out ns' a1 a2 a3=>?_
  have e:ns'=ms:=List.Perm.eq_of_pairwise (fun a b _ _ h k=>Int.le_antisymm h k) a3 hs (a2.trans hp.symm)
  subst e
  obtain ⟨ep,he⟩:=sortedAll_at s.heap its out
  have hl2:(ns'.map V.int).length ≤ sizeLine:=by
    rw [List.length_map,a2.length_eq]
    exact Nat.le_trans (Nat.le_of_lt h64) (by rw [sizeLine_eq]; decide)
  exact ⟨.ref _,_,I.laid (a:=s.heap.objs.size + 1) (o:=.lst (ns'.map V.int)) (t':=s.toks) (fun _ _=>sortedAll_old) (Nat.le_succ _) ⟨hl2,out.toList,ep,yJ a1,by simpa using he⟩,rfl,q _ (I.hok.fresh (Nat.le_succ _))⟩
theorem Bs {K:PySem.W.Frag} {H:Hp} {Q:VK} {a:Addr} {ns ms:List Int} (h:H a=some (.lst (ns.map V.int))) (hp:ms.Perm ns) (hs:ms.Pairwise (· ≤ ·)) (hl:ns.length < 64) (q:∀ p H2,H p=none→Same H H2→H2 p=some (.lst (ms.map V.int))→Q (.ref p) H2):DO K [.ref a] H Q :=
  ⟨a,ns,ms,rfl,SqL.of h,hp,hs,hl,fun p hn=>q p _ hn (z4 hn _) zk⟩
end L2
namespace L2
open PySem PySem.Spec PyProof.Rows Bg
section
variable {X:Cx} {e:Expr} {te:TE} {p1 p2 pos pos2:Pos}
def tLRg (te:TE):TE:=fun σ H Q=>te σ H fun x H1=>∃ n:Nat,x=.int (n:Int)∧n ≤ 1000∧∀ l,H1 l=none→Q (.ref l) (upd H1 l (.lst (((List.range n).map fun k:Nat=>(k:Int)).map V.int)))
theorem EB {acc:Array Value} {n:Nat} (h:ItemsOf (fun i v=>∃ t,v=.int (0 + (i:Int) * 1) t) acc n):Vals (((List.range n).map fun k:Nat=>(k:Int)).map V.int) acc.toList:=by
  refine yJ (wf (by simp [h.1]) fun j v m h1 h2=>?_)
  have h3:acc[j]?=some v:=by rw [← Array.getElem?_toList]; exact h1
  obtain ⟨t,rfl⟩:=h.2 j v h3
  have hj:=(Array.getElem?_eq_some_iff.mp h3).1
  rw [h.1] at hj
  rw [List.getElem?_map,List.getElem?_range hj] at h2
  have:(j:Int)=m:=Option.some.inj h2
  exact ⟨t,by rw [← this,Int.mul_one,Int.zero_add]⟩
theorem Cj (hc:X.calm=true) (hg1:Gl X "list") (hm1:X.mg "list"=none) (b1:bootBuiltins "list"=some (.type "list")) (hg2:Gl X "range") (hm2:X.mg "range"=none) (he:PE X e te)
    (hs1:starEach [Expr.Call (.Name "range" p2) [e] [] pos2] X.env=[(false,eval (Expr.Call (.Name "range" p2) [e] [] pos2) X.env)]:=by rfl) (hs2:starEach [e] X.env=[(false,eval e X.env)]:=by rfl) :
    PE X (.Call (.Name "list" p1) [.Call (.Name "range" p2) [e] [] pos2] [] pos) (tLRg te):=by
  intro pins s σ H Q I h
  refine wpAny_Call_Name_kw (xT I hg1 hm1 b1 ?_)
  refine PyProof.Rows.callWith_type1 ?_ hs1 rfl
  rw [hs1]
  refine Calls.spliced_cons ?_
  refine wpAny_Call_Name_kw (xT I hg2 hm2 boot_range ?_)
  refine PyProof.Rows.callWith_type1 ?_ hs2 rfl
  rw [hs2]
  refine Calls.spliced_cons (thn (he pins s σ H _ I h) fun v s1 ⟨x,H1,I1,r1,q1⟩=>Calls.spliced_nil ?_)
  obtain ⟨n,rfl,hn,q⟩:=q1
  obtain ⟨t,rfl⟩:=r1
  refine call_range_1 (Calls.spliced_nil ?_)
  have hz:Builtin.Range.rangeSize 0 (n:Int) 1=(n:Int):=by rw [rangeSize_one]; split <;> omega
  refine call_list_range (A:=X.A) (n:=n) (I1.ok.hd hc) (IsRange.new ..) (small_one (by omega) (by omega) (by omega) (by omega)) hz (by omega) fun h' tk acc c' hk hS hacc=>?_
  have hsz:(s1.heap.push { cls:=.type "range",data:=.fields #[.int 0 s1.toks,.int (n:Int) t,.int 1 (s1.toks + 1)] }).objs.size=s1.heap.objs.size + 1:=by simp [Heap.push]
  have kp:∀ b u,s1.heap.get? b=some u→h'.get? b=some u:=fun b u eb=>hk b u (Heap.get?_push_of_some _ eb)
  have hge:s1.heap.objs.size ≤ (s1.heap.push { cls:=.type "range",data:=.fields #[.int 0 s1.toks,.int (n:Int) t,.int 1 (s1.toks + 1)] }).objs.size:=by rw [hsz]; omega
  have rv:=EB hacc
  have hlen:(((List.range n).map fun k:Nat=>(k:Int)).map V.int).length ≤ sizeLine:=by
    rw [List.length_map,List.length_map,List.length_range]
    exact Nat.le_trans hn (by rw [sizeLine_eq]; decide)
  exact ⟨.ref _,_,I1.laid (t':=tk) kp hge (show ObjOk X.prog X.w _ h' _ (.lst (((List.range n).map fun k:Nat=>(k:Int)).map V.int)) from ⟨hlen,acc.toList,c',rv,by simpa using hS⟩),rfl,q _ (I1.hok.fresh hge)⟩
theorem Ds {σ:St} {H:Hp} {Q:VK} {te:TE} (h:te σ H fun x H1=>∃ n:Nat,x=.int (n:Int)∧n ≤ 1000∧∀ l,H1 l=none→Q (.ref l) (upd H1 l (.lst (((List.range n).map fun k:Nat=>(k:Int)).map V.int)))):tLRg te σ H Q:=h
end
end L2
open PySem PySem.Spec PyProof.Rows L2 Bg
local macro_rules | `(tactic| walk_at "bd")=>`(tactic| first | assumption | ((with_reducible show Bd _ (-_)); exact Bd.neg (by walk_at "bd")) | ((with_reducible show Bd _ (_ * _)); exact Bd.mul (by walk_at "bd") (by walk_at "bd")) | ((with_reducible show Bd _ (_ + _)); exact E1 (by walk_at "bd") (by walk_at "bd")) | ((with_reducible show Bd _ (_ - _)); exact Eb (by walk_at "bd") (by walk_at "bd")) | ((with_reducible show Bd _ (_ ^ _)); exact Es (by walk_at "bd")) | ((with_reducible show Bd _ (_ / _)); exact u8 (by walk_at "bd")) | ((with_reducible show Bd _ (_ % _)); exact Ed (by walk_at "bd") (by decide +kernel)) | ((with_reducible show Bd _ (Int.fdiv _ _)); exact Bd.fdiv (by walk_at "bd") _) | exact Bd.abs (by walk_at "bd") | exact BQ _)
local macro_rules | `(tactic| walk_at "cd")=>`(tactic| first | assumption | decide | omega | exact ⟨by decide,by decide +kernel⟩ | exact Bd.ok (by walk_at "bd") (by walk_at "bd") (by decide +kernel) | exact cpw_of (by walk_at "bd") (by decide) (by decide +kernel) | decide +kernel)
local macro_rules | `(tactic| walk_at "rd")=>`(tactic| first | with_reducible refine Fu ?_ | with_reducible refine Hq ?_ | ((with_reducible refine ET ?_); try dsimp only [List.set_cons_zero,List.set_cons_succ]) | with_reducible refine E2 ?_ | with_reducible refine E7 ?_ | with_reducible refine Ht ?_ | with_reducible refine Gp ?_ | ((with_reducible show tVar _ _ _ _); refine ⟨_,rfl,?_⟩) | with_reducible refine i_c ?_ | with_reducible refine i_op ?_ | with_reducible refine i_un ?_ | with_reducible refine i_I0 ?_ | ((with_reducible show rI _ _ (V.int _) (V.int _) _ _); first | refine i_I ?_ (by walk_at "cd") | refine i_I ?_ ?c) | with_reducible refine i_U ?_ | with_reducible refine GC ?_ | with_reducible refine Ho ?_ | with_reducible refine i_eqB ?_ | with_reducible refine i_neB ?_ | with_reducible refine GB ?_ | with_reducible refine i_tB ?_ | with_reducible refine i_bl ?_ | with_reducible refine Hm ?_ | with_reducible refine i_or ?_ | with_reducible refine GU ?_ | with_reducible refine F9 ?_ | with_reducible refine GE ?_ | with_reducible refine FL ?_ | with_reducible refine GT ?_ | with_reducible refine G8 ?_ | with_reducible refine Fx ?_ | with_reducible refine E8 ?_ | with_reducible refine i_callK ?_ | with_reducible refine i_cb ?_ | with_reducible refine Hs ?_ | with_reducible refine Hk ?_ | with_reducible refine if_t ?_ | with_reducible refine if_f ?_ | with_reducible refine Fe ?_ | with_reducible refine Hj ?_ | with_reducible refine GH ?_ | with_reducible refine FZ ?_ | with_reducible refine GD ?_ | with_reducible refine FJ ?_ | with_reducible refine CK ?_ | with_reducible refine Bv ?_ | with_reducible refine i_is_bool ?_ | with_reducible refine C2 (by assumption) ?_ | with_reducible refine Gs (by assumption) ?_ | with_reducible refine Ft (by assumption) ?_ | ((with_reducible show rIxT _ (V.ref _) (V.int _) _ _); first | refine xg (by assumption) (by rfl) ?_ | refine Hl (by assumption) (by rfl) ?_) | ((with_reducible show rIxL _ (V.ref _) (V.int _) _ _); refine zD (by assumption) (by rfl) ?_) | with_reducible refine i_bm ?_ | with_reducible refine GZ (by assumption) ?_ | with_reducible refine i_sl ?_ | with_reducible refine CJ ?_ | with_reducible refine Fo ?_ | with_reducible refine GQ ?_ | with_reducible refine GJ ?_ | with_reducible refine i_notN ?_ | ((with_reducible show gTup _ _ _ (V.ref _) _ _ _); refine FF (by assumption) (by rfl) ?_) | with_reducible refine Eu ?_ | with_reducible refine FD ?_ | with_reducible refine GG ?_)
local macro_rules | `(tactic| walk_at "mm")=>`(tactic| repeat first | exact List.mem_cons_self | refine List.mem_cons_of_mem _ ?_)
local macro_rules | `(tactic| walk_at "rd")=>`(tactic| first | with_reducible refine i_min ?_ | with_reducible refine Hu ?_ | with_reducible refine i_neS ?_ | with_reducible refine Dn ?_ | with_reducible refine GY ?_ | with_reducible refine i_fF ?_ | with_reducible refine i_fVal0 ?_ | with_reducible refine i_fInt0 ?_ | with_reducible refine i_tyS ?_ | with_reducible refine GR ?_ | with_reducible refine E9 ?_)
local macro_rules | `(tactic| walk_at "b8")=>`(tactic| first | assumption | decide +kernel | exact Bd.mono (by walk_at "bd") (by decide +kernel))
local macro_rules | `(tactic| walk_at "r")=>`(tactic| repeat walk_at "rd")
set_option maxHeartbeats 4000000
namespace Bk
open PySem PySem.Spec PyProof.Rows L2 Bg
def top (i:Nat):Stmt:=PySem.Challenge.pw_boardglue_k35_whole_plans_turned_about.main.body.getD i (.Pass ⟨0,0,0,0⟩)
abbrev s_is_whole:Stmt:=top 12
abbrev s_common_divisor:Stmt:=top 13
abbrev s_with_sign_of:Stmt:=top 16
abbrev s_length:Stmt:=top 17
abbrev s_added:Stmt:=top 18
abbrev s_taken:Stmt:=top 19
abbrev s_is_above_nought:Stmt:=top 20
abbrev s_under:Stmt:=top 21
abbrev s_is_length:Stmt:=top 23
abbrev s_is_deed:Stmt:=top 29
abbrev s_names_taken:Stmt:=top 30
abbrev s_count_put:Stmt:=top 31
abbrev s_turned:Stmt:=top 32
abbrev s_cut_across:Stmt:=top 33
abbrev s_glued_beside:Stmt:=top 34
abbrev s_stacked:Stmt:=top 35
abbrev s_yard_behind:Stmt:=top 38
abbrev s_walked:Stmt:=top 39
abbrev s_undoing:Stmt:=top 40
abbrev s_places_of:Stmt:=top 41
abbrev s_back:Stmt:=top 42
abbrev s__law_cell:Stmt:=top 44
abbrev s__law_whole:Stmt:=top 45
abbrev s__law_great:Stmt:=top 46
abbrev s__law_digits:Stmt:=top 47
abbrev s__law_divisor:Stmt:=top 48
abbrev s__law_lowest:Stmt:=top 49
abbrev s__law_sign:Stmt:=top 50
abbrev s__law_plus:Stmt:=top 51
abbrev s__law_share:Stmt:=top 52
abbrev s__law_below:Stmt:=top 53
abbrev s__law_root:Stmt:=top 54
abbrev s__law_side:Stmt:=top 55
abbrev s__law_heap:Stmt:=top 56
abbrev s__law_new:Stmt:=top 57
abbrev s__law_at:Stmt:=top 58
abbrev s__law_deed:Stmt:=top 59
abbrev s__law_done:Stmt:=top 60
abbrev s__law_begin:Stmt:=top 61
abbrev s__law_is_length:Stmt:=top 62
abbrev s__law_plan:Stmt:=top 63
abbrev s__law_fits:Stmt:=top 64
abbrev s__law_walked:Stmt:=top 65
abbrev s__law_right:Stmt:=top 66
abbrev s_law:Stmt:=top 67
abbrev s_Yard___init__:Stmt:=xw (top 36) 0
abbrev s_Yard_do:Stmt:=xw (top 36) 1
abbrev s_Yard_check_names:Stmt:=xw (top 36) 2
abbrev s_Yard_put_by:Stmt:=xw (top 36) 3
abbrev s_Yard_board_ever:Stmt:=xw (top 36) 4
abbrev s_Yard_boards:Stmt:=xw (top 36) 5
abbrev s_Yard_heap:Stmt:=xw (top 36) 6
structure Bl (mg:Str→Option Value):Prop where
  ValueError:mg "ValueError"=none
  abs:mg "abs"=none
  all:mg "all"=none
  bool:mg "bool"=none
  dict:mg "dict"=none
  enumerate:mg "enumerate"=none
  int:mg "int"=none
  isinstance:mg "isinstance"=none
  len:mg "len"=none
  list:mg "list"=none
  range:mg "range"=none
  reversed:mg "reversed"=none
  sorted:mg "sorted"=none
  str:mg "str"=none
  sum:mg "sum"=none
  tuple:mg "tuple"=none
theorem B2:bootBuiltins "abs"=some (.builtin "abs"):=by decide +kernel
theorem Fc:bootBuiltins "all"=some (.builtin "all"):=by decide +kernel
theorem Bh:bootBuiltins "bool"=some (.type "bool"):=by decide +kernel
theorem Cf:bootBuiltins "dict"=some (.type "dict"):=by decide +kernel
theorem wS:bootBuiltins "int"=some (.type "int"):=by decide +kernel
theorem zH:bootBuiltins "isinstance"=some (.builtin "isinstance"):=by decide +kernel
theorem we:bootBuiltins "list"=some (.type "list"):=by decide +kernel
theorem xj:bootBuiltins "sorted"=some (.builtin "sorted"):=by decide +kernel
theorem GA:bootBuiltins "str"=some (.type "str"):=by decide +kernel
theorem Fd:bootBuiltins "sum"=some (.builtin "sum"):=by decide +kernel
theorem xV:bootBuiltins "tuple"=some (.type "tuple"):=by decide +kernel
structure Cs where
  YardError:Addr
  NoLength:Addr
  NoDeed:Addr
  NoName:Addr
  Grain:Addr
  Unfit:Addr
  Yard:Addr
structure Xs (K:PySem.W.Frag) (mg:Str→Option Value) (cs:Cs):Prop where
  m_YardError:mg "YardError"=some (.ref cs.YardError)
  m_NoLength:mg "NoLength"=some (.ref cs.NoLength)
  m_NoDeed:mg "NoDeed"=some (.ref cs.NoDeed)
  m_NoName:mg "NoName"=some (.ref cs.NoName)
  m_Grain:mg "Grain"=some (.ref cs.Grain)
  m_Unfit:mg "Unfit"=some (.ref cs.Unfit)
  m_Yard:mg "Yard"=some (.ref cs.Yard)
  c_Yard:Cls K cs.Yard
  n_Yard_root:NoAttr K cs.Yard "root"
  n_Yard_turning:NoAttr K cs.Yard "turning"
  n_Yard_known:NoAttr K cs.Yard "known"
  n_Yard_lying:NoAttr K cs.Yard "lying"
  n_Yard_done:NoAttr K cs.Yard "done"
def Rep (D:Int) (M:Nat) (s:Sd):Prop:=∃ X Y:Int,Bd M X∧Bd M Y∧s.x * D=X * s.z∧s.y * D=Y * s.z
structure So (d D:Int) (M:Nat) (s:Sd):Prop where
  z1:1 ≤ s.z
  g:g3 s.x s.y s.z=1
  up:sgn d s.x s.y=1
  r:Rep D M s
theorem So.sk {d D:Int} {M K:Nat} {s:Sd} (h:So d D M s) (hD:1 ≤ D) (bD:Bd K D):SK M K s:=by
  obtain ⟨X,Y,bX,bY,hx,hy⟩:=h.r
  obtain ⟨e1,e2,e3⟩:=yR h.z1 h.g (show D ≠ 0 by omega) hx hy
  refine ⟨h.z1,h.g,?_,?_,?_⟩
  · rw [e1]
    exact bX.fdiv _
  · rw [e2]
    exact bY.fdiv _
  · rw [e3]
    exact bD.fdiv _
theorem So.ne {d D:Int} {M:Nat} {s:Sd} (h:So d D M s):s.z ≠ 0:=by have:=h.z1; omega
theorem So.scale {d D k:Int} {M j:Nat} {s:Sd} (h:So d D M s) (bk:Bd j k):So d (D * k) (M + j) s:=by
  obtain ⟨X,Y,bX,bY,hx,hy⟩:=h.r
  exact ⟨h.z1,h.g,h.up,X * k,Y * k,bX.mul bk,bY.mul bk,by rw [← Int.mul_assoc,hx]; grind,by rw [← Int.mul_assoc,hy]; grind⟩
theorem So.mono {d D:Int} {M M':Nat} {s:Sd} (h:So d D M s) (l:M ≤ M'):So d D M' s:=by
  obtain ⟨X,Y,bX,bY,hx,hy⟩:=h.r
  exact ⟨h.z1,h.g,h.up,X,Y,bX.mono l,bY.mono l,hx,hy⟩
def BoD (d D:Int) (M:Nat) (b:Bo):Prop:=So d D M b.w∧So d D M b.h
def tkS (s t:Sd):Sd:=⟨lA (s.x * t.z + -t.x * s.z) (s.y * t.z + -t.y * s.z) (s.z * t.z),lB (s.x * t.z + -t.x * s.z) (s.y * t.z + -t.y * s.z) (s.z * t.z),lN (s.x * t.z + -t.x * s.z) (s.y * t.z + -t.y * s.z) (s.z * t.z)⟩
def shS (s:Sd) (m k:Int):Sd:=⟨lA (s.x * m) (s.y * m) (s.z * k),lB (s.x * m) (s.y * m) (s.z * k),lN (s.x * m) (s.y * m) (s.z * k)⟩
theorem wj {a b n D X Y:Int} (hn:n ≠ 0) (h1:a * D=X * n) (h2:b * D=Y * n):lA a b n * D=X * lN a b n∧lB a b n * D=Y * lN a b n:=by
  have e1:=l_a (a:=a) (b:=b) (n:=n)
  have e2:=l_b (a:=a) (b:=b) (n:=n)
  constructor
  · refine u3 hn ?_
    have:lA a b n * D * n=(lA a b n * n) * D:=by grind
    rw [this,e1]
    have:a * lN a b n * D=(a * D) * lN a b n:=by grind
    rw [this,h1]
    grind
  · refine u3 hn ?_
    have:lB a b n * D * n=(lB a b n * n) * D:=by grind
    rw [this,e2]
    have:b * lN a b n * D=(b * D) * lN a b n:=by grind
    rw [this,h2]
    grind
theorem GM {d D:Int} {M:Nat} {s t:Sd} (hR:Rt d) (h:So d D M s) (h':So d D M t) (up:sgn d (tkS s t).x (tkS s t).y=1):So d D (M + 1) (tkS s t):=by
  obtain ⟨X,Y,bX,bY,hx,hy⟩:=h.r
  obtain ⟨X',Y',bX',bY',hx',hy'⟩:=h'.r
  have hn:s.z * t.z ≠ 0:=Int.mul_ne_zero h.ne h'.ne
  obtain ⟨r1,r2⟩:=wj (a:=s.x * t.z + -t.x * s.z) (b:=s.y * t.z + -t.y * s.z) (n:=s.z * t.z) (D:=D) (X:=X - X') (Y:=Y - Y') hn (by grind) (by grind)
  exact ⟨l_n hn,uF hn,up,X - X',Y - Y',bX.sub bX',bY.sub bY',r1,r2⟩
theorem Gz {d D:Int} {M:Nat} {s t:Sd} (hR:Rt d) (h:So d D M s) (h':So d D M t):So d D (M + 1) (adS s t):=by
  obtain ⟨X,Y,bX,bY,hx,hy⟩:=h.r
  obtain ⟨X',Y',bX',bY',hx',hy'⟩:=h'.r
  have hn:s.z * t.z ≠ 0:=Int.mul_ne_zero h.ne h'.ne
  have hn1:1 ≤ s.z * t.z:=Int.mul_pos (by have:=h.z1; omega) (by have:=h'.z1; omega)
  obtain ⟨r1,r2⟩:=wj (a:=s.x * t.z + t.x * s.z) (b:=s.y * t.z + t.y * s.z) (n:=s.z * t.z) (D:=D) (X:=X + X') (Y:=Y + Y') hn (by grind) (by grind)
  refine ⟨l_n hn,uF hn,?_,X + X',Y + Y',bX.add bX',bY.add bY',r1,r2⟩
  refine (z7 hR hn1).trans (EX hR ?_ ?_)
  · exact (xN hR (k:=1) (m:=t.z) (by decide) (by have:=h'.z1; omega) (by grind) (by grind)).trans h.up
  · exact (xN hR (k:=1) (m:=s.z) (by decide) (by have:=h.z1; omega) (by grind) (by grind)).trans h'.up
theorem Er {d D m k:Int} {M j:Nat} {s:Sd} (hR:Rt d) (h:So d D M s) (m1:1 ≤ m) (k1:1 ≤ k) (bm:Bd j m):So d (D * k) (M + j) (shS s m k):=by
  obtain ⟨X,Y,bX,bY,hx,hy⟩:=h.r
  have hn:s.z * k ≠ 0:=Int.mul_ne_zero h.ne (by omega)
  have hn1:1 ≤ s.z * k:=Int.mul_pos (by have:=h.z1; omega) (by omega)
  obtain ⟨r1,r2⟩:=wj (a:=s.x * m) (b:=s.y * m) (n:=s.z * k) (D:=D * k) (X:=X * m) (Y:=Y * m) hn (by grind) (by grind)
  refine ⟨l_n hn,uF hn,?_,X * m,Y * m,bX.mul bm,bY.mul bm,r1,r2⟩
  exact (z7 hR hn1).trans ((xN hR (k:=1) (m:=m) (by decide) (by omega) (by grind) (by grind)).trans h.up)
theorem GI {d m k:Int} {s:Sd} (hR:Rt d) (z1:1 ≤ s.z) (up:sgn d s.x s.y=1) (m1:1 ≤ m) (hk:m < k):sgn d (tkS s (shS s m k)).x (tkS s (shS s m k)).y=1:=by
  have hn:s.z * k ≠ 0:=Int.mul_ne_zero (by omega) (by omega)
  have e1:(shS s m k).x * (s.z * k)=s.x * m * (shS s m k).z:=l_a
  have e2:(shS s m k).y * (s.z * k)=s.y * m * (shS s m k).z:=l_b
  have f1:1 ≤ (shS s m k).z:=l_n hn
  generalize hx:(shS s m k).x=fx at *
  generalize hy:(shS s m k).y=fy at *
  generalize hz:(shS s m k).z=fz at *
  have hn1:1 ≤ s.z * fz:=Int.mul_pos (by omega) (by omega)
  have t1:(tkS s (shS s m k)).x=lA (s.x * fz + -fx * s.z) (s.y * fz + -fy * s.z) (s.z * fz):=by
    unfold tkS
    rw [hx,hy,hz]
  have t2:(tkS s (shS s m k)).y=lB (s.x * fz + -fx * s.z) (s.y * fz + -fy * s.z) (s.z * fz):=by
    unfold tkS
    rw [hx,hy,hz]
  rw [t1,t2,z7 hR hn1]
  refine (xN hR (k:=k) (m:=fz * (k - m)) (by omega) (Int.mul_pos (by omega) (by omega)) ?_ ?_).trans up
  · clear t1 t2 hn1 hn up
    grind
  · clear t1 t2 hn1 hn up
    grind
theorem GK {d:Int} {s t:Sd} (hR:Rt d) (z1:1 ≤ s.z) (z2:1 ≤ t.z) (h:0 < sgn d (s.x * t.z - t.x * s.z) (s.y * t.z - t.y * s.z)):sgn d (tkS s t).x (tkS s t).y=1:=by
  have hn1:1 ≤ s.z * t.z:=Int.mul_pos (by omega) (by omega)
  have e:sgn d (tkS s t).x (tkS s t).y=sgn d (s.x * t.z - t.x * s.z) (s.y * t.z - t.y * s.z):=by
    refine (z7 hR hn1).trans ?_
    rw [show s.x * t.z + -t.x * s.z=s.x * t.z - t.x * s.z by grind,show s.y * t.z + -t.y * s.z=s.y * t.z - t.y * s.z by grind]
  rw [e]
  rcases sgn_tri hR (s.x * t.z - t.x * s.z) (s.y * t.z - t.y * s.z) with z | z | z
  · exact z
  · omega
  · rw [z.1,z.2,yo] at h
    omega
inductive Dd where
  | cut (al:Bool) (n:Int) (s:Sd)
  | glue (al:Bool) (n m:Int)
  | shift (al:Bool) (n k:Int)
  | turn (n:Int)
abbrev SY (s:Sd):Prop:=SK 1300 800 s
def Dd.wd:Dd→Str
  | .cut al _ _=>if al then "along" else "across"
  | .glue al _ _=>if al then "atop" else "beside"
  | .shift al _ _=>if al then "spread" else "stack"
  | .turn _=>"turn"
def Dd.n:Dd→Int
  | .cut _ n _=>n
  | .glue _ n _=>n
  | .shift _ n _=>n
  | .turn n=>n
def Dd.names:Dd→List Int
  | .glue _ n m=>[n,m]
  | d=>[d.n]
def DdAt (H:Hp) (p:Addr):Dd→Prop
  | .cut al n s=>∃ q,H p=some (.tup [.str (Dd.cut al n s).wd,.int n,.ref q])∧SdAt H q s
  | .glue al n m=>H p=some (.tup [.str (Dd.glue al n m).wd,.int n,.int m])
  | .shift al n k=>H p=some (.tup [.str (Dd.shift al n k).wd,.int n,.int k])
  | .turn n=>H p=some (.tup [.str "turn",.int n])
def Dd.Ok:Dd→Prop
  | .cut _ _ s=>SY s
  | .shift _ _ k=>1 ≤ k∧Bd 64 k
  | _=>True
theorem DdAt.same {H H':Hp} {p:Addr} {e:Dd} (h:DdAt H p e) (s:Same H H'):DdAt H' p e:=by
  cases e with
  | cut al n t=>obtain ⟨q,h1,h2⟩:=h; exact ⟨q,s _ _ h1,s _ _ h2⟩
  | glue al n m=>exact s _ _ h
  | shift al n k=>exact s _ _ h
  | turn n=>exact s _ _ h
def Dd.two:Dd→Bool
  | .glue _ _ _=>true
  | _=>false
def Dd.new (b c:Bo):Dd→List Bo
  | .cut false _ s=>[⟨s,b.h⟩,⟨tkS b.w s,b.h⟩]
  | .cut true _ s=>[⟨b.w,s⟩,⟨b.w,tkS b.h s⟩]
  | .glue false _ _=>[⟨adS b.w c.w,b.h⟩]
  | .glue true _ _=>[⟨b.w,adS b.h c.h⟩]
  | .shift false _ k=>[⟨shS b.w 1 k,shS b.h k 1⟩]
  | .shift true _ k=>[⟨shS b.w k 1,shS b.h 1 k⟩]
  | .turn _=>[⟨b.h,b.w⟩]
def C7 (d:Int) (w s:Sd):Prop:=SY w∧SY s∧0 < sgn d s.x s.y∧0 < sgn d (w.x * s.z - s.x * w.z) (w.y * s.z - s.y * w.z)
def Dd.Fit (d:Int) (b c:Bo):Dd→Prop
  | .cut false _ s=>C7 d b.w s
  | .cut true _ s=>C7 d b.h s
  | .glue false _ _=>b.h=c.h∧SY b.w∧SY c.w
  | .glue true _ _=>b.w=c.w∧SY b.h∧SY c.h
  | .shift _ _ k=>1 ≤ k∧Bd 64 k∧SY b.w∧SY b.h
  | .turn _=>True
def Dd.isT:Dd→Bool
  | .turn _=>true
  | _=>false
def yx (ns:List Nat):List Int→List Nat
  | []=>ns
  | m :: ms=>yx (ns.filter fun n:Nat=>decide ((n:Int) ≠ m)) ms
def CellsOf (cl:List Cell) (e:Dd) (c c':Cell):Prop:=match e with
  | .glue _ n m=>(∃ i:Nat,n=(i:Int)∧cl[i]?=some c)∧∃ i:Nat,m=(i:Int)∧cl[i]?=some c'
  | e=>(∃ i:Nat,e.n=(i:Int)∧cl[i]?=some c)∧c'=c
structure Yd where
  p:Addr
  dx:Addr
  k:Addr
  l:Addr
  t:Addr
def Yd.fs (y:Yd) (d:Int) (tn:Bool):List (Str × V):=[("root",.int d),("turning",.bl tn),("known",.ref y.k),("lying",.ref y.l),("done",.ref y.t)]
def nmK (ns:List Nat):List (Key × V):=ns.map fun n:Nat=>((.inl (n:Int):Key),V.bl true)
structure YdAt (C:Addr) (H:Hp) (y:Yd) (d:Int) (tn:Bool) (cl:List Cell) (ns:List Nat) (lg:List V):Prop where
  o:H y.p=some (.ins C y.dx (y.fs d tn))
  k:H y.k=some (.lst (cl.map Cell.v))
  l:H y.l=some (.dK (nmK ns))
  t:H y.t=some (.lst lg)
  kt:y.k ≠ y.t
  at':∀ c ∈ cl,c.At H
  up:ns.Pairwise (· < ·)
  lt:∀ n ∈ ns,n < cl.length
  lc:cl.length ≤ 80
  ll:lg.length ≤ 40
theorem YdAt.same {C:Addr} {H H':Hp} {y:Yd} {d:Int} {tn:Bool} {cl:List Cell} {ns:List Nat} {lg:List V} (h:YdAt C H y d tn cl ns lg) (s:Same H H'):YdAt C H' y d tn cl ns lg :=
  ⟨s _ _ h.o,s _ _ h.k,s _ _ h.l,s _ _ h.t,h.kt,fun c hc=>(h.at' c hc).same s,h.up,h.lt,h.lc,h.ll⟩
theorem yd {X:Cx} {e:Expr} {ta:TE} {f:Str} {pos:Pos} {K:PySem.W.Frag} (hK:X.K=K) (he:PE X e ta) (hb:attributeBase e f X.env (eval e X.env)=eval e X.env):PE X (.Attribute e f pos) (tFld K ta f):=by
  subst hK
  exact FC he hb
theorem GV {K:PySem.W.Frag} {ta:TE} {f:Str} {σ:L2.St} {H:Hp} {Q:VK} (h:ta σ H fun x H1=>∃ a C dx fs v,x=.ref a∧H1 a=some (.ins C dx fs)∧Cls K C∧NoAttr K C f∧fs.lookup f=some v∧Q v H1):tFld K ta f σ H Q:=h
theorem E6 {K:PySem.W.Frag} {ta tv:TE} {f:Str} {D:Ends} {σ:L2.St} {H:Hp} (h:tv σ H fun y H1=>ta σ H1 fun x H2=>∃ a C dx fs,x=.ref a∧H2 a=some (.ins C dx fs)∧Cls K C∧NoAttr K C f∧fs.length < 1000∧D.nx σ (upd H2 a (.ins C dx (putF f y fs)))):sFld K ta tv f D σ H:=h
local macro_rules | `(tactic| walk_at "rd")=>`(tactic| first | with_reducible refine GV ?_ | with_reducible refine E6 ?_)
theorem uR {K:PySem.W.Frag} {f:Str} {D:Ends} {σ:L2.St} {H:Hp} {y:V} {a C dx:Addr} {fs:List (Str × V)} (e:H a=some (.ins C dx fs)) (c:Cls K C) (n:NoAttr K C f) (hl:fs.length < 1000) (q:∀ H1,SameX a H H1→H1 a=some (.ins C dx (putF f y fs))→D.nx σ H1):∃ a' C dx fs,V.ref a=.ref a'∧H a'=some (.ins C dx fs)∧Cls K C∧NoAttr K C f∧fs.length < 1000∧D.nx σ (upd H a' (.ins C dx (putF f y fs))) :=
  ⟨a,C,dx,fs,rfl,e,c,n,hl,q _ (fun b u q n=>by rw [zt n]; exact q) zk⟩
theorem tW {K:PySem.W.Frag} {H:Hp} {Q:VK} {p:Addr} {ys:List V} (h:H p=some (.lst ys)) (q:∀ l H2,H l=none→Same H H2→H2 l=some (.lst ys)→Q (.ref l) H2):rLst K [.ref p] H Q:=⟨p,ys,rfl,.inl (SqL.of h),fun l hl=>q l _ hl (z4 hl _) zk⟩
theorem El {H:Hp} {Q:VK} {l:Addr} {ps:List Addr} {kvs:List (Key × V)} (e:H l=some (.lst (ps.map V.ref))) (hl:ps.length=kvs.length) (hp:∀ (i:Nat) (p:Addr) (kv:Key × V),ps[i]?=some p→kvs[i]?=some kv→H p=some (.tup [kV kv.1,kv.2])) (hn:(kvs.map (·.1)).Nodup) (hz:kvs.length ≤ 1000) (q:∀ p H2,H p=none→Same H H2→H2 p=some (.dK kvs)→Q (.ref p) H2):DJ [.ref l] H Q :=
  ⟨l,ps,kvs,rfl,e,hl,hp,hn,Nat.le_trans hz (by decide +kernel),fun p h=>q p _ h (z4 h _) zk⟩
theorem Ce {ns:List Nat} (h:ns.Pairwise (· < ·)):((nmK ns).map (·.1)).Nodup:=by
  rw [nmK,List.map_map]
  refine List.pairwise_map.mpr (h.imp fun {a b} hab e=>?_)
  have e:(a:Int)=b:=Sum.inl.inj e
  omega
theorem SameX.of {l:Addr} {H H':Hp} (s:Same H H'):SameX l H H':=fun b o e _=>s b o e
theorem yP {f:Str} {v:V} {fs:List (Str × V)} {n:Nat} (h:fs.length < n):(putF f v fs).length < n + 1:=Nat.lt_of_le_of_lt (xz f v fs) (Nat.succ_lt_succ h)
theorem FG {ty td:TE} {σ:L2.St} {H:Hp} {Q:VK} (h:ty σ H fun y H1=>td σ H1 fun x H2=>∃ a o,x=.ref a∧DGet H2 a y o∧Q (.bl (!o.isSome)) H2):Cr ty td σ H Q:=h
theorem F0 {ty td:TE} {σ:L2.St} {H:Hp} {Q:VK} (h:td σ H fun x H1=>ty σ H1 fun y H2=>∃ a v,x=.ref a∧DGet H2 a y (some v)∧Q v H2):FR td ty σ H Q:=h
theorem F4 {ty td tv:TE} {σ:L2.St} {H:Hp} {D:Ends} (h:tv σ H fun v H1=>td σ H1 fun x H2=>ty σ H2 fun y H3=>∃ a H4,x=.ref a∧DPut H3 a y v H4∧D.nx σ H4):Gf td ty tv D σ H:=h
local macro_rules | `(tactic| walk_at "rd")=>`(tactic| first | with_reducible refine FG ?_ | with_reducible refine F0 ?_ | with_reducible refine F4 ?_)
theorem vM {n:Nat}:∀ {ns:List Nat},n ∈ ns→valV (nmK ns) (.inl (n:Int))=some (.bl true)
  | m :: ns,h=>by
    by_cases e:m=n
    · subst e; exact z6 rfl
    · rw [nmK,List.map_cons,zX (fun c=>e (Int.ofNat.inj (Sum.inl.inj c)))]
      exact vM (by simpa [Ne.symm e] using h)
def pick (cl:List Cell) (ns:List Nat):List Cell:=ns.filterMap fun n=>cl[n]?
theorem Bn {cl:List Cell} {ns:List Nat} {i n:Nat} {c:Cell} (hi:ns[i]?=some n) (hc:cl[n]?=some c):pick cl (ns.take (i + 1))=pick cl (ns.take i) ++ [c]:=by
  rw [pick,List.take_succ,hi,List.filterMap_append]
  simp [pick,hc]
theorem Ap {cl:List Cell}:∀ {ns:List Nat},(pick cl ns).length ≤ ns.length
  | []=>Nat.le_refl _
  | n :: ns=>by
    have:=Ap (cl:=cl) (ns:=ns)
    cases e:cl[n]? with
    | none=>simp only [pick,List.filterMap_cons,e,List.length_cons]; exact Nat.le_succ_of_le this
    | some c=>simp only [pick,List.filterMap_cons,e,List.length_cons]; exact Nat.succ_le_succ this
theorem Bt {ns:List Nat} {k:Nat} (h:ns.Pairwise (· < ·)) (hk:∀ n ∈ ns,n < k):ns.length ≤ k:=by
  have hn:ns.Nodup:=h.imp fun hab=>Nat.ne_of_lt hab
  have:=(List.nodup_range (n:=k))
  exact (List.length_range (n:=k)) ▸ (List.Nodup.length_le_of_subset hn fun n h=>List.mem_range.mpr (hk n h))
def Prs (cl:List Cell) (ns:List Nat) (H:Hp) (ps:List Addr):Prop:=ps.length=ns.length∧∀ (j:Nat) (p:Addr),ps[j]?=some p→∃ n c,ns[j]?=some n∧cl[n]?=some c∧H p=some (.tup [.int (n:Int),.ref c.p])
theorem FP {C:Addr} {m:Str} {sp:Sp} {dvs:List V} {E:XK} {ta:TE} {t:TA} {σ:L2.St} {H:Hp} {Q:VK} (h:ta σ H fun x H1=>∃ a dx fs,x=.ref a∧H1 a=some (.ins C dx fs)∧fs.lookup m=none∧t σ H1 fun vs H2=>sp (x :: (vs ++ dvs)) H2 Q E):Bi C m sp dvs E ta t σ H Q:=h
theorem Ge {td ty:TE} {σ:L2.St} {H:Hp} {Q:VK} (h:td σ H fun x H1=>∃ a,x=.ref a∧IsD H1 a∧ty σ H1 fun y H2=>∃ kvs k v,H2 a=some (.dK kvs)∧y=kV k∧valV kvs k=some v∧Q v (upd H2 a (.dK (vk kvs k)))):DV td ty σ H Q:=h
local macro_rules | `(tactic| walk_at "rd")=>`(tactic| first | with_reducible refine FP ?_ | with_reducible refine Ge ?_)
theorem DdAt.tup {H:Hp} {p:Addr} {e:Dd} (h:DdAt H p e):∃ r,H p=some (.tup (.str e.wd :: .int e.n :: r)):=by
  cases e with
  | cut al n t=>obtain ⟨q,h1,h2⟩:=h; exact ⟨_,h1⟩
  | glue al n m=>exact ⟨_,h⟩
  | shift al n k=>exact ⟨_,h⟩
  | turn n=>exact ⟨_,h⟩
theorem BD {e:Dd} (h:e.wd=Str.ofString "turn"):e.isT=true:=by
  cases e with
  | cut al n t=>cases al <;> exact absurd (show Str.ofString _=Str.ofString "turn" from h) (by decide +kernel)
  | glue al n m=>cases al <;> exact absurd (show Str.ofString _=Str.ofString "turn" from h) (by decide +kernel)
  | shift al n k=>cases al <;> exact absurd (show Str.ofString _=Str.ofString "turn" from h) (by decide +kernel)
  | turn n=>rfl
theorem GF {p A B F:Prop} [Decidable p] (h:B) (k:p→B→A):if decide p=true then A else if false=true then F else B:=if_d (fun c=>k c h) fun _=>if_f h
theorem Dd.names_len (e:Dd):e.names.length ≤ 2:=by cases e <;> simp [Dd.names]
def Dd.cells (e:Dd) (c c':Cell):List Cell:=if e.two then [c,c'] else [c]
theorem tQ {cl:List Cell} {e:Dd} {c c':Cell} (h:CellsOf cl e c c') {i:Nat} {m:Int} (hi:e.names[i]?=some m):∃ (n:Nat) (x:Cell),m=(n:Int)∧cl[n]?=some x∧(e.cells c c')[i]?=some x:=by
  cases e with
  | glue al n k =>
    obtain ⟨⟨j,h1,h2⟩,j',h3,h4⟩:=h
    match i,hi with
    | 0,hi=>injection hi with hi; exact ⟨j,c,hi ▸ h1,h2,rfl⟩
    | 1,hi=>injection hi with hi; exact ⟨j',c',hi ▸ h3,h4,rfl⟩
    | i + 2,hi=>exact nomatch hi
  | cut al n t =>
    obtain ⟨⟨j,h1,h2⟩,_⟩:=h
    match i,hi with
    | 0,hi=>injection hi with hi; exact ⟨j,c,hi ▸ h1,h2,rfl⟩
    | i + 1,hi=>exact nomatch hi
  | shift al n k =>
    obtain ⟨⟨j,h1,h2⟩,_⟩:=h
    match i,hi with
    | 0,hi=>injection hi with hi; exact ⟨j,c,hi ▸ h1,h2,rfl⟩
    | i + 1,hi=>exact nomatch hi
  | turn n =>
    obtain ⟨⟨j,h1,h2⟩,_⟩:=h
    match i,hi with
    | 0,hi=>injection hi with hi; exact ⟨j,c,hi ▸ h1,h2,rfl⟩
    | i + 1,hi=>exact nomatch hi
theorem CellsOf.mem {cl:List Cell} {e:Dd} {c c':Cell} (h:CellsOf cl e c c'):c ∈ cl∧c' ∈ cl:=by
  cases e with
  | glue al n k=>obtain ⟨⟨j,h1,h2⟩,j',h3,h4⟩:=h; exact ⟨List.mem_of_getElem? h2,List.mem_of_getElem? h4⟩
  | cut al n t=>obtain ⟨⟨j,h1,h2⟩,rfl⟩:=h; exact ⟨List.mem_of_getElem? h2,List.mem_of_getElem? h2⟩
  | shift al n k=>obtain ⟨⟨j,h1,h2⟩,rfl⟩:=h; exact ⟨List.mem_of_getElem? h2,List.mem_of_getElem? h2⟩
  | turn n=>obtain ⟨⟨j,h1,h2⟩,rfl⟩:=h; exact ⟨List.mem_of_getElem? h2,List.mem_of_getElem? h2⟩
theorem Dd.cells_len (e:Dd) (c c':Cell):(e.cells c c').length=e.names.length:=by cases e <;> rfl
theorem wl {m:Int}:∀ (ms:List Int) (ns:List Nat),yx ns (ms ++ [m])=(yx ns ms).filter fun n:Nat=>decide ((n:Int) ≠ m)
  | [],_=>rfl
  | _ :: ms,_=>wl ms _
theorem mem_ndrop {n:Nat}:∀ {ms:List Int} {ns:List Nat},n ∈ yx ns ms ↔ n ∈ ns∧(n:Int) ∉ ms
  | [],ns=>by simp [yx]
  | m :: ms,ns=>by
    rw [yx,mem_ndrop,List.mem_filter]
    simp only [List.mem_cons,decide_eq_true_eq,not_or]
    constructor
    · rintro ⟨⟨a,b⟩,c⟩; exact ⟨a,b,c⟩
    · rintro ⟨a,b,c⟩; exact ⟨⟨a,b⟩,c⟩
theorem xH:∀ {ms:List Int} {ns:List Nat},ns.Pairwise (· < ·)→(yx ns ms).Pairwise (· < ·)
  | [],_,h=>h
  | m :: ms,ns,h=>show (yx (ns.filter fun n:Nat=>decide ((n:Int) ≠ m)) ms).Pairwise (· < ·) from xH (h.filter _)
theorem uJ {n:Nat}:∀ ns:List Nat,vk (nmK ns) (.inl (n:Int))=nmK (ns.filter fun k:Nat=>decide ((k:Int) ≠ (n:Int)))
  | []=>rfl
  | k :: ns=>by
    have ih:=uJ (n:=n) ns
    simp only [vk,nmK] at ih ⊢
    by_cases c:(k:Int)=n
    · simp only [List.map_cons,List.filter_cons,c,ne_eq,not_true_eq_false,decide_false,ih]
      rfl
    · simp only [List.map_cons,List.filter_cons,ne_eq,Sum.inl.injEq,c,not_false_eq_true,decide_true,ih]
      rfl
theorem vx {k:Nat}:∀ {ns:List Nat},(∀ n ∈ ns,n < k)→valV (nmK ns) (.inl (k:Int))=none
  | [],_=>rfl
  | m :: ns,h=>by
    rw [nmK,List.map_cons,zX (fun c=>absurd (Int.ofNat.inj (Sum.inl.inj c)) (Nat.ne_of_lt (h m List.mem_cons_self)))]
    exact vx fun n hn=>h n (List.mem_cons_of_mem _ hn)
theorem vT (e:Dd) (b c:Bo):(e.new b c).length ≤ 2:=by
  cases e with
  | cut al n t=>cases al <;> exact Nat.le_refl _
  | glue al n m=>cases al <;> exact Nat.le_succ _
  | shift al n k=>cases al <;> exact Nat.le_succ _
  | turn n=>exact Nat.le_succ _
theorem Same.nn {H H':Hp} (s:Same H H') {a:Addr} (h:H' a=none):H a=none:=by
  cases e:H a with
  | none=>rfl
  | some o=>rw [s _ _ e] at h; cases h
theorem zC {H:Hp} {Q:VK} {xs:List V} (hl:xs.length ≤ 1000) (h:∀ p H2,H p=none→Same H H2→H2 p=some (.tup xs)→Q (.ref p) H2):NewT xs H Q :=
  ⟨EV hl,fun p hp=>h p _ hp (z4 hp _) zk⟩
def plS (s t:Sd) (g:Int):Sd:=⟨lA (s.x * t.z + g * t.x * s.z) (s.y * t.z + g * t.y * s.z) (s.z * t.z),lB (s.x * t.z + g * t.x * s.z) (s.y * t.z + g * t.y * s.z) (s.z * t.z),lN (s.x * t.z + g * t.x * s.z) (s.y * t.z + g * t.y * s.z) (s.z * t.z)⟩
theorem tF (s t:Sd):plS s t (-1)=tkS s t:=by unfold plS tkS; rw [show (-1:Int) * t.x=-t.x by omega,show (-1:Int) * t.y=-t.y by omega]
theorem A1 (s t:Sd):plS s t 1=adS s t:=by unfold plS adS; rw [Int.one_mul,Int.one_mul]
structure Dw (d:Int) (s:Sd):Prop where
  z1:1 ≤ s.z
  g:g3 s.x s.y s.z=1
  up:sgn d s.x s.y=1
  bx:Bd 40 s.x
  by':Bd 40 s.y
  bz:Bd 20 s.z
theorem Dw.low {d a b n:Int} (hR:Rt d) (ba:Bd 40 a) (bb:Bd 40 b) (h1:1 ≤ n) (h2:n ≤ 1000000) (up:sgn d a b=1):Dw d ⟨lA a b n,lB a b n,lN a b n⟩ :=
  ⟨l_n (by omega),uF (by omega),(z7 hR h1).trans up,ba.fdiv _,bb.fdiv _,(zS (k:=20) (by omega) h2 (by decide)).fdiv _⟩
def pz:List Sd→Int
  | []=>1
  | s :: l=>s.z * pz l
theorem D5 {d:Int}:∀ {l:List Sd},(∀ s ∈ l,Dw d s)→1 ≤ pz l
  | [],_=>Int.le_refl _
  | s :: l,h=>Int.mul_pos (by have:=(h s List.mem_cons_self).z1; omega) (by have:=D5 (l:=l) fun t ht=>h t (List.mem_cons_of_mem _ ht); omega)
theorem Em {d:Int}:∀ {l:List Sd},(∀ s ∈ l,Dw d s)→Bd (20 * l.length + 1) (pz l)
  | [],_=>by decide
  | s :: l,h=>Bd.mono ((h s List.mem_cons_self).bz.mul (Em (l:=l) fun t ht=>h t (List.mem_cons_of_mem _ ht))) (by simp only [List.length_cons]; omega)
theorem FW {d:Int}:∀ {l:List Sd},(∀ s ∈ l,Dw d s)→∀ s ∈ l,So d (pz l) (20 * l.length + 41) s
  | [],_,s,hs=>absurd hs (by simp)
  | t :: l,h,s,hs=>by
    have hl:∀ s ∈ l,Dw d s:=fun t ht=>h t (List.mem_cons_of_mem _ ht)
    rcases List.mem_cons.mp hs with rfl | hs
    · have o:=h s List.mem_cons_self
      have:So d s.z 40 s:=⟨o.z1,o.g,o.up,s.x,s.y,o.bx,o.by',rfl,rfl⟩
      exact (this.scale (Em hl)).mono (by simp only [List.length_cons]; omega)
    · have:=(FW hl s hs).scale (h t List.mem_cons_self).bz
      rw [Int.mul_comm] at this
      exact this.mono (by simp only [List.length_cons]; omega)
abbrev PL:=List (Addr × Sd)
structure Pl (H:Hp) (q:Addr) (P:List (Addr × Sd)):Prop where
  l:H q=some (.lst (P.map fun x=>V.ref x.1))
  at':∀ x ∈ P,SdAt H x.1 x.2
  n:P.length=3
theorem Pl.same {H H':Hp} {q:Addr} {P:List (Addr × Sd)} (h:Pl H q P) (s:Same H H'):Pl H' q P:=⟨s _ _ h.l,fun x hx=>s _ _ (h.at' x hx),h.n⟩
theorem Pl.get {H:Hp} {q:Addr} {P:List (Addr × Sd)} (h:Pl H q P) {i:Int} (h0:0 ≤ i) (h1:i < 3):∃ x ∈ P,atI (P.map fun x=>V.ref x.1) i=some (.ref x.1)∧SdAt H x.1 x.2:=by
  have hn:=h.n
  obtain ⟨j,rfl⟩:∃ j:Nat,i=(j:Int):=⟨i.toNat,by omega⟩
  have hj:j < P.length:=by omega
  refine ⟨P[j],List.getElem_mem hj,zI (by rw [List.getElem?_map,List.getElem?_eq_getElem hj]; rfl),h.at' _ (List.getElem_mem hj)⟩
def cdK (ns:List Nat) (f:Nat→Cell):List (Key × V):=ns.map fun n:Nat=>((.inl (n:Int):Key),(f n).v)
structure Ly (H:Hp) (a:Addr) (ns:List Nat) (f:Nat→Cell):Prop where
  l:H a=some (.dK (cdK ns f))
  at':∀ n ∈ ns,(f n).At H
theorem Ly.same {H H':Hp} {a:Addr} {ns:List Nat} {f:Nat→Cell} (h:Ly H a ns f) (s:Same H H'):Ly H' a ns f:=⟨s _ _ h.l,fun n hn=>(h.at' n hn).same s⟩
theorem zF {n:Nat} {f:Nat→Cell}:∀ {ns:List Nat},n ∈ ns→valV (cdK ns f) (.inl (n:Int))=some (f n).v
  | m :: ns,h=>by
    by_cases e:m=n
    · subst e; exact z6 rfl
    · rw [cdK,List.map_cons,zX (fun c=>e (Int.ofNat.inj (Sum.inl.inj c)))]
      exact zF (by simpa [Ne.symm e] using h)
theorem xA {k:Nat} {f:Nat→Cell}:∀ {ns:List Nat},(∀ n ∈ ns,n < k)→valV (cdK ns f) (.inl (k:Int))=none
  | [],_=>rfl
  | m :: ns,h=>by
    rw [cdK,List.map_cons,zX (fun c=>absurd (Int.ofNat.inj (Sum.inl.inj c)) (Nat.ne_of_lt (h m List.mem_cons_self)))]
    exact xA fun n hn=>h n (List.mem_cons_of_mem _ hn)
theorem uY {n:Nat} {f:Nat→Cell}:∀ ns:List Nat,vk (cdK ns f) (.inl (n:Int))=cdK (ns.filter fun k:Nat=>decide ((k:Int) ≠ (n:Int))) f
  | []=>rfl
  | k :: ns=>by
    have ih:=uY (n:=n) (f:=f) ns
    simp only [vk,cdK] at ih ⊢
    by_cases c:(k:Int)=n
    · simp only [List.map_cons,List.filter_cons,c,ne_eq,not_true_eq_false,decide_false,ih]
      rfl
    · simp only [List.map_cons,List.filter_cons,ne_eq,Sum.inl.injEq,c,not_false_eq_true,decide_true,ih]
      rfl
theorem Do {ns:List Nat} {f:Nat→Cell}:(cdK ns f).map (·.1)=(ns.map fun n:Nat=>(n:Int)).map Sum.inl:=by
  simp only [cdK,List.map_map]
  rfl
theorem tq {ns:List Nat} {f:Nat→Cell}:(cdK ns f).length=ns.length:=by simp [cdK]
theorem FB {ns:List Nat} (h:ns.Pairwise (· < ·)):(ns.map fun n:Nat=>(n:Int)).Pairwise (· < ·) :=
  List.pairwise_map.mpr (h.imp fun {a b} hab=>Int.ofNat_lt.mpr hab)
theorem tH {H:Hp} {Q:VK} {a:Addr} {ns:List Nat} {f:Nat→Cell} (h:H a=some (.dK (cdK ns f))) (up:ns.Pairwise (· < ·)) (hl:ns.length < 64) (q:∀ p H2,H p=none→Same H H2→H2 p=some (.lst ((ns.map fun n:Nat=>(n:Int)).map V.int))→Q (.ref p) H2):DG [.ref a] H Q :=
  ⟨a,_,_,rfl,h,Do,FB up,by rw [tq]; exact hl,fun p hp=>q p _ hp (z4 hp _) zk⟩
theorem C9 {H:Hp} {Q:VK} {a:Addr} {kvs:List (Key × V)} (h:H a=some (.dK kvs)) (q:∀ p H2,H p=none→Same H H2→H2 p=some (.dK kvs)→Q (.ref p) H2):D3 [.ref a] H Q :=
  ⟨a,_,rfl,h,fun p hp=>q p _ hp (z4 hp _) zk⟩
def rNeL (X:Cx):R2:=fun x y H Q=>∃ a b xs ys bs n,x=.ref a∧y=.ref b∧n ≤ 9∧SqL X.K H a xs∧SqL X.K H b ys∧EqVs X n H xs ys bs∧Q (.bl (!(bs.all id))) H
theorem Cp {X:Cx} (hu:X.A.units + 64 < cLine):OpR X (compareOp .NotEq) (rNeL X):=by
  intro pins s σ H x y v u Q I rx ry h
  obtain ⟨a,b,xs,ys,bs,n,rfl,rfl,hn,ha,hb,he,q⟩:=h
  cases rx
  cases ry
  obtain ⟨is,js,p1,p2,hz,hj,e⟩:=BI (A:=X.A) ha hb he I (by omega)
  refine SeqAt.RcNeAt.lists p1 p2 hz (by omega) hj X.prog X.w X.xe _ ?_
  rw [e]
  exact ⟨.bl _,H,I,rfl,q⟩
theorem FU {X:Cx} {H:Hp} {Q:VK} {a b:Addr} {C D:List Cell} (ha:H a=some (.lst (C.map Cell.v))) (hb:H b=some (.lst (D.map Cell.v))) (hC:∀ c ∈ C,c.At H) (hD:∀ c ∈ D,c.At H) (e:C.map Cell.b=D.map Cell.b) (q:Q (.bl false) H):rNeL X (.ref a) (.ref b) H Q:=by
  obtain ⟨a',b',xs,ys,bs,n,e1,e2,hn,h1,h2,h3,h4⟩:=DC (X:=X) (Q:=fun v H'=>v=.bl true∧H'=H) ha hb hC hD e ⟨rfl,rfl⟩
  refine ⟨a',b',xs,ys,bs,n,e1,e2,hn,h1,h2,h3,?_⟩
  have h5:bs.all id=true:=by
    have:=h4.1
    injection this
  rw [h5]
  exact q
def rNeE (K:PySem.W.Frag):R2:=fun x y H Q=>∃ a b xs,x=.ref a∧y=.ref b∧SqL K H a xs∧SqL K H b []∧Q (.bl (!xs.isEmpty)) H
theorem DF {X:Cx} (hu:X.A.units + 64 < cLine):OpR X (compareOp .NotEq) (rNeE X.K):=by
  intro pins s σ H x y v u Q I rx ry h
  obtain ⟨a,b,xs,rfl,rfl,ha,hb,q⟩:=h
  cases rx
  cases ry
  obtain ⟨is,r1,p1,_⟩:=I.list ha
  obtain ⟨js,r2,p2,_⟩:=I.list hb
  have l1:=r1.length
  have l2:=r2.length
  have j0:js=[]:=List.length_eq_zero_iff.mp l2.symm
  subst j0
  cases xs with
  | nil =>
    have i0:is=[]:=List.length_eq_zero_iff.mp l1.symm
    subst i0
    exact SeqAt.RcNeAt.lists (e:=fun _=>true) p1.isList p2.isList rfl (by omega) (fun j h1 h2=>absurd h1 (by simp)) X.prog X.w X.xe _ ⟨.bl false,H,I,rfl,q⟩
  | cons z zs =>
    refine SeqAt.RcNeAt.lists_lengths p1.isList p2.isList ?_ (by omega) X.prog X.w X.xe _ ⟨.bl true,H,I,rfl,q⟩
    cases is with
    | nil=>simp at l1
    | cons i is=>simp
def rEq3 (K:PySem.W.Frag):R2:=fun u v H Q=>∃ (a b:Addr) (x y z x' y' z':Int),u=.ref a∧v=.ref b∧SqT K H a [.int x,.int y,.int z]∧SqT K H b [.int x',.int y',.int z']∧Q (.bl (decide (x=x'∧y=y'∧z=z'))) H
theorem FV {X:Cx} {K:PySem.W.Frag} (hu:X.A.units + 64 < cLine) (hK:X.K=K):OpR X (compareOp .Eq) (rEq3 K):=by
  subst hK
  intro pins s σ H x y v u Q I rx ry h
  obtain ⟨a,b,x1,y1,z1,x2,y2,z2,rfl,rfl,ha,hb,q⟩:=h
  exact A7 hu pins s σ H _ _ v u Q I rx ry (Fq ha hb q)
theorem GS {d:Int} {s t:Sd} (hR:Rt d) (z1:1 ≤ s.z) (z2:1 ≤ t.z) (h:sgn d (tkS t s).x (tkS t s).y < 0):sgn d (tkS s t).x (tkS s t).y=1:=by
  refine GK hR z1 z2 ?_
  have hn1:1 ≤ t.z * s.z:=Int.mul_pos (by omega) (by omega)
  have e:sgn d (tkS t s).x (tkS t s).y=sgn d (-(s.x * t.z - t.x * s.z)) (-(s.y * t.z - t.y * s.z)):=by
    refine (z7 hR hn1).trans ?_
    rw [show t.x * s.z + -s.x * t.z=-(s.x * t.z - t.x * s.z) by grind,show t.y * s.z + -s.y * t.z=-(s.y * t.z - t.y * s.z) by grind]
  rw [e,xX hR] at h
  omega
structure Dd.Good (d D:Int) (M:Nat) (ns:List Nat) (f:Nat→Cell) (e:Dd) (n m:Nat):Prop where
  nm:e.names=if e.two then [(n:Int),(m:Int)] else [(n:Int)]
  hn:n ∈ ns
  hm:m ∈ ns
  ne:e.two=true→n ≠ m
  eq:e.two=false→m=n
  ok:e.Ok
  fit:e.Fit d (f n).b (f m).b
  new:∃ k,1 ≤ k∧Bd 14 k∧∀ x ∈ e.new (f n).b (f m).b,BoD d (D * k) (M + 28) x
theorem Dd.Good.en {d D:Int} {M:Nat} {ns:List Nat} {f:Nat→Cell} {e:Dd} {n m:Nat} (h:e.Good d D M ns f n m):e.n=(n:Int):=by
  have:=h.nm
  cases e <;> simp [Dd.names,Dd.two,Dd.n] at this ⊢
  · exact this
  · exact this.1
  · exact this
  · exact this
theorem BoD.up {d D k:Int} {M j:Nat} {b:Bo} (h:BoD d D M b) (bk:Bd j k):BoD d (D * k) (M + j) b:=⟨h.1.scale bk,h.2.scale bk⟩
theorem BoD.mono {d D:Int} {M M':Nat} {b:Bo} (h:BoD d D M b) (l:M ≤ M'):BoD d D M' b:=⟨h.1.mono l,h.2.mono l⟩
structure Sz (D:Int) (K' M:Nat):Prop where
  d1:1 ≤ D
  bd:Bd K' D
  k:K' ≤ 740
  m:M ≤ 1250
theorem Sz.sy {d D:Int} {K' M:Nat} {s:Sd} (z:Sz D K' M) (h:So d D M s):SY s:=(h.sk z.d1 z.bd).mono (by have:=z.m; omega) (by have:=z.k; omega)
theorem Ad {d D k:Int} {K' M:Nat} {ns:List Nat} {f:Nat→Cell} {n:Nat} {al:Bool} {s:Sd} (hR:Rt d) (z:Sz D K' M) (hn:n ∈ ns) (hb:BoD d D M (f n).b) (k1:1 ≤ k) (bk:Bd 10 k) (hs:So d (D * k) (M + 10) s)
    (up:sgn d (tkS (if al then (f n).b.h else (f n).b.w) s).x (tkS (if al then (f n).b.h else (f n).b.w) s).y=1):(Dd.cut al n s).Good d D M ns f n n:=by
  have kD:1 ≤ D * k:=Int.mul_pos (by have:=z.d1; omega) (by omega)
  have bD:Bd (K' + 10) (D * k):=z.bd.mul bk
  have ss:SY s:=(hs.sk kD bD).mono (by have:=z.m; omega) (by have:=z.k; omega)
  have hb':=hb.up bk
  have key:∀ w:Sd,So d D M w→sgn d (tkS w s).x (tkS w s).y=1→C7 d w s∧So d (D * k) (M + 28) (tkS w s):=fun w hw u=>by
    have hn1:1 ≤ w.z * s.z:=Int.mul_pos (by have:=hw.z1; omega) (by have:=hs.z1; omega)
    refine ⟨⟨z.sy hw,ss,by rw [hs.up]; decide,?_⟩,(GM hR (hw.scale bk) hs u).mono (by omega)⟩
    have e:sgn d (tkS w s).x (tkS w s).y=sgn d (w.x * s.z - s.x * w.z) (w.y * s.z - s.y * w.z):=by
      refine (z7 hR hn1).trans ?_
      rw [show w.x * s.z + -s.x * w.z=w.x * s.z - s.x * w.z by grind,show w.y * s.z + -s.y * w.z=w.y * s.z - s.y * w.z by grind]
    rw [← e,u]
    decide
  have hs':=hs.mono (M':=M + 28) (by omega)
  have ow:=hb'.1.mono (M':=M + 28) (by omega)
  have oh:=hb'.2.mono (M':=M + 28) (by omega)
  cases al with
  | false =>
    obtain ⟨c1,c2⟩:=key (f n).b.w hb.1 up
    refine ⟨rfl,hn,hn,(fun h=>nomatch h),fun _=>rfl,ss,c1,k,k1,bk.mono (by decide),fun x hx=>?_⟩
    rcases List.mem_cons.mp hx with rfl | hx
    · exact ⟨hs',oh⟩
    · rw [List.mem_singleton.mp hx]; exact ⟨c2,oh⟩
  | true =>
    obtain ⟨c1,c2⟩:=key (f n).b.h hb.2 up
    refine ⟨rfl,hn,hn,(fun h=>nomatch h),fun _=>rfl,ss,c1,k,k1,bk.mono (by decide),fun x hx=>?_⟩
    rcases List.mem_cons.mp hx with rfl | hx
    · exact ⟨ow,hs'⟩
    · rw [List.mem_singleton.mp hx]; exact ⟨ow,c2⟩
theorem uh {d D:Int} {K' M:Nat} {ns:List Nat} {f:Nat→Cell} {n m:Nat} {al:Bool} (hR:Rt d) (z:Sz D K' M) (hn:n ∈ ns) (hm:m ∈ ns) (nm:n ≠ m) (hb:BoD d D M (f n).b) (hb':BoD d D M (f m).b)
    (e:(if al then (f n).b.w else (f n).b.h)=(if al then (f m).b.w else (f m).b.h)):(Dd.glue al n m).Good d D M ns f n m:=by
  cases al with
  | false =>
    refine ⟨rfl,hn,hm,fun _=>nm,(fun h=>nomatch h),trivial,⟨e,z.sy hb.1,z.sy hb'.1⟩,1,by decide,by decide,fun x hx=>?_⟩
    rw [List.mem_singleton.mp hx,Int.mul_one]
    exact ⟨(Gz hR hb.1 hb'.1).mono (by omega),hb.2.mono (by omega)⟩
  | true =>
    refine ⟨rfl,hn,hm,fun _=>nm,(fun h=>nomatch h),trivial,⟨e,z.sy hb.2,z.sy hb'.2⟩,1,by decide,by decide,fun x hx=>?_⟩
    rw [List.mem_singleton.mp hx,Int.mul_one]
    exact ⟨hb.1.mono (by omega),(Gz hR hb.2 hb'.2).mono (by omega)⟩
theorem AJ {d D k:Int} {K' M:Nat} {ns:List Nat} {f:Nat→Cell} {n:Nat} {al:Bool} (hR:Rt d) (z:Sz D K' M) (hn:n ∈ ns) (hb:BoD d D M (f n).b) (k1:1 ≤ k) (bk:Bd 14 k):(Dd.shift al n k).Good d D M ns f n n:=by
  have o1:∀ s:Sd,So d D M s→So d (D * k) (M + 28) (shS s 1 k):=fun s hs=>(Er (j:=1) hR hs (by decide) k1 (by decide)).mono (by omega)
  have o2:∀ s:Sd,So d D M s→So d (D * k) (M + 28) (shS s k 1):=fun s hs=>by
    have:=Er (j:=14) hR hs k1 (show (1:Int) ≤ 1 by decide) bk
    rw [Int.mul_one] at this
    exact (this.scale bk).mono (by omega)
  have b64:Bd 64 k:=bk.mono (by decide)
  cases al with
  | false =>
    refine ⟨rfl,hn,hn,(fun h=>nomatch h),fun _=>rfl,⟨k1,b64⟩,⟨k1,b64,z.sy hb.1,z.sy hb.2⟩,k,k1,bk,fun x hx=>?_⟩
    rw [List.mem_singleton.mp hx]
    exact ⟨o1 _ hb.1,o2 _ hb.2⟩
  | true =>
    refine ⟨rfl,hn,hn,(fun h=>nomatch h),fun _=>rfl,⟨k1,b64⟩,⟨k1,b64,z.sy hb.1,z.sy hb.2⟩,k,k1,bk,fun x hx=>?_⟩
    rw [List.mem_singleton.mp hx]
    exact ⟨o2 _ hb.1,o1 _ hb.2⟩
theorem BB {d D:Int} {M:Nat} {ns:List Nat} {f:Nat→Cell} {n:Nat} (hn:n ∈ ns) (hb:BoD d D M (f n).b):(Dd.turn n).Good d D M ns f n n:=by
  refine ⟨rfl,hn,hn,(fun h=>nomatch h),fun _=>rfl,trivial,trivial,1,by decide,by decide,fun x hx=>?_⟩
  rw [List.mem_singleton.mp hx,Int.mul_one]
  exact ⟨hb.2.mono (by omega),hb.1.mono (by omega)⟩
def fL (L:List Cell) (n:Nat):Cell:=L[n]?.getD ⟨0,0,0,⟨⟨0,0,1⟩,⟨0,0,1⟩⟩⟩
theorem wm {L:List Cell} {n:Nat} {c:Cell} (h:L[n]?=some c):fL L n=c:=by unfold fL; rw [h]; rfl
theorem Dd.Good.nodup {d D:Int} {M:Nat} {ns:List Nat} {f:Nat→Cell} {e:Dd} {n m:Nat} (h:e.Good d D M ns f n m):e.names.Nodup:=by
  rw [h.nm]
  cases ht:e.two with
  | true =>
    rw [if_pos rfl]
    have:=h.ne ht
    simp
    omega
  | false =>
    rw [if_neg (by decide)]
    simp
theorem Bf {d D:Int} {M:Nat} {ns:List Nat} {f:Nat→Cell} {e:Dd} {n m:Nat} (h:e.Good d D M ns f n m) {i:Nat} {z:Int} (hi:e.names[i]?=some z):∃ j ∈ ns,z=(j:Int)∧(e.cells (f n) (f m))[i]?=some (f j):=by
  rw [h.nm] at hi
  unfold Dd.cells
  cases ht:e.two with
  | true =>
    rw [ht,if_pos rfl] at hi
    rw [if_pos rfl]
    match i,hi with
    | 0,hi=>injection hi with hi; exact ⟨n,h.hn,hi.symm,rfl⟩
    | 1,hi=>injection hi with hi; exact ⟨m,h.hm,hi.symm,rfl⟩
    | i + 2,hi=>exact nomatch hi
  | false =>
    rw [ht,if_neg (by decide)] at hi
    rw [if_neg (by decide)]
    match i,hi with
    | 0,hi=>injection hi with hi; exact ⟨n,h.hn,hi.symm,rfl⟩
    | i + 1,hi=>exact nomatch hi
theorem Dk {cl:List Cell} {ns:List Nat} {c:Cell} (h:c ∈ pick cl ns):c ∈ cl:=by
  obtain ⟨n,_,hn⟩:=List.mem_filterMap.mp h
  exact List.mem_of_getElem? hn
def fN (f:Nat→Cell) (k:Nat) (N:List Cell) (j:Nat):Cell:=if j < k then f j else fL N (j - k)
theorem ED {f:Nat→Cell} {k:Nat} {N:List Cell} {j:Nat} (h:j < k):fN f k N j=f j:=if_pos h
theorem D7 {f:Nat→Cell} {k:Nat} {N:List Cell} {i:Nat}:fN f k N (k + i)=fL N i:=by unfold fN; rw [if_neg (by omega),Nat.add_sub_cancel_left]
theorem A8 {ns:List Nat} {f g:Nat→Cell} (h:∀ n ∈ ns,f n=g n):cdK ns f=cdK ns g:=List.map_congr_left fun n hn=>by rw [h n hn]
theorem Az {ns:List Nat} {f:Nat→Cell} {j:Nat}:cdK (ns ++ [j]) f=cdK ns f ++ [(.inl (j:Int),(f j).v)]:=by simp [cdK]
theorem yr {K:PySem.W.Frag} {H:Hp} {Q:VK} {p:Addr} {x:V} {ys:List V} {b:Bool} (e:H p=some (.tup ys)) (hx:xb x=true) (hy:ys.all xb=true) (hb:inV x ys=b) (q:Q (.bl b) H):rIn K false x (.ref p) H Q:=by
  subst hb
  exact GP e hx hy q
theorem E5 {C:Addr} {sp:Sp} {dvs:List V} {E:XK} {t:TA} {σ:L2.St} {H:Hp} {Q:VK} (h:t σ H fun vs H1=>∀ x dx,H1 x=none→H1 dx=none→dx ≠ x→sp (.ref x :: (vs ++ dvs)) (upd (upd H1 dx (.own x)) x (.ins C dx [])) (fun v H2=>v=.non∧Q (.ref x) H2) E):Ej C sp dvs E t σ H Q:=h
theorem YdAt.mv {C:Addr} {H H':Hp} {y:Yd} {d:Int} {tn:Bool} {cl:List Cell} {ns:List Nat} {lg:List V} (h:YdAt C H y d tn cl ns lg) (f:∀ b o,H b=some o→(∃ xs,o=.tup xs) ∨ b=y.p ∨ b=y.k ∨ b=y.l ∨ b=y.t→H' b=some o):YdAt C H' y d tn cl ns lg :=
  ⟨f _ _ h.o (.inr (.inl rfl)),f _ _ h.k (.inr (.inr (.inl rfl))),f _ _ h.l (.inr (.inr (.inr (.inl rfl)))),f _ _ h.t (.inr (.inr (.inr (.inr rfl)))),h.kt,fun c hc=>⟨f _ _ (h.at' c hc).t (.inl ⟨_,rfl⟩),f _ _ (h.at' c hc).w (.inl ⟨_,rfl⟩),f _ _ (h.at' c hc).h (.inl ⟨_,rfl⟩)⟩,h.up,h.lt,h.lc,h.ll⟩
theorem EA {K:PySem.W.Frag} {H:Hp} {Q:VK} {a:Addr} {ns:List Int} {i j:Nat} (hS:SqL K H a (ns.map V.int)) (q:∀ (p:Addr) (H2:Hp),H p=none→Same H H2→H2 p=some (.lst (((ns.drop i).take (j - i)).map V.int))→Q (.ref p) H2):rSlL K (.ref a) (some (i:Int)) (some (j:Int)) H Q:=by
  obtain ⟨a',xs,e1,h1,h2⟩:=F5 (i:=i) (j:=j) (Q:=fun v H2=>∃ p,v=.ref p∧Same H H2∧H2 p=some (.lst (((ns.drop i).take (j - i)).map V.int))) hS (fun p H2 s e=>⟨p,rfl,s,e⟩)
  refine ⟨a',xs,e1,h1,fun p hp=>?_⟩
  obtain ⟨p',e,s,z⟩:=h2 p hp
  injection e with e
  subst e
  exact q _ _ hp s z
theorem Gu (e:Dd) (b c:Bo):1 ≤ (e.new b c).length:=by
  cases e with
  | cut al n t=>cases al <;> exact Nat.le_succ _
  | glue al n m=>cases al <;> exact Nat.le_refl _
  | shift al n k=>cases al <;> exact Nat.le_refl _
  | turn n=>exact Nat.le_refl _
theorem Dh {ns:List Nat} {ms:List Int} {n:Nat} (up:ns.Pairwise (· < ·)) (hn:n ∈ ns) (hm:(n:Int) ∈ ms):(yx ns ms).length + 1 ≤ ns.length:=by
  have nd:(n :: yx ns ms).Nodup:=List.nodup_cons.mpr ⟨fun h=>(mem_ndrop.mp h).2 hm,(xH up).imp fun hab=>Nat.ne_of_lt hab⟩
  exact List.Nodup.length_le_of_subset nd fun k hk=>by
    rcases List.mem_cons.mp hk with rfl | hk
    · exact hn
    · exact (mem_ndrop.mp hk).1
theorem DdAt.sameX {H H':Hp} {p l:Addr} {e:Dd} {xs:List V} (h:DdAt H p e) (s:SameX l H H') (e0:H l=some (.lst xs)):DdAt H' p e:=by
  cases e with
  | cut al n t=>obtain ⟨q,h1,h2⟩:=h; exact ⟨q,s.tup h1 e0,s.tup h2 e0⟩
  | glue al n m=>exact s.tup h e0
  | shift al n k=>exact s.tup h e0
  | turn n=>exact s.tup h e0
theorem Bb {ns:List Nat} {i:Int} (h:ns ≠ []):∃ n ∈ ns,atI ((ns.map fun n:Nat=>(n:Int)).map V.int) (i % ((((ns.map fun n:Nat=>(n:Int)).map V.int).length:Nat):Int))=some (.int (n:Int)):=by
  have hp:0 < ns.length:=List.length_pos_iff.mpr h
  have e:((((ns.map fun n:Nat=>(n:Int)).map V.int).length:Nat):Int)=(ns.length:Int):=by simp
  rw [e]
  have h0:=Int.emod_nonneg i (show (ns.length:Int) ≠ 0 by omega)
  have h1:=Int.emod_lt_of_pos i (show (0:Int) < ns.length by omega)
  obtain ⟨x,hx,g⟩:=Av (xs:=ns.map fun n:Nat=>(n:Int)) (i:=i % (ns.length:Int)) h0 (by rw [List.length_map]; exact h1)
  obtain ⟨n,hn,rfl⟩:=List.mem_map.mp hx
  exact ⟨n,hn,g⟩
theorem Df {K:PySem.W.Frag} {H:Hp} {Q:VK} {a:Addr} {xs:List V} {i:Nat} (h:H a=some (.lst xs)) (q:∀ (p:Addr) (H2:Hp),Same H H2→H2 p=some (.lst (xs.drop i))→Q (.ref p) H2):rSlL K (.ref a) (some (i:Int)) none H Q:=by
  refine ⟨a,_,rfl,SqL.of h,fun p hp=>?_⟩
  refine q p _ (z4 hp _) ?_
  rw [zk]
  unfold cutV
  rw [HT.sIx_nat,HT.sIx_none]
  congr 2
  rcases Nat.le_total i xs.length with z | z
  · rw [Nat.min_eq_left z,List.take_of_length_le (by rw [List.length_drop]; omega)]
  · rw [Nat.min_eq_right z,List.drop_of_length_le (Nat.le_refl _),List.drop_of_length_le z,List.take_nil]
structure As where
  k:Nat
  ns:List Nat
  g:Nat→Bo
def gN (g:Nat→Bo) (k:Nat) (N:List Bo) (j:Nat):Bo:=if j < k then g j else N[j - k]?.getD ⟨⟨0,0,1⟩,⟨0,0,1⟩⟩
def As.next (s:As) (x:Dd × Nat × Nat):As:=⟨s.k + (x.1.new (s.g x.2.1) (s.g x.2.2)).length,yx s.ns x.1.names ++ List.range' s.k (x.1.new (s.g x.2.1) (s.g x.2.2)).length,gN s.g s.k (x.1.new (s.g x.2.1) (s.g x.2.2))⟩
def ends (s:As) (es:List (Dd × Nat × Nat)):As:=es.foldl As.next s
def As.st (L:List Cell):As:=⟨L.length,List.range L.length,fun n=>(fL L n).b⟩
structure Nms (s:As) (e:Dd) (n m:Nat):Prop where
  nm:e.names=if e.two then [(n:Int),(m:Int)] else [(n:Int)]
  hn:n ∈ s.ns
  hm:m ∈ s.ns
  ne:e.two=true→n ≠ m
  eq:e.two=false→m=n
structure Stp (d:Int) (tn:Bool) (s:As) (x:Dd × Nat × Nat):Prop where
  nms:Nms s x.1 x.2.1 x.2.2
  ok:x.1.Ok
  fit:x.1.Fit d (s.g x.2.1) (s.g x.2.2)
  tn:x.1.isT=true→tn=true
def Walk (d:Int) (tn:Bool) (s:As) (es:List (Dd × Nat × Nat)):Prop:=∀ (i:Nat) (x:Dd × Nat × Nat),es[i]?=some x→Stp d tn (ends s (es.take i)) x
theorem xP {s:As} {es:List (Dd × Nat × Nat)} {i:Nat} {x:Dd × Nat × Nat} (h:es[i]?=some x):ends s (es.take (i + 1))=(ends s (es.take i)).next x:=by
  rw [List.take_succ,h]
  show ends s (es.take i ++ [x])=_
  unfold ends
  rw [List.foldl_append]
  rfl
def Runs (H:Hp) (ps:List Addr) (es:List (Dd × Nat × Nat)):Prop:=ps.length=es.length∧∀ (i:Nat) (p:Addr) (x:Dd × Nat × Nat),ps[i]?=some p→es[i]?=some x→DdAt H p x.1
theorem Runs.same {H H':Hp} {ps:List Addr} {es:List (Dd × Nat × Nat)} (h:Runs H ps es) (s:Same H H'):Runs H' ps es:=⟨h.1,fun i p x h1 h2=>(h.2 i p x h1 h2).same s⟩
def YdS (C:Addr) (H:Hp) (y:Yd) (d:Int) (tn:Bool) (s:As) (lg:List V):Prop:=∃ cl,YdAt C H y d tn cl s.ns lg∧cl.length=s.k∧∀ n,n < s.k→∃ c,cl[n]?=some c∧c.b=s.g n
theorem Nms.names_in {s:As} {e:Dd} {n m:Nat} (h:Nms s e n m):∀ k ∈ e.names,∃ i ∈ s.ns,k=(i:Int):=fun k hk=>by
  rw [h.nm] at hk
  cases ht:e.two with
  | true =>
    rw [ht,if_pos rfl] at hk
    rcases List.mem_cons.mp hk with rfl | hk
    · exact ⟨n,h.hn,rfl⟩
    · rw [List.mem_singleton.mp hk]; exact ⟨m,h.hm,rfl⟩
  | false =>
    rw [ht,if_neg (by decide)] at hk
    rw [List.mem_singleton.mp hk]; exact ⟨n,h.hn,rfl⟩
theorem Nms.nodup {s:As} {e:Dd} {n m:Nat} (h:Nms s e n m):e.names.Nodup:=by
  rw [h.nm]
  cases ht:e.two with
  | true =>
    rw [if_pos rfl]
    have:=h.ne ht
    simp
    omega
  | false =>
    rw [if_neg (by decide)]
    simp
theorem Nms.en {s:As} {e:Dd} {n m:Nat} (h:Nms s e n m):e.n=(n:Int):=by
  have:=h.nm
  cases e <;> simp [Dd.names,Dd.two,Dd.n] at this ⊢
  · exact this
  · exact this.1
  · exact this
  · exact this
theorem Nms.cells {cl:List Cell} {s:As} {e:Dd} {n m:Nat} {c c':Cell} (h:Nms s e n m) (h1:cl[n]?=some c) (h2:cl[m]?=some c'):CellsOf cl e c c':=by
  have hnm:=h.nm
  have heq:=h.eq
  cases e with
  | glue al a b =>
    simp [Dd.names,Dd.two] at hnm
    exact ⟨⟨n,hnm.1,h1⟩,m,hnm.2,h2⟩
  | cut al a t =>
    have:m=n:=heq rfl
    subst this
    refine ⟨⟨m,h.en,h1⟩,Option.some.inj (h2.symm.trans h1)⟩
  | shift al a t =>
    have:m=n:=heq rfl
    subst this
    refine ⟨⟨m,h.en,h1⟩,Option.some.inj (h2.symm.trans h1)⟩
  | turn a =>
    have:m=n:=heq rfl
    subst this
    refine ⟨⟨m,h.en,h1⟩,Option.some.inj (h2.symm.trans h1)⟩
theorem YdS.next {C:Addr} {H':Hp} {y:Yd} {d:Int} {tn:Bool} {s:As} {x:Dd × Nat × Nat} {cl N:List Cell} {lg:List V} (h2:cl.length=s.k) (h3:∀ n,n < s.k→∃ c,cl[n]?=some c∧c.b=s.g n)
    (hy:YdAt C H' y d tn (cl ++ N) (yx s.ns x.1.names ++ List.range' cl.length N.length) lg) (hN:N.map Cell.b=x.1.new (s.g x.2.1) (s.g x.2.2)):YdS C H' y d tn (s.next x) lg:=by
  have hl:N.length=(x.1.new (s.g x.2.1) (s.g x.2.2)).length:=by rw [← hN,List.length_map]
  rw [h2,hl] at hy
  refine ⟨cl ++ N,hy,by rw [List.length_append,h2,hl]; rfl,fun j hj=>?_⟩
  have hj:j < s.k + (x.1.new (s.g x.2.1) (s.g x.2.2)).length:=hj
  show ∃ c,(cl ++ N)[j]?=some c∧c.b=gN s.g s.k _ j
  by_cases hjl:j < s.k
  · obtain ⟨c,h4,h5⟩:=h3 j hjl
    exact ⟨c,by rw [List.getElem?_append_left (by omega)]; exact h4,by unfold gN; rw [if_pos (by omega)]; exact h5⟩
  · obtain ⟨t,rfl⟩:∃ t,j=s.k + t:=⟨j - s.k,by omega⟩
    have ht:t < N.length:=by omega
    refine ⟨N[t],by rw [List.getElem?_append_right (by omega),h2,Nat.add_sub_cancel_left]; exact List.getElem?_eq_getElem ht,?_⟩
    unfold gN
    rw [if_neg (by omega),Nat.add_sub_cancel_left,← hN,List.getElem?_map,List.getElem?_eq_getElem ht]
    rfl
abbrev DL:=List (Dd × Nat × Nat)
theorem Ff {s:As} {es:List (Dd × Nat × Nat)}:(ends s es).k ≤ s.k + 2 * es.length:=by
  induction es generalizing s with
  | nil=>exact Nat.le_refl _
  | cons x es ih =>
    have h1:(s.next x).k ≤ s.k + 2:=Nat.add_le_add_left (vT x.1 _ _) _
    have h2:=ih (s:=s.next x)
    show (ends (s.next x) es).k ≤ _
    rw [List.length_cons]
    omega
structure As.Ok (B:Nat) (s:As) (i:Nat):Prop where
  up:s.ns.Pairwise (· < ·)
  lt:∀ n ∈ s.ns,n < s.k
  ne:s.ns ≠ []
  nl:s.ns.length ≤ B + i
  kl:s.k ≤ B + 2 * i
theorem As.Ok.next {B:Nat} {s:As} {i:Nat} {x:Dd × Nat × Nat} (h:As.Ok B s i) (n:Nms s x.1 x.2.1 x.2.2):As.Ok B (s.next x) (i + 1):=by
  have l2:=vT x.1 (s.g x.2.1) (s.g x.2.2)
  have l1:=Gu x.1 (s.g x.2.1) (s.g x.2.2)
  have hk:=h.kl
  have hnl:=h.nl
  have dl:=Dh h.up n.hn (show (x.2.1:Int) ∈ x.1.names by rw [n.nm]; cases x.1.two <;> simp)
  generalize hN:x.1.new (s.g x.2.1) (s.g x.2.2)=N at l1 l2
  have e1:(s.next x).ns=yx s.ns x.1.names ++ List.range' s.k N.length:=by rw [← hN]; rfl
  have e2:(s.next x).k=s.k + N.length:=by rw [← hN]; rfl
  refine ⟨?_,?_,?_,?_,?_⟩
  · rw [e1]
    refine List.pairwise_append.mpr ⟨xH h.up,List.pairwise_lt_range' ..,fun n1 h1 n2 h2=>?_⟩
    have:=h.lt n1 (mem_ndrop.mp h1).1
    have:=List.mem_range'_1.mp h2
    omega
  · rw [e1,e2]
    intro j hj
    rcases List.mem_append.mp hj with hj | hj
    · have:=h.lt j (mem_ndrop.mp hj).1
      omega
    · have:=List.mem_range'_1.mp hj
      omega
  · rw [e1]
    intro hh
    have:=congrArg List.length hh
    rw [List.length_append,List.length_range',List.length_nil] at this
    omega
  · rw [e1,List.length_append,List.length_range']
    omega
  · rw [e2]
    omega
theorem Ly.sameX {H H':Hp} {a l:Addr} {ns:List Nat} {f:Nat→Cell} {xs:List V} (h:Ly H a ns f) (s:SameX l H H') (e:H l=some (.lst xs)):Ly H' a ns f:=⟨s _ _ h.l (yf h.l e (fun z=>nomatch z)),fun n hn=>(h.at' n hn).sameX s e⟩
theorem Runs.sameX {H H':Hp} {l:Addr} {ps:List Addr} {es:DL} {xs:List V} (h:Runs H ps es) (z:SameX l H H') (e:H l=some (.lst xs)):Runs H' ps es:=⟨h.1,fun i p x h1 h2=>(h.2 i p x h1 h2).sameX z e⟩
theorem Ar {s:As} {es:DL} {x:Dd × Nat × Nat}:ends s (es ++ [x])=(ends s es).next x:=by
  unfold ends
  rw [List.foldl_append]
  rfl
theorem uM {d:Int} {tn:Bool} {s:As} {es:DL} {x:Dd × Nat × Nat} (h:Walk d tn s es) (g:Stp d tn (ends s es) x):Walk d tn s (es ++ [x]):=fun i y hy=>by
  by_cases c:i < es.length
  · rw [List.getElem?_append_left c] at hy
    rw [List.take_append_of_le_length (by omega)]
    exact h i y hy
  · have hl:=(List.getElem?_eq_some_iff.mp hy).1
    rw [List.length_append] at hl
    have:i=es.length:=by simp only [List.length_cons,List.length_nil] at hl; omega
    subst this
    rw [List.getElem?_append_right (Nat.le_refl _),Nat.sub_self] at hy
    have:x=y:=Option.some.inj hy
    subst this
    rw [List.take_left]
    exact g
theorem uC {H:Hp} {ps:List Addr} {es:DL} {p:Addr} {x:Dd × Nat × Nat} (h:Runs H ps es) (g:DdAt H p x.1):Runs H (ps ++ [p]) (es ++ [x]):=⟨by rw [List.length_append,List.length_append,h.1]; rfl,fun i q y h1 h2=>by
  by_cases c:i < ps.length
  · rw [List.getElem?_append_left c] at h1
    rw [List.getElem?_append_left (by rw [← h.1]; exact c)] at h2
    exact h.2 i q y h1 h2
  · have hl:=(List.getElem?_eq_some_iff.mp h1).1
    rw [List.length_append] at hl
    have:i=ps.length:=by simp only [List.length_cons,List.length_nil] at hl; omega
    subst this
    rw [List.getElem?_append_right (Nat.le_refl _),Nat.sub_self] at h1
    rw [h.1,List.getElem?_append_right (Nat.le_refl _),Nat.sub_self] at h2
    have e1:p=q:=Option.some.inj h1
    have e2:x=y:=Option.some.inj h2
    subst e1
    subst e2
    exact g⟩
theorem Ax {d D:Int} {M:Nat} {s:As} {f:Nat→Cell} {e:Dd} {n m:Nat} (h:e.Good d D M s.ns f n m):Nms s e n m:=⟨h.nm,h.hn,h.hm,h.ne,h.eq⟩
theorem Fb {s:As} {f:Nat→Cell} {N:List Cell} {x:Dd × Nat × Nat} (hb:∀ n ∈ s.ns,(f n).b=s.g n) (lt:∀ n ∈ s.ns,n < s.k) (hN:N.map Cell.b=x.1.new (s.g x.2.1) (s.g x.2.2)):∀ j ∈ (s.next x).ns,(fN f s.k N j).b=(s.next x).g j:=fun j hj=>by
  have hl:N.length=(x.1.new (s.g x.2.1) (s.g x.2.2)).length:=by rw [← hN,List.length_map]
  show _=gN s.g s.k _ j
  rcases List.mem_append.mp hj with hj | hj
  · have hj:=(mem_ndrop.mp hj).1
    have hjl:=lt j hj
    rw [ED hjl]
    unfold gN
    rw [if_pos hjl]
    exact hb j hj
  · have hj:=List.mem_range'_1.mp hj
    obtain ⟨t,rfl⟩:∃ t,j=s.k + t:=⟨j - s.k,by omega⟩
    have ht:t < N.length:=by omega
    rw [D7,wm (List.getElem?_eq_getElem ht)]
    unfold gN
    rw [if_neg (by omega),Nat.add_sub_cancel_left,← hN,List.getElem?_map,List.getElem?_eq_getElem ht]
    rfl
structure Rv (D X Y:Int) (s:Sd):Prop where
  z1:1 ≤ s.z
  g:g3 s.x s.y s.z=1
  x:s.x * D=X * s.z
  y:s.y * D=Y * s.z
theorem So.rv {d D:Int} {M:Nat} {s:Sd} (h:So d D M s):∃ X Y,Rv D X Y s:=by
  obtain ⟨X,Y,_,_,hx,hy⟩:=h.r
  exact ⟨X,Y,h.z1,h.g,hx,hy⟩
theorem Rv.eq {D X Y:Int} {s t:Sd} (hD:D ≠ 0) (h:Rv D X Y s) (h':Rv D X Y t):s=t:=by
  obtain ⟨a1,a2,a3⟩:=yR h.z1 h.g hD h.x h.y
  obtain ⟨b1,b2,b3⟩:=yR h'.z1 h'.g hD h'.x h'.y
  cases s
  cases t
  simp only at a1 a2 a3 b1 b2 b3
  rw [a1,a2,a3,b1,b2,b3]
theorem Rv.tk {D X Y X' Y':Int} {s t:Sd} (h:Rv D X Y s) (h':Rv D X' Y' t):Rv D (X - X') (Y - Y') (tkS s t):=by
  have hn:s.z * t.z ≠ 0:=Int.mul_ne_zero (by have:=h.z1; omega) (by have:=h'.z1; omega)
  have h1:=h.x
  have h2:=h.y
  have h3:=h'.x
  have h4:=h'.y
  obtain ⟨r1,r2⟩:=wj (a:=s.x * t.z + -t.x * s.z) (b:=s.y * t.z + -t.y * s.z) (n:=s.z * t.z) (D:=D) (X:=X - X') (Y:=Y - Y') hn (by grind) (by grind)
  exact ⟨l_n hn,uF hn,r1,r2⟩
theorem Rv.ad {D X Y X' Y':Int} {s t:Sd} (h:Rv D X Y s) (h':Rv D X' Y' t):Rv D (X + X') (Y + Y') (adS s t):=by
  have hn:s.z * t.z ≠ 0:=Int.mul_ne_zero (by have:=h.z1; omega) (by have:=h'.z1; omega)
  have h1:=h.x
  have h2:=h.y
  have h3:=h'.x
  have h4:=h'.y
  obtain ⟨r1,r2⟩:=wj (a:=s.x * t.z + t.x * s.z) (b:=s.y * t.z + t.y * s.z) (n:=s.z * t.z) (D:=D) (X:=X + X') (Y:=Y + Y') hn (by grind) (by grind)
  exact ⟨l_n hn,uF hn,r1,r2⟩
theorem Rv.sh {D X Y m k:Int} {s:Sd} (h:Rv D X Y s) (k1:1 ≤ k):Rv (D * k) (X * m) (Y * m) (shS s m k):=by
  have hn:s.z * k ≠ 0:=Int.mul_ne_zero (by have:=h.z1; omega) (by omega)
  have h1:=h.x
  have h2:=h.y
  obtain ⟨r1,r2⟩:=wj (a:=s.x * m) (b:=s.y * m) (n:=s.z * k) (D:=D * k) (X:=X * m) (Y:=Y * m) hn (by grind) (by grind)
  exact ⟨l_n hn,uF hn,r1,r2⟩
theorem Rv.sc {D X Y k:Int} {s:Sd} (h:Rv D X Y s):Rv (D * k) (X * k) (Y * k) s :=
  ⟨h.z1,h.g,by rw [← Int.mul_assoc,h.x]; grind,by rw [← Int.mul_assoc,h.y]; grind⟩
theorem F2 {d D:Int} {M M':Nat} {w s:Sd} (hD:1 ≤ D) (h:So d D M w) (h':So d D M' s):adS s (tkS w s)=w:=by
  obtain ⟨X,Y,r⟩:=h.rv
  obtain ⟨X',Y',r'⟩:=h'.rv
  have:=r'.ad (r.tk r')
  rw [show X' + (X - X')=X by omega,show Y' + (Y - Y')=Y by omega] at this
  exact this.eq (by omega) r
theorem FY {d D:Int} {M M':Nat} {w s:Sd} (hD:1 ≤ D) (h:So d D M w) (h':So d D M' s):tkS (adS w s) w=s:=by
  obtain ⟨X,Y,r⟩:=h.rv
  obtain ⟨X',Y',r'⟩:=h'.rv
  have:=(r.ad r').tk r
  rw [show X + X' - X=X' by omega,show Y + Y' - Y=Y' by omega] at this
  exact this.eq (by omega) r'
theorem Dr {d D k:Int} {M:Nat} {w:Sd} (hD:1 ≤ D) (h:So d D M w) (k1:1 ≤ k):shS (shS w 1 k) k 1=w∧shS (shS w k 1) 1 k=w:=by
  obtain ⟨X,Y,r⟩:=h.rv
  have hk:D * k ≠ 0:=Int.mul_ne_zero (by omega) (by omega)
  have r1:Rv (D * k * 1) (X * 1 * k) (Y * 1 * k) (shS (shS w 1 k) k 1):=(r.sh (m:=1) k1).sh (m:=k) (by omega)
  have r2:Rv (D * 1 * k) (X * k * 1) (Y * k * 1) (shS (shS w k 1) 1 k):=(r.sh (m:=k) (k:=1) (by omega)).sh (m:=1) k1
  simp only [Int.mul_one] at r1 r2
  exact ⟨r1.eq hk r.sc,r2.eq hk r.sc⟩
def Dd.und (m m':Int) (b:Bo):Dd→Dd
  | .cut al _ _=>.glue al m m'
  | .glue al _ _=>.cut al m (if al then b.h else b.w)
  | .shift al _ k=>.shift (!al) m k
  | .turn _=>.turn m
def Dd.puts:Dd→Nat
  | .cut _ _ _=>2
  | _=>1
theorem Dd.puts_new (e:Dd) (b c:Bo):(e.new b c).length=e.puts:=by
  cases e with
  | cut al n s=>cases al <;> rfl
  | glue al n m=>cases al <;> rfl
  | shift al n k=>cases al <;> rfl
  | turn n=>rfl
def undo (s:As) (x:Dd × Nat × Nat) (r:Nat→Nat):Dd × Nat × Nat:=(x.1.und (r s.k:Nat) (r (s.k + 1):Nat) (s.g x.2.1),r s.k,if x.1.puts=2 then r (s.k + 1) else r s.k)
def ren (r:Nat→Nat) (x:Dd × Nat × Nat) (u j:Nat):Nat:=if x.1.two=true∧j=x.2.2 then u + 1 else if j=x.2.1 then u else r j
structure Sim (r:Nat→Nat) (s t:As):Prop where
  mp:∀ n ∈ s.ns,r n ∈ t.ns
  on:∀ m ∈ t.ns,∃ n ∈ s.ns,r n=m
  inj:∀ n ∈ s.ns,∀ m ∈ s.ns,r n=r m→n=m
  g:∀ n ∈ s.ns,t.g (r n)=s.g n
theorem tD (m m':Int) (b:Bo) (e:Dd):(e.und m m' b).two=decide (e.puts=2):=by cases e <;> rfl
theorem ES (m m':Int) (b:Bo) (e:Dd):(e.und m m' b).isT=e.isT:=by cases e <;> rfl
theorem t7 (m m':Int) (b:Bo) (e:Dd):(e.und m m' b).puts=if e.two then 2 else 1:=by cases e <;> rfl
theorem uP (m m':Int) (b:Bo) (e:Dd):(e.und m m' b).names=if e.puts=2 then [m,m'] else [m]:=by cases e <;> rfl
theorem puts_le (e:Dd):e.puts=1 ∨ e.puts=2:=by cases e <;> simp [Dd.puts]
theorem vy (s:As) (x:Dd × Nat × Nat):(s.next x).k=s.k + x.1.puts:=by
  show s.k + _=_
  rw [Dd.puts_new]
theorem mem_next {s:As} {x:Dd × Nat × Nat} {j:Nat}:j ∈ (s.next x).ns ↔ (j ∈ s.ns∧(j:Int) ∉ x.1.names) ∨ (s.k ≤ j∧j < s.k + x.1.puts):=by
  show j ∈ yx s.ns x.1.names ++ List.range' s.k _ ↔ _
  rw [Dd.puts_new,List.mem_append,mem_ndrop,List.mem_range'_1]
theorem CL {g:Nat→Bo} {k j:Nat} {N:List Bo} (h:j < k):gN g k N j=g j:=by unfold gN; rw [if_pos h]
theorem yS {g:Nat→Bo} {k j:Nat} {N:List Bo} {b:Bo} (h:N[j]?=some b):gN g k N (k + j)=b:=by
  unfold gN
  rw [if_neg (by omega),Nat.add_sub_cancel_left,h]
  rfl
theorem uB {s:As} {e:Dd} {n m j:Nat} (h:Nms s e n m):(j:Int) ∈ e.names ↔ j=n ∨ (e.two=true∧j=m):=by
  rw [h.nm]
  cases e.two with
  | true=>simp; omega
  | false=>simp; omega
theorem Al {d D:Int} {M:Nat} {s t:As} {x:Dd × Nat × Nat} {r:Nat→Nat} {tn:Bool} (hD:1 ≤ D) (st:Stp d tn s x) (so:∀ n ∈ s.ns,BoD d D M (s.g n)) (sn:∀ b ∈ x.1.new (s.g x.2.1) (s.g x.2.2),BoD d D M b)
    (sim:Sim r (s.next x) t):(undo s x r).1.new (t.g (undo s x r).2.1) (t.g (undo s x r).2.2)=if x.1.two then [s.g x.2.1,s.g x.2.2] else [s.g x.2.1]:=by
  have hk:∀ j,j < x.1.puts→t.g (r (s.k + j))=gN s.g s.k (x.1.new (s.g x.2.1) (s.g x.2.2)) (s.k + j):=fun j hj=>sim.g _ (mem_next.mpr (.inr ⟨by omega,by omega⟩))
  have o1:=so _ st.nms.hn
  have o2:=so _ st.nms.hm
  have ft:=st.fit
  obtain ⟨e,n,m⟩:=x
  dsimp only [undo] at hk o1 o2 ft sn ⊢
  generalize s.g n=b at *
  generalize s.g m=c at *
  obtain ⟨bw,bh⟩:=b
  obtain ⟨cw,ch⟩:=c
  have h0:=hk 0 (by rcases puts_le e with h | h <;> omega)
  rw [Nat.add_zero] at h0
  rw [h0]
  cases e with
  | cut al n s' =>
    have h1:=hk 1 (by show 1 < 2; decide)
    rw [if_pos (show (Dd.cut al n s').puts=2 from rfl),h1]
    cases al with
    | false =>
      rw [yS (j:=1) rfl]
      rw [show gN s.g s.k (Dd.new ⟨bw,bh⟩ ⟨cw,ch⟩ (.cut false n s')) s.k=⟨s',bh⟩ from yS (j:=0) rfl]
      show [(⟨adS s' (tkS bw s'),bh⟩:Bo)]=[⟨bw,bh⟩]
      rw [F2 hD o1.1 (sn ⟨s',bh⟩ (by simp [Dd.new])).1]
    | true =>
      rw [yS (j:=1) rfl]
      rw [show gN s.g s.k (Dd.new ⟨bw,bh⟩ ⟨cw,ch⟩ (.cut true n s')) s.k=⟨bw,s'⟩ from yS (j:=0) rfl]
      show [(⟨bw,adS s' (tkS bh s')⟩:Bo)]=[⟨bw,bh⟩]
      rw [F2 hD o1.2 (sn ⟨bw,s'⟩ (by simp [Dd.new])).2]
  | glue al n' m' =>
    cases al with
    | false =>
      rw [show gN s.g s.k (Dd.new ⟨bw,bh⟩ ⟨cw,ch⟩ (.glue false n' m')) s.k=⟨adS bw cw,bh⟩ from yS (j:=0) rfl]
      have e:bh=ch:=ft.1
      show [(⟨bw,bh⟩:Bo),⟨tkS (adS bw cw) bw,bh⟩]=[⟨bw,bh⟩,⟨cw,ch⟩]
      rw [FY hD o1.1 o2.1,e]
    | true =>
      rw [show gN s.g s.k (Dd.new ⟨bw,bh⟩ ⟨cw,ch⟩ (.glue true n' m')) s.k=⟨bw,adS bh ch⟩ from yS (j:=0) rfl]
      have e:bw=cw:=ft.1
      show [(⟨bw,bh⟩:Bo),⟨bw,tkS (adS bh ch) bh⟩]=[⟨bw,bh⟩,⟨cw,ch⟩]
      rw [FY hD o1.2 o2.2,e]
  | shift al n' k =>
    have k1:1 ≤ k:=ft.1
    cases al with
    | false =>
      rw [show gN s.g s.k (Dd.new ⟨bw,bh⟩ ⟨cw,ch⟩ (.shift false n' k)) s.k=⟨shS bw 1 k,shS bh k 1⟩ from yS (j:=0) rfl]
      show [(⟨shS (shS bw 1 k) k 1,shS (shS bh k 1) 1 k⟩:Bo)]=[⟨bw,bh⟩]
      rw [(Dr hD o1.1 k1).1,(Dr hD o1.2 k1).2]
    | true =>
      rw [show gN s.g s.k (Dd.new ⟨bw,bh⟩ ⟨cw,ch⟩ (.shift true n' k)) s.k=⟨shS bw k 1,shS bh 1 k⟩ from yS (j:=0) rfl]
      show [(⟨shS (shS bw k 1) 1 k,shS (shS bh 1 k) k 1⟩:Bo)]=[⟨bw,bh⟩]
      rw [(Dr hD o1.1 k1).2,(Dr hD o1.2 k1).1]
  | turn n' =>
    rw [show gN s.g s.k (Dd.new ⟨bw,bh⟩ ⟨cw,ch⟩ (.turn n')) s.k=⟨bh,bw⟩ from yS (j:=0) rfl]
    rfl
theorem B7 {d D:Int} {M K':Nat} {w s:Sd} (hR:Rt d) (z:Sz D K' M) (hw:So d D M w) (hs:So d D M s) (ht:So d D M (tkS w s)):C7 d w s:=by
  have hn1:1 ≤ w.z * s.z:=Int.mul_pos (by have:=hw.z1; omega) (by have:=hs.z1; omega)
  refine ⟨z.sy hw,z.sy hs,by rw [hs.up]; decide,?_⟩
  have e:sgn d (tkS w s).x (tkS w s).y=sgn d (w.x * s.z - s.x * w.z) (w.y * s.z - s.y * w.z):=by
    refine (z7 hR hn1).trans ?_
    rw [show w.x * s.z + -s.x * w.z=w.x * s.z - s.x * w.z by grind,show w.y * s.z + -s.y * w.z=w.y * s.z - s.y * w.z by grind]
  rw [← e,ht.up]
  decide
theorem Bp {d D:Int} {M K':Nat} {s t:As} {x:Dd × Nat × Nat} {r:Nat→Nat} {tn:Bool} {f:Nat→Cell} (hR:Rt d) (z:Sz D K' M) (st:Stp d tn s x) (so:∀ n ∈ s.ns,BoD d D M (s.g n)) (sn:∀ b ∈ x.1.new (s.g x.2.1) (s.g x.2.2),BoD d D M b)
    (sim:Sim r (s.next x) t) (hf:∀ n ∈ t.ns,(f n).b=t.g n):(undo s x r).1.Good d D M t.ns f (undo s x r).2.1 (undo s x r).2.2:=by
  have hD:=z.d1
  have nw:=Al hD st so sn sim
  have p1:=puts_le x.1
  have i0:s.k ∈ (s.next x).ns:=mem_next.mpr (.inr ⟨Nat.le_refl _,by omega⟩)
  have m0:r s.k ∈ t.ns:=sim.mp _ i0
  have f0:(f (undo s x r).2.1).b=t.g (undo s x r).2.1:=hf _ m0
  have m1:(undo s x r).2.2 ∈ t.ns:=by
    show (if x.1.puts=2 then r (s.k + 1) else r s.k) ∈ t.ns
    split
    · exact sim.mp _ (mem_next.mpr (.inr ⟨by omega,by omega⟩))
    · exact m0
  have hb:∀ b ∈ (undo s x r).1.new (f (undo s x r).2.1).b (f (undo s x r).2.2).b,BoD d D M b:=by
    rw [f0,hf _ m1,nw]
    intro b hb
    split at hb
    · rcases List.mem_cons.mp hb with rfl | hb
      · exact so _ st.nms.hn
      · rw [List.mem_singleton.mp hb]; exact so _ st.nms.hm
    · rw [List.mem_singleton.mp hb]; exact so _ st.nms.hn
  have tso:∀ j,j < x.1.puts→BoD d D M (t.g (r (s.k + j))):=fun j hj=>by
    rw [sim.g _ (mem_next.mpr (.inr ⟨by omega,by omega⟩))]
    have hl:=Dd.puts_new x.1 (s.g x.2.1) (s.g x.2.2)
    have hj':j < (x.1.new (s.g x.2.1) (s.g x.2.2)).length:=by omega
    show BoD d D M (gN s.g s.k _ (s.k + j))
    rw [yS (List.getElem?_eq_getElem hj')]
    exact sn _ (List.getElem_mem hj')
  have t0:=tso 0 (by omega)
  rw [Nat.add_zero] at t0
  have ftx:=st.fit
  have okx:=st.ok
  have hnn:=st.nms.hn
  refine ⟨?_,m0,m1,?_,?_,?_,?_,1,by decide,by decide,fun b hb'=>?_⟩
  · show (x.1.und _ _ _).names=_
    rw [uP]
    show _=if (x.1.und _ _ _).two then _ else _
    rw [tD]
    rcases p1 with h | h
    · rw [if_neg (by omega),if_neg (by simp [h])]
      rfl
    · rw [if_pos h,if_pos (by simp [h])]
      show _=[_,((if x.1.puts=2 then r (s.k + 1) else r s.k:Nat):Int)]
      rw [if_pos h]
      rfl
  · intro h2
    have h2:(x.1.und _ _ _).two=true:=h2
    rw [tD] at h2
    have h2:x.1.puts=2:=by simpa using h2
    show r s.k ≠ if x.1.puts=2 then r (s.k + 1) else r s.k
    rw [if_pos h2]
    intro c
    have:=sim.inj _ i0 _ (mem_next.mpr (.inr ⟨by omega,by omega⟩)) c
    omega
  · intro h2
    have h2:(x.1.und _ _ _).two=false:=h2
    rw [tD] at h2
    have h2:¬ x.1.puts=2:=by simpa using h2
    show (if x.1.puts=2 then r (s.k + 1) else r s.k)=r s.k
    rw [if_neg h2]
  · show (x.1.und _ _ _).Ok
    have o:=so _ hnn
    revert okx
    cases x.1 with
    | cut al n s'=>exact fun _=>trivial
    | glue al n m =>
      intro _
      cases al with
      | false=>exact z.sy o.1
      | true=>exact z.sy o.2
    | shift al n k=>exact id
    | turn n=>exact fun _=>trivial
  · rw [f0,hf _ m1]
    rw [f0,hf _ m1] at hb
    have o:=so _ hnn
    have o':=so _ st.nms.hm
    have g0:t.g (r s.k)=gN s.g s.k (x.1.new (s.g x.2.1) (s.g x.2.2)) s.k:=sim.g _ i0
    have g1:x.1.puts=2→t.g (r (s.k + 1))=gN s.g s.k (x.1.new (s.g x.2.1) (s.g x.2.2)) (s.k + 1):=fun h=>sim.g _ (mem_next.mpr (.inr ⟨by omega,by omega⟩))
    clear m1 m0 i0 nw f0 hf sim
    obtain ⟨e,n,m⟩:=x
    dsimp only [undo] at *
    generalize t.g (r s.k)=B at *
    cases e with
    | cut al n' s' =>
      have g1:=g1 rfl
      have t1:=tso 1 (by show 1 < 2; decide)
      rw [if_pos (show (Dd.cut al n' s').puts=2 from rfl)] at hb ⊢
      generalize t.g (r (s.k + 1))=C at *
      cases al with
      | false =>
        have q0:B=⟨s',(s.g n).h⟩:=g0.trans (yS (j:=0) rfl)
        have q1:C=⟨tkS (s.g n).w s',(s.g n).h⟩:=g1.trans (yS (j:=1) rfl)
        subst q0
        subst q1
        exact ⟨rfl,z.sy t0.1,z.sy t1.1⟩
      | true =>
        have q0:B=⟨(s.g n).w,s'⟩:=g0.trans (yS (j:=0) rfl)
        have q1:C=⟨(s.g n).w,tkS (s.g n).h s'⟩:=g1.trans (yS (j:=1) rfl)
        subst q0
        subst q1
        exact ⟨rfl,z.sy t0.2,z.sy t1.2⟩
    | glue al n' m' =>
      cases al with
      | false =>
        have hb1:=hb _ (List.mem_cons_of_mem _ List.mem_cons_self)
        exact B7 hR z t0.1 o.1 hb1.1
      | true =>
        have hb1:=hb _ (List.mem_cons_of_mem _ List.mem_cons_self)
        exact B7 hR z t0.2 o.2 hb1.2
    | shift al n' k =>
      cases al with
      | false=>exact ⟨ftx.1,ftx.2.1,z.sy t0.1,z.sy t0.2⟩
      | true=>exact ⟨ftx.1,ftx.2.1,z.sy t0.1,z.sy t0.2⟩
    | turn n'=>exact trivial
  · rw [Int.mul_one]
    exact (hb b hb').mono (by omega)
theorem Dj {d D:Int} {M K':Nat} {s t:As} {x:Dd × Nat × Nat} {r:Nat→Nat} {tn:Bool} (hR:Rt d) (z:Sz D K' M) (st:Stp d tn s x) (so:∀ n ∈ s.ns,BoD d D M (s.g n)) (sn:∀ b ∈ x.1.new (s.g x.2.1) (s.g x.2.2),BoD d D M b)
    (sim:Sim r (s.next x) t):Stp d tn t (undo s x r):=by
  have gd:=Bp (f:=fun n=>⟨0,0,0,t.g n⟩) hR z st so sn sim (fun n _=>rfl)
  exact ⟨⟨gd.nm,gd.hn,gd.hm,gd.ne,gd.eq⟩,gd.ok,gd.fit,fun h=>st.tn (by rw [← h]; exact (ES _ _ _ _).symm)⟩
theorem Dp {d D:Int} {M:Nat} {s t:As} {x:Dd × Nat × Nat} {r:Nat→Nat} {tn:Bool} (hD:1 ≤ D) (st:Stp d tn s x) (so:∀ n ∈ s.ns,BoD d D M (s.g n)) (sn:∀ b ∈ x.1.new (s.g x.2.1) (s.g x.2.2),BoD d D M b)
    (sim:Sim r (s.next x) t) (lt:∀ n ∈ s.ns,n < s.k) (tl:∀ m ∈ t.ns,m < t.k):Sim (ren r x t.k) s (t.next (undo s x r)):=by
  have nw:=Al hD st so sn sim
  have p1:=puts_le x.1
  have nx:∀ j:Nat,(j:Int) ∈ x.1.names ↔ j=x.2.1 ∨ (x.1.two=true∧j=x.2.2):=fun j=>uB st.nms
  have ne:=st.nms.ne
  have pu:(undo s x r).1.puts=if x.1.two then 2 else 1:=t7 _ _ _ _
  have un:∀ j:Nat,(j:Int) ∈ (undo s x r).1.names ↔ ∃ i,s.k ≤ i∧i < s.k + x.1.puts∧r i=j:=fun j=>by
    show (j:Int) ∈ (x.1.und _ _ _).names ↔ _
    rw [uP]
    rcases p1 with h | h
    · rw [if_neg (by omega),List.mem_singleton,h]
      constructor
      · intro q
        exact ⟨s.k,Nat.le_refl _,by omega,by omega⟩
      · rintro ⟨i,h1,h2,rfl⟩
        rw [show i=s.k by omega]
    · rw [if_pos h,List.mem_cons,List.mem_singleton,h]
      constructor
      · rintro (q | q)
        · exact ⟨s.k,Nat.le_refl _,by omega,by omega⟩
        · exact ⟨s.k + 1,by omega,by omega,by omega⟩
      · rintro ⟨i,h1,h2,rfl⟩
        have:i=s.k ∨ i=s.k + 1:=by omega
        rcases this with rfl | rfl
        · exact .inl rfl
        · exact .inr rfl
  have cs:∀ n ∈ s.ns,(x.1.two=true∧n=x.2.2∧ren r x t.k n=t.k + 1) ∨ (n=x.2.1∧ren r x t.k n=t.k) ∨ (n ∈ (s.next x).ns∧ren r x t.k n=r n∧n < s.k∧r n < t.k):=fun n hn=>by
    unfold ren
    by_cases c1:x.1.two=true∧n=x.2.2
    · exact .inl ⟨c1.1,c1.2,if_pos c1⟩
    · rw [if_neg c1]
      by_cases c2:n=x.2.1
      · exact .inr (.inl ⟨c2,if_pos c2⟩)
      · have hm:n ∈ (s.next x).ns:=mem_next.mpr (.inl ⟨hn,fun h=>by
          rcases (nx n).mp h with h | h
          · exact c2 h
          · exact c1 h⟩)
        exact .inr (.inr ⟨hm,if_neg c2,lt n hn,tl _ (sim.mp n hm)⟩)
  have tm:∀ j,j ∈ (t.next (undo s x r)).ns ↔ (j ∈ t.ns∧¬ ∃ i,s.k ≤ i∧i < s.k + x.1.puts∧r i=j) ∨ (t.k ≤ j∧j < t.k + if x.1.two then 2 else 1):=fun j=>by rw [mem_next,un,pu]
  have tg:∀ j,(t.next (undo s x r)).g j=gN t.g t.k (if x.1.two then [s.g x.2.1,s.g x.2.2] else [s.g x.2.1]) j:=fun j=>by rw [← nw]; rfl
  refine ⟨fun n hn=>?_,fun m hm=>?_,fun n hn m hm e=>?_,fun n hn=>?_⟩
  · rw [tm]
    rcases cs n hn with ⟨h1,h2,h3⟩ | ⟨h1,h2⟩ | ⟨h1,h2,h3,h4⟩
    · rw [h3,if_pos h1]; exact .inr (by omega)
    · rw [h2]
      refine .inr ⟨Nat.le_refl _,?_⟩
      split <;> omega
    · rw [h2]
      refine .inl ⟨sim.mp n h1,?_⟩
      rintro ⟨i,i1,i2,i3⟩
      have:=sim.inj _ (mem_next.mpr (.inr ⟨i1,i2⟩)) _ h1 i3
      omega
  · rw [tm] at hm
    rcases hm with ⟨h1,h2⟩ | ⟨h1,h2⟩
    · obtain ⟨n,hn,e⟩:=sim.on m h1
      rcases mem_next.mp hn with ⟨h3,h4⟩ | ⟨h3,h4⟩
      · refine ⟨n,h3,?_⟩
        unfold ren
        rw [if_neg (fun c=>h4 ((nx n).mpr (.inr c))),if_neg (fun c=>h4 ((nx n).mpr (.inl c)))]
        exact e
      · exact absurd ⟨n,h3,h4,e⟩ h2
    · by_cases c:m=t.k
      · refine ⟨x.2.1,st.nms.hn,?_⟩
        unfold ren
        rw [if_neg (fun q=>ne q.1 q.2),if_pos rfl,c]
      · have ht:x.1.two=true:=by
          cases h:x.1.two with
          | true=>rfl
          | false=>rw [h,if_neg (by decide)] at h2; omega
        rw [if_pos ht] at h2
        refine ⟨x.2.2,st.nms.hm,?_⟩
        unfold ren
        rw [if_pos ⟨ht,rfl⟩]
        omega
  · rcases cs n hn with ⟨h1,h2,h3⟩ | ⟨h1,h2⟩ | ⟨h1,h2,h3,h4⟩ <;> rcases cs m hm with ⟨k1,k2,k3⟩ | ⟨k1,k2⟩ | ⟨k1,k2,k3,k4⟩ <;> first | omega | exact sim.inj n h1 m k1 (by omega)
  · rw [tg]
    rcases cs n hn with ⟨h1,h2,h3⟩ | ⟨h1,h2⟩ | ⟨h1,h2,h3,h4⟩
    · rw [h3,if_pos h1,yS (j:=1) rfl,h2]
    · rw [h2,h1]
      split
      · exact yS (j:=0) rfl
      · exact yS (j:=0) rfl
    · rw [h2,CL h4,sim.g n h1]
      exact CL h3
theorem wE {ns:List Nat} (h:ns.Pairwise (· < ·)):ns.Nodup:=h.imp fun hab=>Nat.ne_of_lt hab
theorem AA {r:Nat→Nat} {s t:As} (h:Sim r s t) (us:s.ns.Nodup) (ut:t.ns.Nodup):(s.ns.map r).Perm t.ns:=by
  have hn:(s.ns.map r).Nodup:=List.pairwise_map.mpr (List.Pairwise.imp_of_mem (fun {a b} ha hb hab e=>hab (h.inj a ha b hb e)) us)
  refine (List.perm_ext_iff_of_nodup hn ut).mpr fun m=>⟨fun hm=>?_,fun hm=>?_⟩
  · obtain ⟨n,h1,rfl⟩:=List.mem_map.mp hm
    exact h.mp n h1
  · obtain ⟨n,h1,e⟩:=h.on m hm
    exact List.mem_map.mpr ⟨n,h1,e⟩
def rk (ts:List Nat) (m:Nat):Nat:=ts.idxOf m
theorem uo {ts:List Nat} {m:Nat} (h:m ∈ ts):ts[rk ts m]?=some m:=by
  have hl:=List.idxOf_lt_length_of_mem h
  unfold rk
  rw [List.getElem?_eq_getElem hl,List.getElem_idxOf hl]
theorem CF {ts:List Nat} (hn:ts.Nodup) {i m:Nat} (h:ts[i]?=some m):rk ts m=i:=by
  have hm:=List.mem_of_getElem? h
  have hl:=List.idxOf_lt_length_of_mem hm
  have h1:=uo hm
  exact ((List.getElem?_inj hl hn).mp (h1.trans h.symm))
theorem CU {ts:List Nat} (hn:ts.Nodup):ts.map (rk ts)=List.range ts.length:=by
  refine List.ext_getElem? fun j=>?_
  rw [List.getElem?_map]
  by_cases hj:j < ts.length
  · rw [List.getElem?_range hj,List.getElem?_eq_getElem hj]
    exact congrArg some (CF hn (List.getElem?_eq_getElem hj))
  · rw [List.getElem?_eq_none (by omega),List.getElem?_eq_none (by rw [List.length_range]; omega)]
    rfl
theorem Ex {ms ts:List Nat} (hp:ms.Perm ts) (hn:ts.Nodup):(ms.map (rk ts)).Perm (List.range ts.length):=by
  have:=hp.map (rk ts)
  rwa [CU hn] at this
theorem uf {ms ts:List Nat} (hp:ms.Perm ts):(ts.map fun n:Nat=>(n:Int)).Perm (ms.map fun n:Nat=>(n:Int)):=(hp.map _).symm
theorem Cc {ts:List Nat} (h:ts.Pairwise (· < ·)):(ts.map fun n:Nat=>(n:Int)).Pairwise (· ≤ ·):=List.pairwise_map.mpr (h.imp fun {a b} hab=>Int.ofNat_le.mpr (Nat.le_of_lt hab))
theorem uj {s:As} {es:DL}:(ends s es).k=s.k + (es.map fun x=>x.1.puts).sum:=by
  induction es generalizing s with
  | nil=>rfl
  | cons x es ih =>
    show (ends (s.next x) es).k=_
    rw [ih,vy,List.map_cons,List.sum_cons]
    omega
def Rn (kvs:List (Key × V)) (ns:List Nat) (r:Nat→Nat):Prop:=∀ n ∈ ns,valV kvs (.inl (n:Int))=some (.int (r n:Nat))
theorem Aj {j n:Nat} (c:j ≠ n):¬ ((.inl (j:Int):Key)=.inl (n:Int)):=fun h=>c (Int.ofNat.inj (Sum.inl.inj h))
def As.sb (bs:List Bo):As:=⟨bs.length,List.range bs.length,fun n=>bs[n]?.getD ⟨⟨0,0,1⟩,⟨0,0,1⟩⟩⟩
theorem AK (L:List Cell):As.st L=As.sb (L.map Cell.b):=by
  unfold As.st As.sb
  rw [List.length_map]
  congr 1
  funext n
  rw [List.getElem?_map]
  unfold fL
  cases L[n]? <;> rfl
theorem DA {s:As} {es:DL} {n:Nat} (h:n < s.k):(ends s es).g n=s.g n:=by
  induction es generalizing s with
  | nil=>rfl
  | cons x es ih =>
    show (ends (s.next x) es).g n=_
    rw [ih (by rw [vy]; omega)]
    exact CL h
theorem wJ {s:As} {es:DL} {i:Nat}:ends s es=ends (ends s (es.take i)) (es.drop i):=by
  conv=>lhs; rw [← List.take_append_drop i es]
  unfold ends
  rw [List.foldl_append]
theorem uI {s:As} {es:DL} {i:Nat}:(ends s (es.take i)).k ≤ (ends s es).k:=by
  rw [wJ (es:=es) (i:=i),uj (s:=ends s (es.take i))]
  omega
theorem sim0 {s:As} (hn:s.ns.Nodup):Sim (rk s.ns) s (As.sb (s.ns.map s.g)):=by
  have hl:∀ n ∈ s.ns,rk s.ns n < s.ns.length:=fun n h=>List.idxOf_lt_length_of_mem h
  refine ⟨fun n h=>?_,fun m h=>?_,fun n h m k e=>?_,fun n h=>?_⟩
  · show _ ∈ List.range (s.ns.map s.g).length
    rw [List.length_map]
    exact List.mem_range.mpr (hl n h)
  · have h:m ∈ List.range (s.ns.map s.g).length:=h
    rw [List.length_map] at h
    have h:=List.mem_range.mp h
    exact ⟨s.ns[m],List.getElem_mem h,CF hn (List.getElem?_eq_getElem h)⟩
  · have h1:=uo h
    have h2:=uo k
    rw [e,h2] at h1
    exact (Option.some.inj h1).symm
  · show ((s.ns.map s.g)[rk s.ns n]?).getD _=_
    rw [List.getElem?_map,uo h]
    rfl
structure Turned (d:Int) (tn:Bool) (D:Int) (M:Nat) (bs0 bs:List Bo) (es:DL) (qs:List Nat):Prop where
  w:Walk d tn (As.sb bs) es
  b:∀ i,i ≤ es.length→∀ n ∈ (ends (As.sb bs) (es.take i)).ns,BoD d D M ((ends (As.sb bs) (es.take i)).g n)
  p:qs.Perm (List.range bs0.length)
  l:(ends (As.sb bs) es).ns.length=bs0.length
  g:∀ k q:Nat,qs[k]?=some q→∃ n,(ends (As.sb bs) es).ns[q]?=some n∧bs0[k]?=some ((ends (As.sb bs) es).g n)
theorem Cn {d D:Int} {tn:Bool} {M:Nat} {bs0 bs:List Bo} {es:DL} {r:Nat→Nat} (w:Walk d tn (As.sb bs) es) (b:∀ i,i ≤ es.length→∀ n ∈ (ends (As.sb bs) (es.take i)).ns,BoD d D M ((ends (As.sb bs) (es.take i)).g n))
    (sim:Sim r (As.sb bs0) (ends (As.sb bs) es)) (ut:(ends (As.sb bs) es).ns.Nodup):Turned d tn D M bs0 bs es (((List.range bs0.length).map r).map (rk (ends (As.sb bs) es).ns)):=by
  have hp:((List.range bs0.length).map r).Perm (ends (As.sb bs) es).ns:=AA sim (List.nodup_range (n:=bs0.length)) ut
  have hl:=hp.length_eq
  rw [List.length_map,List.length_range] at hl
  refine ⟨w,b,?_,hl.symm,fun k q hq=>?_⟩
  · have:=Ex hp ut
    rwa [← hl] at this
  · rw [List.getElem?_map,List.getElem?_map] at hq
    obtain ⟨z,hz,rfl⟩:=Option.map_eq_some_iff.mp hq
    obtain ⟨j,hj,rfl⟩:=Option.map_eq_some_iff.mp hz
    have hk:=(List.getElem?_eq_some_iff.mp hj).1
    rw [List.length_range] at hk
    rw [List.getElem?_range hk] at hj
    have hj:k=j:=Option.some.inj hj
    subst hj
    have hm:k ∈ (As.sb bs0).ns:=List.mem_range.mpr hk
    refine ⟨r k,uo (sim.mp k hm),?_⟩
    rw [sim.g k hm]
    show bs0[k]?=some (bs0[k]?.getD _)
    rw [List.getElem?_eq_getElem hk]
    rfl
def deal:List (Key × V)→List Int→Nat→List (Key × V)
  | kvs,[],_=>kvs
  | kvs,m :: ms,u=>deal (putK kvs (.inl m) (.int (u:Nat))) ms (u + 1)
theorem uN (m:Int):∀ (ms:List Int) (kvs:List (Key × V)) (u:Nat),deal kvs (ms ++ [m]) u=putK (deal kvs ms u) (.inl m) (.int ((u + ms.length:Nat):Int))
  | [],kvs,u=>rfl
  | a :: ms,kvs,u=>by
    show deal (putK kvs (.inl a) (.int (u:Nat))) (ms ++ [m]) (u + 1)=_
    rw [uN m ms]
    show putK (deal (putK kvs (.inl a) (.int (u:Nat))) ms (u + 1)) (.inl m) (.int ((u + 1 + ms.length:Nat):Int))=putK (deal (putK kvs (.inl a) (.int (u:Nat))) ms (u + 1)) _ _
    rw [show u + 1 + ms.length=u + (a :: ms).length by rw [List.length_cons]; omega]
theorem wC:∀ (ms:List Int) (kvs:List (Key × V)) (u:Nat),(deal kvs ms u).length ≤ kvs.length + ms.length
  | [],kvs,u=>Nat.le_refl _
  | a :: ms,kvs,u=>by
    have h1:=wC ms (putK kvs (.inl a) (.int (u:Nat))) (u + 1)
    have h2:=yB kvs (.inl a) (.int (u:Nat))
    show (deal (putK kvs (.inl a) (.int (u:Nat))) ms (u + 1)).length ≤ _
    rw [List.length_cons]
    omega
theorem Et {kvs:List (Key × V)} {s:As} {x:Dd × Nat × Nat} {r:Nat→Nat} {u:Nat} (h:Rn kvs (s.next x).ns r) (nm:Nms s x.1 x.2.1 x.2.2):Rn (deal kvs x.1.names u) s.ns (ren r x u):=by
  intro j hj
  have ni:=uB (j:=j) nm
  unfold ren
  have key:(¬ (j=x.2.1 ∨ (x.1.two=true∧j=x.2.2)))→valV kvs (.inl (j:Int))=some (.int (r j:Nat)):=fun c=>h j (mem_next.mpr (.inl ⟨hj,fun q=>c (ni.mp q)⟩))
  rw [nm.nm]
  cases ht:x.1.two with
  | true =>
    rw [ht] at key
    have e:valV (deal kvs (if true=true then [(x.2.1:Int),(x.2.2:Int)] else [(x.2.1:Int)]) u) (.inl (j:Int))=if (.inl (j:Int):Key)=.inl (x.2.2:Int) then some (.int ((u + 1:Nat):Int)) else if (.inl (j:Int):Key)=.inl (x.2.1:Int) then some (.int (u:Nat)) else valV kvs (.inl (j:Int)):=by
      show valV (putK (putK kvs (.inl (x.2.1:Int)) (.int (u:Nat))) (.inl (x.2.2:Int)) (.int ((u + 1:Nat):Int))) _=_
      rw [xO,xO]
    rw [e]
    by_cases c1:j=x.2.2
    · rw [if_pos (by rw [c1]),if_pos ⟨rfl,c1⟩]
    · rw [if_neg (Aj c1),if_neg (c:=true=true∧j=x.2.2) (fun q=>c1 q.2)]
      by_cases c2:j=x.2.1
      · rw [if_pos (by rw [c2]),if_pos c2]
      · rw [if_neg (Aj c2),if_neg c2]
        exact key (fun q=>by
          rcases q with q | q
          · exact c2 q
          · exact c1 q.2)
  | false =>
    rw [ht] at key
    have e:valV (deal kvs (if false=true then [(x.2.1:Int),(x.2.2:Int)] else [(x.2.1:Int)]) u) (.inl (j:Int))=if (.inl (j:Int):Key)=.inl (x.2.1:Int) then some (.int (u:Nat)) else valV kvs (.inl (j:Int)):=by
      show valV (putK kvs (.inl (x.2.1:Int)) (.int (u:Nat))) _=_
      rw [xO]
    rw [e,if_neg (c:=false=true∧j=x.2.2) (fun q=>by simp at q)]
    by_cases c2:j=x.2.1
    · rw [if_pos (by rw [c2]),if_pos c2]
    · rw [if_neg (Aj c2),if_neg c2]
      exact key (fun q=>by
        rcases q with q | q
        · exact c2 q
        · simp at q)
theorem names_len {s:As} {e:Dd} {n m:Nat} (h:Nms s e n m):e.names.length=if e.two then 2 else 1:=by
  rw [h.nm]
  split <;> rfl
def TupK (H H':Hp):Prop:=∀ b xs,H b=some (.tup xs)→H' b=some (.tup xs)
theorem DdAt.tk {H H':Hp} {p:Addr} {e:Dd} (h:DdAt H p e) (s:TupK H H'):DdAt H' p e:=by
  cases e with
  | cut al n t=>obtain ⟨q,h1,h2⟩:=h; exact ⟨q,s _ _ h1,s _ _ h2⟩
  | glue al n m=>exact s _ _ h
  | shift al n k=>exact s _ _ h
  | turn n=>exact s _ _ h
theorem Runs.tk {H H':Hp} {ps:List Addr} {es:DL} (h:Runs H ps es) (s:TupK H H'):Runs H' ps es:=⟨h.1,fun i p x h1 h2=>(h.2 i p x h1 h2).tk s⟩
theorem BZ {d:Int} {tn:Bool} {s:As} {es:DL} (h:Walk d tn s es):Walk d true s es:=fun i x hx=>⟨(h i x hx).nms,(h i x hx).ok,(h i x hx).fit,fun _=>rfl⟩
theorem wa {d:Int} {tn:Bool} {s:As} {es:DL} {B:Nat} (h0:As.Ok B s 0) (hw:Walk d tn s es):∀ i,i ≤ es.length→As.Ok B (ends s (es.take i)) i
  | 0,_=>h0
  | i + 1,h=>by
    have hi:i < es.length:=h
    have hx:=List.getElem?_eq_getElem hi
    rw [xP hx]
    exact (wa h0 hw i (Nat.le_of_lt hi)).next (hw i _ hx).nms
theorem AN {bs:List Bo} {B:Nat} (h1:1 ≤ bs.length) (h:bs.length ≤ B):As.Ok B (As.sb bs) 0 :=
  ⟨List.pairwise_lt_range,fun n hn=>List.mem_range.mp hn,fun h=>by
    have:List.range bs.length=[]:=h
    rw [List.range_eq_nil] at this; omega,by show (List.range bs.length).length ≤ _; rw [List.length_range]; omega,by show bs.length ≤ _; omega⟩
def Ever (d D:Int) (M:Nat) (s:As):Prop:=∀ n,n < s.k→BoD d D M (s.g n)
theorem wR {d D:Int} {M:Nat} {s:As} {es:DL} (h:Ever d D M (ends s es)) (i:Nat):Ever d D M (ends s (es.take i)):=fun n hn=>by
  have:=h n (Nat.lt_of_lt_of_le hn uI)
  rwa [wJ (es:=es) (i:=i),DA hn] at this
theorem Dc {d D:Int} {M:Nat} {s:As} {x:Dd × Nat × Nat} (h:Ever d D M (s.next x)):∀ b ∈ x.1.new (s.g x.2.1) (s.g x.2.2),BoD d D M b:=fun b hb=>by
  obtain ⟨j,hj⟩:=List.getElem?_of_mem hb
  have hl:=(List.getElem?_eq_some_iff.mp hj).1
  rw [Dd.puts_new] at hl
  have:=h (s.k + j) (by rw [vy]; omega)
  rwa [show (s.next x).g (s.k + j)=b from yS hj] at this
theorem CV (es:DL):(es.map fun x=>((x.1.puts:Nat):Int)).sum=((es.map fun x=>x.1.puts).sum:Nat):=by
  induction es with
  | nil=>rfl
  | cons x es ih =>
    rw [List.map_cons,List.sum_cons,ih,List.map_cons,List.sum_cons]
    omega
theorem DN {n j:Nat} (h:j < n):n - j=(n - 1 - j) + 1:=by omega
theorem xL {d:Int} {s t:Sd} (hR:Rt d) (z1:1 ≤ s.z) (z2:1 ≤ t.z):sgn d (tkS s t).x (tkS s t).y < 0 ↔ 0 < sgn d (t.x * s.z - s.x * t.z) (t.y * s.z - s.y * t.z):=by
  have hn1:1 ≤ s.z * t.z:=Int.mul_pos (by omega) (by omega)
  have e:sgn d (tkS s t).x (tkS s t).y=sgn d (-(t.x * s.z - s.x * t.z)) (-(t.y * s.z - s.y * t.z)):=by
    refine (z7 hR hn1).trans ?_
    rw [show s.x * t.z + -t.x * s.z=-(t.x * s.z - s.x * t.z) by grind,show s.y * t.z + -t.y * s.z=-(t.y * s.z - s.y * t.z) by grind]
  rw [e,xX hR]
  omega
theorem ud:SY ⟨0,0,1⟩:=⟨by decide,by decide,by decide +kernel,by decide +kernel,by decide +kernel⟩
theorem DD {K:PySem.W.Frag} {H:Hp} {Q:VK} {p:Addr} {x:V} {ys:List V} {b:Bool} (e:H p=some (.tup ys)) (hx:xb x=true) (hy:ys.all xb=true) (hb:(!inV x ys)=b) (q:Q (.bl b) H):rIn K true x (.ref p) H Q:=⟨p,ys,rfl,.inr (SqT.of e),hx,hy,by show Q (.bl (!inV x ys)) H; rw [hb]; exact q⟩
theorem Fn {ns:List Nat} {f:Nat→Cell} {g:Nat→Bo} (h:∀ n ∈ ns,(f n).b=g n):(ns.map f).map Cell.b=ns.map g:=by
  rw [List.map_map]
  exact List.map_congr_left h
theorem st_b {L:List Cell}:(As.st L).ns.map (As.st L).g=L.map Cell.b:=by
  show (List.range L.length).map (fun n=>(fL L n).b)=_
  refine List.ext_getElem? fun j=>?_
  rw [List.getElem?_map,List.getElem?_map]
  by_cases hj:j < L.length
  · rw [List.getElem?_range hj,List.getElem?_eq_getElem hj]
    show some (fL L j).b=_
    rw [wm (List.getElem?_eq_getElem hj)]
    rfl
  · rw [List.getElem?_eq_none (by rw [List.length_range]; omega),List.getElem?_eq_none (by omega)]
    rfl
theorem Gk {X:Cx} {H:Hp} {Q:VK} {a b:Addr} {ns:List Int} (ha:H a=some (.lst (ns.map V.int))) (hb:H b=some (.lst (ns.map V.int))) (q:Q (.bl false) H):rNeL X (.ref a) (.ref b) H Q:=by
  obtain ⟨a',b',xs,ys,bs,n,e1,e2,hn,h1,h2,h3,h4⟩:=F1 (X:=X) (Q:=fun v H'=>v=.bl true∧H'=H) ha hb ⟨rfl,rfl⟩
  refine ⟨a',b',xs,ys,bs,n,e1,e2,hn,h1,h2,h3,?_⟩
  have h5:bs.all id=true:=by
    have:=h4.1
    injection this
  rw [h5]
  exact q
theorem F7 {C L:List Cell} {qs:List Nat} {D:List Cell} (hl:D.length=qs.length) (hL:L.length=qs.length) (h:∀ k q:Nat,qs[k]?=some q→∃ c e,D[k]?=some c∧L[k]?=some e∧c.b=e.b):D.map Cell.b=L.map Cell.b:=by
  refine List.ext_getElem? fun k=>?_
  rw [List.getElem?_map,List.getElem?_map]
  by_cases hk:k < qs.length
  · obtain ⟨c,e,h1,h2,h3⟩:=h k _ (List.getElem?_eq_getElem hk)
    rw [h1,h2]
    exact congrArg some h3
  · rw [List.getElem?_eq_none (by omega),List.getElem?_eq_none (by omega)]
theorem Fk {e:Dd} (h:e.isT=true):e.wd=Str.ofString "turn":=by
  cases e with
  | turn n=>rfl
  | _=>exact nomatch h
theorem EqV.same {X:Cx} {n:Nat} {H:Hp} {p:Addr}:EqV X n H (.ref p) (.ref p) true:=fun _ _ _ _ _ _ _ rv ru _=>by
  cases rv
  cases ru
  exact SeqAt.EqAt.same _
theorem EqV.lst {X:Cx} {n:Nat} {H:Hp} {a b:Addr} {xs ys:List V} {bs:List Bool} (ha:SqL X.K H a xs) (hb:SqL X.K H b ys) (he:EqVs X n H xs ys bs) (hs:bs.all id=true):EqV X (n + 1) H (.ref a) (.ref b) true:=fun pins σ s v u A I rv ru hu=>by
  cases rv
  cases ru
  by_cases hab:a=b
  · subst hab
    exact SeqAt.EqAt.same _
  · obtain ⟨is,js,p1,p2,hz,hj,e⟩:=BI ha hb he I hu
    have:=SeqAt.RcAt.lists (A:=A) (e:=fun j=>bs.getD j false) p1 p2 hz (by omega) hj
    rw [e,hs] at this
    exact SeqAt.EqAt.of_refs hab this
theorem vF {X:Cx} {n:Nat} {H:Hp}:∀ (xs:List V),(∀ v ∈ xs,∃ p,v=.ref p)→EqVs X n H xs xs (xs.map fun _=>true)
  | [],_=>.nil
  | x :: xs,h=>by
    obtain ⟨p,rfl⟩:=h x List.mem_cons_self
    exact .cons EqV.same (vF xs fun v hv=>h v (List.mem_cons_of_mem _ hv))
theorem F3 {X:Cx} {H:Hp} {Q:VK} {a b p q r s:Addr} {xs ys:List V} (ha:H a=some (.lst [.ref p,.ref q])) (hb:H b=some (.lst [.ref r,.ref s])) (h1:H p=some (.lst xs)) (h2:H r=some (.lst xs)) (h3:H q=some (.lst ys)) (h4:H s=some (.lst ys)) (hx:∀ v ∈ xs,∃ p,v=.ref p) (hy:∀ v ∈ ys,∃ p,v=.ref p) (k:Q (.bl false) H):rNeL X (.ref a) (.ref b) H Q:=by
  have t:∀ l:List V,(l.map fun _=>true).all id=true:=fun l=>by simp
  exact ⟨a,b,_,_,_,1,rfl,rfl,by decide,SqL.of ha,SqL.of hb,.cons (EqV.lst (n:=0) (SqL.of h1) (SqL.of h2) (vF xs hx) (t xs)) (.cons (EqV.lst (n:=0) (SqL.of h3) (SqL.of h4) (vF ys hy) (t ys)) .nil),k⟩
theorem ub:∀ (es:DL),inV (.str (Str.ofString "turn")) (es.map fun x=>V.str x.1.wd)=es.any fun x=>x.1.isT
  | []=>rfl
  | x :: es=>by
    have ih:=ub es
    have e:eqV (.str x.1.wd) (.str (Str.ofString "turn"))=x.1.isT:=by
      cases h:x.1.isT with
      | true=>rw [show x.1.wd=Str.ofString "turn" from Fk h]; decide +kernel
      | false =>
        have hne:x.1.wd ≠ Str.ofString "turn":=fun c=>by rw [BD c] at h; cases h
        exact decide_eq_false hne
    rw [List.map_cons,List.any_cons,← ih,← e]
    rfl
theorem EK {d:Int} {tn:Bool} {s:As} {es:DL} (h:Walk d tn s es):Walk d (es.any fun x=>x.1.isT) s es:=fun i x hx=>⟨(h i x hx).nms,(h i x hx).ok,(h i x hx).fit,fun ht=>List.any_eq_true.mpr ⟨x,List.mem_of_getElem? hx,ht⟩⟩
theorem G9 {p q:Prop} [Decidable p] {A B:Prop} (hB:¬ (p∧q)→B) (hA:p→(¬ (p∧q)→B)→A):if decide p=true then A else B:=by
  by_cases h:p
  · rw [if_pos (decide_eq_true h)]; exact hA h hB
  · rw [if_neg (by rw [decide_eq_false h]; decide)]; exact hB (fun z=>h z.1)
def sp_is_whole:Sp:=fun vs H Q _=>∃ i:Int,vs=[.int i]∧Q (.bl true) H
theorem AX {i:Int} {H:Hp} {Q:VK} {E:XK} (q:Q (.bl true) H):sp_is_whole ([.int i] ++ []) H Q E:=⟨i,rfl,q⟩
local macro_rules | `(tactic| walk_at "rd")=>`(tactic| with_reducible refine AX ?_)
def sp_common_divisor:Sp:=fun vs H Q _=>∃ a b:Int,vs=[.int a,.int b]∧Bd 8192 b∧Q (.int (Int.gcd a b:Nat)) H
theorem wB {a b:Int} {H:Hp} {Q:VK} {E:XK} (hb:Bd 8192 b) (q:Q (.int (Int.gcd a b:Nat)) H):sp_common_divisor ([.int a,.int b] ++ []) H Q E:=⟨a,b,rfl,hb,q⟩
local macro_rules | `(tactic| walk_at "rd")=>`(tactic| ((with_reducible refine wB ?_ ?_); focus (walk_at "b8")))
def sp_with_sign_of:Sp:=fun vs H Q _=>∃ g n:Int,vs=[.int g,.int n]∧Q (.int (if n < 0 then -g else g)) H
theorem vf {g n:Int} {H:Hp} {Q:VK} {E:XK} (q:Q (.int (if n < 0 then -g else g)) H):sp_with_sign_of ([.int g,.int n] ++ []) H Q E:=⟨g,n,rfl,q⟩
local macro_rules | `(tactic| walk_at "rd")=>`(tactic| with_reducible refine vf ?_)
def sp_is_above_nought:Sp:=fun vs H Q _=>∃ d a b:Int,vs=[.int d,.int a,.int b]∧Bd 64 d∧Bd 8000 a∧Bd 8000 b∧Q (.bl (decide (0 < sgn d a b))) H
theorem wc {d a b:Int} {H:Hp} {Q:VK} {E:XK} (hd:Bd 64 d) (ha:Bd 8000 a) (hb:Bd 8000 b) (q:Q (.bl (decide (0 < sgn d a b))) H):sp_is_above_nought ([.int d,.int a,.int b] ++ []) H Q E:=⟨d,a,b,rfl,hd,ha,hb,q⟩
def sp_names_taken:Sp:=fun vs H Q _=>∃ (p:Addr) (e:Dd),vs=[.ref p]∧DdAt H p e∧∀ (r:Addr) (H':Hp),Same H H'→H r=none→H' r=some (.lst (e.names.map V.int))→Q (.ref r) H'
theorem xQ {p:Addr} {e:Dd} {H:Hp} {Q:VK} {E:XK} (he:DdAt H p e) (q:∀ (r:Addr) (H':Hp),Same H H'→H r=none→H' r=some (.lst (e.names.map V.int))→Q (.ref r) H'):sp_names_taken ([.ref p] ++ []) H Q E:=⟨p,e,rfl,he,q⟩
def sp_count_put:Sp:=fun vs H Q _=>∃ (p:Addr) (e:Dd),vs=[.ref p]∧DdAt H p e∧Q (.int (e.puts:Nat)) H
theorem wW {p:Addr} {e:Dd} {H:Hp} {Q:VK} {E:XK} (he:DdAt H p e) (q:Q (.int (e.puts:Nat)) H):sp_count_put ([.ref p] ++ []) H Q E:=⟨p,e,rfl,he,q⟩
def sp_turned:Sp:=fun vs H Q _=>∃ c:Cell,vs=[.ref c.p]∧c.At H∧∀ (r:Addr) (H':Hp),Same H H'→H r=none→Cell.At H' ⟨r,c.ph,c.pw,⟨c.b.h,c.b.w⟩⟩→Q (.ref r) H'
theorem yL {c:Cell} {H:Hp} {Q:VK} {E:XK} (hc:c.At H) (q:∀ (r:Addr) (H':Hp),Same H H'→H r=none→Cell.At H' ⟨r,c.ph,c.pw,⟨c.b.h,c.b.w⟩⟩→Q (.ref r) H'):sp_turned ([.ref c.p] ++ []) H Q E:=⟨c,rfl,hc,q⟩
def sp_places_of:Sp:=fun vs H Q _=>∃ (a:Addr) (ms ts:List Nat),vs=[.ref a]∧H a=some (.lst ((ms.map fun n:Nat=>(n:Int)).map V.int))∧ms.Perm ts∧ts.Pairwise (· < ·)∧ts.length < 64∧(∀ (r:Addr) (H':Hp),Same H H'→H r=none→H' r=some (.lst (((ms.map (rk ts)).map fun n:Nat=>(n:Int)).map V.int))→Q (.ref r) H')
theorem tO {a:Addr} {ms ts:List Nat} {H:Hp} {Q:VK} {E:XK} (ha:H a=some (.lst ((ms.map fun n:Nat=>(n:Int)).map V.int))) (hp:ms.Perm ts) (up:ts.Pairwise (· < ·)) (hl:ts.length < 64) (q:(∀ (r:Addr) (H':Hp),Same H H'→H r=none→H' r=some (.lst (((ms.map (rk ts)).map fun n:Nat=>(n:Int)).map V.int))→Q (.ref r) H')):sp_places_of ([.ref a] ++ []) H Q E:=⟨a,ms,ts,rfl,ha,hp,up,hl,q⟩
def sp__law_cell (K:PySem.W.Frag):Sp:=fun vs H Q _=>∃ (p:Addr) (ns:List Int) (k:Int),vs=[.ref p,.int k]∧SqL K H p (ns.map V.int)∧0 ≤ k∧(∀ x ∈ ns,Bd 1048576 x)∧∀ c:Int,Bd 1048576 c→Q (.int c) H
theorem yG {K:PySem.W.Frag} {p:Addr} {ns:List Int} {k:Int} {H:Hp} {Q:VK} {E:XK} (hS:SqL K H p (ns.map V.int)) (hk:0 ≤ k) (hb:∀ x ∈ ns,Bd 1048576 x) (q:∀ c:Int,Bd 1048576 c→Q (.int c) H):sp__law_cell K ([.ref p,.int k] ++ []) H Q E:=⟨p,ns,k,rfl,hS,hk,hb,q⟩
def sp__law_whole:Sp:=fun vs H Q _=>∃ i:Int,vs=[.int i]∧Q (.bl true) H
theorem uu {i:Int} {H:Hp} {Q:VK} {E:XK} (q:Q (.bl true) H):sp__law_whole ([.int i] ++ []) H Q E:=⟨i,rfl,q⟩
local macro_rules | `(tactic| walk_at "rd")=>`(tactic| with_reducible refine uu ?_)
def sp__law_great:Sp:=fun vs H Q _=>∃ c k:Int,vs=[.int c,.int k]∧Bd 1048576 c∧Bd 64 k∧∀ r:Int,0 ≤ r→r < 170141183460469231731687303715884105727→Q (.int r) H
theorem yI {c k:Int} {H:Hp} {Q:VK} {E:XK} (hc:Bd 1048576 c) (hk:Bd 64 k) (q:∀ r:Int,0 ≤ r→r < 170141183460469231731687303715884105727→Q (.int r) H):sp__law_great ([.int c,.int k] ++ []) H Q E:=⟨c,k,rfl,hc,hk,q⟩
def sp__law_divisor:Sp:=fun vs H Q _=>∃ a b:Int,vs=[.int a,.int b]∧Q (.int (Int.gcd a b:Nat)) H
theorem vg {a b:Int} {H:Hp} {Q:VK} {E:XK} (q:Q (.int (Int.gcd a b:Nat)) H):sp__law_divisor ([.int a,.int b] ++ []) H Q E:=⟨a,b,rfl,q⟩
local macro_rules | `(tactic| walk_at "rd")=>`(tactic| with_reducible refine vg ?_)
def sp__law_sign:Sp:=fun vs H Q _=>∃ d a b:Int,vs=[.int d,.int a,.int b]∧Bd 64 d∧Bd 8000 a∧Bd 8000 b∧∀ H',Same H H'→Q (.int (sgn d a b)) H'
theorem wP {d a b:Int} {H:Hp} {Q:VK} {E:XK} (hd:Bd 64 d) (ha:Bd 8000 a) (hb:Bd 8000 b) (q:∀ H',Same H H'→Q (.int (sgn d a b)) H'):sp__law_sign ([.int d,.int a,.int b] ++ []) H Q E:=⟨d,a,b,rfl,hd,ha,hb,q⟩
def sp__law_begin:Sp:=fun vs H Q _=>∃ (l:Addr) (L:List Cell),vs=[.ref l]∧H l=some (.lst (L.map Cell.v))∧(∀ c ∈ L,c.At H)∧L.length ≤ 60∧(∀ (r a:Addr) (H':Hp),Same H H'→H a=none→H' r=some (.tup [.ref a,.int (L.length:Int)])→Ly H' a (List.range L.length) (fL L)→Q (.ref r) H')
theorem wx {l:Addr} {L:List Cell} {H:Hp} {Q:VK} {E:XK} (hl:H l=some (.lst (L.map Cell.v))) (hA:(∀ c ∈ L,c.At H)) (h6:L.length ≤ 60) (q:(∀ (r a:Addr) (H':Hp),Same H H'→H a=none→H' r=some (.tup [.ref a,.int (L.length:Int)])→Ly H' a (List.range L.length) (fL L)→Q (.ref r) H')):sp__law_begin ([.ref l] ++ []) H Q E:=⟨l,L,rfl,hl,hA,h6,q⟩
def sp_Yard___init__ (cs:Cs):Sp:=fun vs H Q _=>∃ (p dx hp:Addr) (d:Int) (tn:Bool) (cl:List Cell),vs=[.ref p,.int d,.ref hp,.bl tn]∧H p=some (.ins cs.Yard dx [])∧H hp=some (.lst (cl.map Cell.v))∧(∀ c ∈ cl,c.At H)∧cl.length ≤ 60∧∀ (y:Yd) (H':Hp),y.p=p→y.dx=dx→(∀ b o,H b=some o→b ≠ p→H' b=some o)→YdAt cs.Yard H' y d tn cl (List.range cl.length) []→H y.k=none→H y.l=none→H y.t=none→Q .non H'
theorem wT {cs:Cs} {x dx hp:Addr} {d:Int} {tn:Bool} {cl:List Cell} {vs:List V} {H1:Hp} {Q:VK} {E:XK} (hv:vs=[.ref x,.int d,.ref hp,.bl tn]) (n1:H1 x=none) (n2:H1 dx=none) (hh:H1 hp=some (.lst (cl.map Cell.v))) (hat:∀ c ∈ cl,c.At H1) (hl:cl.length ≤ 60)
    (q:∀ (y:Yd) (H':Hp),y.p=x→Same H1 H'→YdAt cs.Yard H' y d tn cl (List.range cl.length) []→H1 y.k=none→H1 y.l=none→H1 y.t=none→Q .non H') :
    sp_Yard___init__ cs vs (upd (upd H1 dx (.own x)) x (.ins cs.Yard dx [])) Q E:=by
  subst hv
  have k:∀ b o,H1 b=some o→(upd (upd H1 dx (.own x)) x (.ins cs.Yard dx [])) b=some o:=fun b o e=>by
    rw [zt (ze e n1),zt (ze e n2)]; exact e
  have nn:∀ b,(upd (upd H1 dx (.own x)) x (.ins cs.Yard dx [])) b=none→H1 b=none:=fun b h=>by
    cases e:H1 b with
    | none=>rfl
    | some o=>rw [k b o e] at h; cases h
  exact ⟨x,dx,hp,d,tn,cl,rfl,zk,k _ _ hh,fun c hc=>⟨k _ _ (hat c hc).t,k _ _ (hat c hc).w,k _ _ (hat c hc).h⟩,hl,fun y H' e1 _ fr hy h1 h2 h3=>q y H' e1 (fun b o e=>fr b o (k b o e) (ze e n1)) hy (nn _ h1) (nn _ h2) (nn _ h3)⟩
def sp_Yard_board_ever (cs:Cs):Sp:=fun vs H Q _=>∃ (y:Yd) (d:Int) (tn:Bool) (cl:List Cell) (ns:List Nat) (lg:List V) (n:Nat) (c:Cell),vs=[.ref y.p,.int (n:Int)]∧YdAt cs.Yard H y d tn cl ns lg∧cl[n]?=some c∧Q (.ref c.p) H
theorem yU {cs:Cs} {y:Yd} {d:Int} {tn:Bool} {cl:List Cell} {ns:List Nat} {lg:List V} {n:Nat} {c:Cell} {H:Hp} {Q:VK} {E:XK} (hy:YdAt cs.Yard H y d tn cl ns lg) (hc:cl[n]?=some c) (q:Q (.ref c.p) H):sp_Yard_board_ever cs ([.ref y.p,.int (n:Int)] ++ []) H Q E:=⟨y,d,tn,cl,ns,lg,n,c,rfl,hy,hc,q⟩
def sp_Yard_boards (cs:Cs):Sp:=fun vs H Q _=>∃ (y:Yd) (d:Int) (tn:Bool) (cl:List Cell) (ns:List Nat) (lg:List V),vs=[.ref y.p]∧YdAt cs.Yard H y d tn cl ns lg∧∀ (r:Addr) (H':Hp) (ps:List Addr),Same H H'→H r=none→H' r=some (.lst (ps.map V.ref))→Prs cl ns H' ps→Q (.ref r) H'
theorem v8 {cs:Cs} {y:Yd} {d:Int} {tn:Bool} {cl:List Cell} {ns:List Nat} {lg:List V} {H:Hp} {Q:VK} {E:XK} (hy:YdAt cs.Yard H y d tn cl ns lg) (q:∀ (r:Addr) (H':Hp) (ps:List Addr),Same H H'→H r=none→H' r=some (.lst (ps.map V.ref))→Prs cl ns H' ps→Q (.ref r) H'):sp_Yard_boards cs ([.ref y.p] ++ []) H Q E:=⟨y,d,tn,cl,ns,lg,rfl,hy,q⟩
def sp_Yard_heap (cs:Cs):Sp:=fun vs H Q _=>∃ (y:Yd) (d:Int) (tn:Bool) (cl:List Cell) (ns:List Nat) (lg:List V),vs=[.ref y.p]∧YdAt cs.Yard H y d tn cl ns lg∧∀ (r:Addr) (H':Hp),Same H H'→H r=none→H' r=some (.lst ((pick cl ns).map Cell.v))→Q (.ref r) H'
theorem tX {cs:Cs} {y:Yd} {d:Int} {tn:Bool} {cl:List Cell} {ns:List Nat} {lg:List V} {H:Hp} {Q:VK} {E:XK} (hy:YdAt cs.Yard H y d tn cl ns lg) (q:∀ (r:Addr) (H':Hp),Same H H'→H r=none→H' r=some (.lst ((pick cl ns).map Cell.v))→Q (.ref r) H'):sp_Yard_heap cs ([.ref y.p] ++ []) H Q E:=⟨y,d,tn,cl,ns,lg,rfl,hy,q⟩
def sp_length:Sp:=fun vs H Q _=>∃ a b n:Int,vs=[.int a,.int b,.int n]∧n ≠ 0∧Bd 8000 n∧(Bd 8192 a∧Bd 8192 b)∧∀ p H',Same H H'→H' p=some (.tup [.int (lA a b n),.int (lB a b n),.int (lN a b n)])→Q (.ref p) H'
theorem vR {a b n:Int} {vs:List V} {H:Hp} {Q:VK} {E:XK} (e:vs=[.int a,.int b,.int n]) (hn:n ≠ 0) (hb:Bd 8000 n) (q:∀ p H',Same H H'→H' p=some (.tup [.int (lA a b n),.int (lB a b n),.int (lN a b n)])→Q (.ref p) H') (ha8:Bd 8192 a:=by walk_at "b8") (hb8:Bd 8192 b:=by walk_at "b8"):sp_length vs H Q E:=⟨a,b,n,e,hn,hb,⟨ha8,hb8⟩,q⟩
def sp_added:Sp:=fun vs H Q _=>∃ (p q:Addr) (x y z x' y' z':Int),vs=[.ref p,.ref q]∧H p=some (.tup [.int x,.int y,.int z])∧H q=some (.tup [.int x',.int y',.int z'])∧1 ≤ z∧1 ≤ z'∧g3 x y z=1∧g3 x' y' z'=1∧(Bd 3900 x∧Bd 3900 y∧Bd 3900 z∧Bd 3900 x'∧Bd 3900 y'∧Bd 3900 z')∧∀ (r:Addr) (H':Hp),Same H H'→H' r=some (.tup [.int (lA (x * z' + x' * z) (y * z' + y' * z) (z * z')),.int (lB (x * z' + x' * z) (y * z' + y' * z) (z * z')),.int (lN (x * z' + x' * z) (y * z' + y' * z) (z * z'))])→Q (.ref r) H'
theorem Co {p p':Addr} {x y z x' y' z':Int} {H:Hp} {Q:VK} {E:XK} (h1:H p=some (.tup [.int x,.int y,.int z])) (h2:H p'=some (.tup [.int x',.int y',.int z'])) (n1:1 ≤ z) (n2:1 ≤ z') (k1:g3 x y z=1) (k2:g3 x' y' z'=1) (b1:Bd 3900 x) (b2:Bd 3900 y) (b3:Bd 3900 z) (b4:Bd 3900 x') (b5:Bd 3900 y') (b6:Bd 3900 z') (q:∀ (r:Addr) (H':Hp),Same H H'→H' r=some (.tup [.int (lA (x * z' + x' * z) (y * z' + y' * z) (z * z')),.int (lB (x * z' + x' * z) (y * z' + y' * z) (z * z')),.int (lN (x * z' + x' * z) (y * z' + y' * z) (z * z'))])→Q (.ref r) H'):sp_added ([.ref p,.ref p'] ++ []) H Q E:=⟨p,p',x,y,z,x',y',z',rfl,h1,h2,n1,n2,k1,k2,⟨b1,b2,b3,b4,b5,b6⟩,q⟩
def sp_under (K:PySem.W.Frag):Sp:=fun vs H Q _=>∃ (d:Int) (p p':Addr) (x y z x' y' z':Int),vs=[.int d,.ref p,.ref p']∧SqT K H p [.int x,.int y,.int z]∧H p'=some (.tup [.int x',.int y',.int z'])∧Bd 64 d∧(Bd 1990 x∧Bd 1990 y∧Bd 1990 z∧Bd 1990 x'∧Bd 1990 y'∧Bd 1990 z')∧Q (.bl (decide (0 < sgn d (x' * z - x * z') (y' * z - y * z')))) H
theorem BE {K:PySem.W.Frag} {d:Int} {p p':Addr} {x y z x' y' z':Int} {H:Hp} {Q:VK} {E:XK} (h1:SqT K H p [.int x,.int y,.int z]) (h2:H p'=some (.tup [.int x',.int y',.int z'])) (hd:Bd 64 d) (b1:Bd 1990 x) (b2:Bd 1990 y) (b3:Bd 1990 z) (b4:Bd 1990 x') (b5:Bd 1990 y') (b6:Bd 1990 z') (q:Q (.bl (decide (0 < sgn d (x' * z - x * z') (y' * z - y * z')))) H):sp_under K ([.int d,.ref p,.ref p'] ++ []) H Q E:=⟨d,p,p',x,y,z,x',y',z',rfl,h1,h2,hd,⟨b1,b2,b3,b4,b5,b6⟩,q⟩
def sp_undoing (cs:Cs):Sp:=fun vs H Q _=>∃ (y:Yd) (d:Int) (tn:Bool) (cl:List Cell) (ns:List Nat) (lg:List V) (p a:Addr) (e:Dd) (n:Nat) (c:Cell) (m m':Int),vs=[.ref y.p,.ref p,.ref a]∧YdAt cs.Yard H y d tn cl ns lg∧DdAt H p e∧H a=some (.lst (if e.puts=2 then [.int m,.int m'] else [.int m]))∧e.n=(n:Int)∧cl[n]?=some c∧(∀ (r:Addr) (H':Hp),Same H H'→H r=none→DdAt H' r (e.und m m' c.b)→Q (.ref r) H')
theorem BC {cs:Cs} {y:Yd} {d:Int} {tn:Bool} {cl:List Cell} {ns:List Nat} {lg:List V} {p a:Addr} {e:Dd} {n:Nat} {c:Cell} {m m':Int} {H:Hp} {Q:VK} {E:XK} (hy:YdAt cs.Yard H y d tn cl ns lg) (he:DdAt H p e) (ha:H a=some (.lst (if e.puts=2 then [.int m,.int m'] else [.int m]))) (hn:e.n=(n:Int)) (hc:cl[n]?=some c) (q:(∀ (r:Addr) (H':Hp),Same H H'→H r=none→DdAt H' r (e.und m m' c.b)→Q (.ref r) H')):sp_undoing cs ([.ref y.p,.ref p,.ref a] ++ []) H Q E:=⟨y,d,tn,cl,ns,lg,p,a,e,n,c,m,m',rfl,hy,he,ha,hn,hc,q⟩
def sp__law_digits:Sp:=fun vs H Q _=>∃ c m:Int,vs=[.int c,.int m]∧Bd 1048576 c∧(0 ≤ m∧m ≤ 20)∧∀ (l:Addr) (H':Hp) (ds:List Int),Same H H'→H' l=some (.lst (ds.map V.int))→(ds.length:Int)=m→(∀ x ∈ ds,0 ≤ x∧x < 1000000)→Q (.ref l) H'
theorem yj {c m:Int} {H:Hp} {Q:VK} {E:XK} (hc:Bd 1048576 c) (m0:0 ≤ m) (m1:m ≤ 20) (q:∀ (l:Addr) (H':Hp) (ds:List Int),Same H H'→H' l=some (.lst (ds.map V.int))→(ds.length:Int)=m→(∀ x ∈ ds,0 ≤ x∧x < 1000000)→Q (.ref l) H'):sp__law_digits ([.int c,.int m] ++ []) H Q E:=⟨c,m,rfl,hc,⟨m0,m1⟩,q⟩
def sp__law_lowest:Sp:=fun vs H Q _=>∃ a b n:Int,vs=[.int a,.int b,.int n]∧n ≠ 0∧Bd 8000 n∧∀ (r:Addr) (H':Hp),Same H H'→H' r=some (.tup [.int (lA a b n),.int (lB a b n),.int (lN a b n)])→Q (.ref r) H'
theorem y6 {a b n:Int} {H:Hp} {Q:VK} {E:XK} (hn:n ≠ 0) (hb:Bd 8000 n) (q:∀ (r:Addr) (H':Hp),Same H H'→H' r=some (.tup [.int (lA a b n),.int (lB a b n),.int (lN a b n)])→Q (.ref r) H'):sp__law_lowest ([.int a,.int b,.int n] ++ []) H Q E:=⟨a,b,n,rfl,hn,hb,q⟩
def sp__law_root:Sp:=fun vs H Q _=>∃ c k:Int,vs=[.int c,.int k]∧Bd 1048576 c∧Bd 64 k∧∀ (d:Int) (H':Hp),Rt d→Same H H'→Q (.int d) H'
theorem tP {c k:Int} {H:Hp} {Q:VK} {E:XK} (hc:Bd 1048576 c) (hk:Bd 64 k) (q:∀ (d:Int) (H':Hp),Rt d→Same H H'→Q (.int d) H'):sp__law_root ([.int c,.int k] ++ []) H Q E:=⟨c,k,rfl,hc,hk,q⟩
def sp__law_is_length:Sp:=fun vs H Q _=>∃ (p:Addr) (s:Sd),vs=[.ref p]∧SdAt H p s∧Q (.bl true) H
theorem y9 {p:Addr} {s:Sd} {H:Hp} {Q:VK} {E:XK} (h1:SdAt H p s) (q:Q (.bl true) H):sp__law_is_length ([.ref p] ++ []) H Q E:=⟨p,s,rfl,h1,q⟩
def sp_Yard_check_names (cs:Cs):Sp:=fun vs H Q _=>∃ (y:Yd) (d:Int) (tn:Bool) (cl:List Cell) (ns:List Nat) (lg:List V) (a:Addr) (ms:List Int),vs=[.ref y.p,.ref a]∧YdAt cs.Yard H y d tn cl ns lg∧H a=some (.lst (ms.map V.int))∧(∀ m ∈ ms,∃ n ∈ ns,m=(n:Int))∧ms.Nodup∧ms.length ≤ 2∧Q .non H
theorem xF {cs:Cs} {y:Yd} {d:Int} {tn:Bool} {cl:List Cell} {ns:List Nat} {lg:List V} {a:Addr} {ms:List Int} {H:Hp} {Q:VK} {E:XK} (hy:YdAt cs.Yard H y d tn cl ns lg) (ha:H a=some (.lst (ms.map V.int))) (hm:∀ m ∈ ms,∃ n ∈ ns,m=(n:Int)) (hn:ms.Nodup) (hl:ms.length ≤ 2) (q:Q .non H):sp_Yard_check_names cs ([.ref y.p,.ref a] ++ []) H Q E:=⟨y,d,tn,cl,ns,lg,a,ms,rfl,hy,ha,hm,hn,hl,q⟩
def sp_taken:Sp:=fun vs H Q _=>∃ (p q:Addr) (x y z x' y' z':Int),vs=[.ref p,.ref q]∧H p=some (.tup [.int x,.int y,.int z])∧H q=some (.tup [.int x',.int y',.int z'])∧1 ≤ z∧1 ≤ z'∧g3 x y z=1∧g3 x' y' z'=1∧(Bd 3900 x∧Bd 3900 y∧Bd 3900 z∧Bd 3900 x'∧Bd 3900 y'∧Bd 3900 z')∧∀ (r:Addr) (H':Hp),Same H H'→H' r=some (.tup [.int (lA (x * z' + -x' * z) (y * z' + -y' * z) (z * z')),.int (lB (x * z' + -x' * z) (y * z' + -y' * z) (z * z')),.int (lN (x * z' + -x' * z) (y * z' + -y' * z) (z * z'))])→Q (.ref r) H'
theorem EN {p p':Addr} {x y z x' y' z':Int} {H:Hp} {Q:VK} {E:XK} (h1:H p=some (.tup [.int x,.int y,.int z])) (h2:H p'=some (.tup [.int x',.int y',.int z'])) (n1:1 ≤ z) (n2:1 ≤ z') (k1:g3 x y z=1) (k2:g3 x' y' z'=1) (b1:Bd 3900 x) (b2:Bd 3900 y) (b3:Bd 3900 z) (b4:Bd 3900 x') (b5:Bd 3900 y') (b6:Bd 3900 z') (q:∀ (r:Addr) (H':Hp),Same H H'→H' r=some (.tup [.int (lA (x * z' + -x' * z) (y * z' + -y' * z) (z * z')),.int (lB (x * z' + -x' * z) (y * z' + -y' * z) (z * z')),.int (lN (x * z' + -x' * z) (y * z' + -y' * z) (z * z'))])→Q (.ref r) H'):sp_taken ([.ref p,.ref p'] ++ []) H Q E:=⟨p,p',x,y,z,x',y',z',rfl,h1,h2,n1,n2,k1,k2,⟨b1,b2,b3,b4,b5,b6⟩,q⟩
def sp_is_length:Sp:=fun vs H Q _=>∃ (p:Addr) (s:Sd),vs=[.ref p]∧SdAt H p s∧SK 1300 800 s∧∀ H',Same H H'→Q (.bl true) H'
theorem wN {p:Addr} {s:Sd} {H:Hp} {Q:VK} {E:XK} (h:SdAt H p s) (ok:SK 1300 800 s) (q:∀ H',Same H H'→Q (.bl true) H'):sp_is_length ([.ref p] ++ []) H Q E:=⟨p,s,rfl,h,ok,q⟩
def sp_glued_beside:Sp:=fun vs H Q _=>∃ (c c':Cell),vs=[.ref c.p,.ref c'.p]∧c.At H∧c'.At H∧c.b.h=c'.b.h∧SY c.b.w∧SY c'.b.w∧∀ (c1:Cell) (H':Hp),Same H H'→H c1.p=none→c1.At H'→c1.b=⟨adS c.b.w c'.b.w,c.b.h⟩→Q (.ref c1.p) H'
theorem xt {c c':Cell} {H:Hp} {Q:VK} {E:XK} (hc:c.At H) (hc':c'.At H) (eh:c.b.h=c'.b.h) (okw:SY c.b.w) (oks:SY c'.b.w) (q:∀ (c1:Cell) (H':Hp),Same H H'→H c1.p=none→c1.At H'→c1.b=⟨adS c.b.w c'.b.w,c.b.h⟩→Q (.ref c1.p) H'):sp_glued_beside ([.ref c.p,.ref c'.p] ++ []) H Q E:=⟨c,c',rfl,hc,hc',eh,okw,oks,q⟩
def sp_stacked:Sp:=fun vs H Q _=>∃ (c:Cell) (k:Int),vs=[.ref c.p,.int k]∧c.At H∧1 ≤ k∧Bd 64 k∧SY c.b.w∧SY c.b.h∧∀ (c1:Cell) (H':Hp),Same H H'→H c1.p=none→c1.At H'→c1.b=⟨shS c.b.w 1 k,shS c.b.h k 1⟩→Q (.ref c1.p) H'
theorem uK {c:Cell} {k:Int} {H:Hp} {Q:VK} {E:XK} (hc:c.At H) (k1:1 ≤ k) (bk:Bd 64 k) (okw:SY c.b.w) (okh:SY c.b.h) (q:∀ (c1:Cell) (H':Hp),Same H H'→H c1.p=none→c1.At H'→c1.b=⟨shS c.b.w 1 k,shS c.b.h k 1⟩→Q (.ref c1.p) H'):sp_stacked ([.ref c.p,.int k] ++ []) H Q E:=⟨c,k,rfl,hc,k1,bk,okw,okh,q⟩
def sp__law_plus:Sp:=fun vs H Q _=>∃ (p p':Addr) (s t:Sd) (g:Int),vs=[.ref p,.ref p',.int g]∧SdAt H p s∧SdAt H p' t∧SY s∧SY t∧Bd 60 g∧(∀ (r:Addr) (H':Hp),Same H H'→SdAt H' r (plS s t g)→Q (.ref r) H')
theorem yC {p p':Addr} {s t:Sd} {g:Int} {H:Hp} {Q:VK} {E:XK} (h1:SdAt H p s) (h2:SdAt H p' t) (o1:SY s) (o2:SY t) (bg:Bd 60 g) (q:(∀ (r:Addr) (H':Hp),Same H H'→SdAt H' r (plS s t g)→Q (.ref r) H')):sp__law_plus ([.ref p,.ref p',.int g] ++ []) H Q E:=⟨p,p',s,t,g,rfl,h1,h2,o1,o2,bg,q⟩
def sp__law_share:Sp:=fun vs H Q _=>∃ (p:Addr) (s:Sd) (m k:Int),vs=[.ref p,.int m,.int k]∧SdAt H p s∧SY s∧Bd 64 m∧k ≠ 0∧Bd 64 k∧(∀ (r:Addr) (H':Hp),Same H H'→SdAt H' r (shS s m k)→Q (.ref r) H')
theorem ye {p:Addr} {s:Sd} {m k:Int} {H:Hp} {Q:VK} {E:XK} (h1:SdAt H p s) (ok:SY s) (bm:Bd 64 m) (k1:k ≠ 0) (bk:Bd 64 k) (q:(∀ (r:Addr) (H':Hp),Same H H'→SdAt H' r (shS s m k)→Q (.ref r) H')):sp__law_share ([.ref p,.int m,.int k] ++ []) H Q E:=⟨p,s,m,k,rfl,h1,ok,bm,k1,bk,q⟩
def sp__law_side:Sp:=fun vs H Q _=>∃ (d c:Int) (k:Nat),vs=[.int d,.int c,.int (k:Int)]∧Rt d∧Bd 1048576 c∧k ≤ 10∧(∀ (r:Addr) (H':Hp) (s:Sd),Same H H'→SdAt H' r s→Dw d s→Q (.ref r) H')
theorem xy {d c:Int} {k:Nat} {H:Hp} {Q:VK} {E:XK} (hR:Rt d) (hc:Bd 1048576 c) (hk:k ≤ 10) (q:(∀ (r:Addr) (H':Hp) (s:Sd),Same H H'→SdAt H' r s→Dw d s→Q (.ref r) H')):sp__law_side ([.int d,.int c,.int (k:Int)] ++ []) H Q E:=⟨d,c,k,rfl,hR,hc,hk,q⟩
def sp_is_deed:Sp:=fun vs H Q _=>∃ (p:Addr) (e:Dd),vs=[.ref p]∧DdAt H p e∧e.Ok∧∀ H',Same H H'→Q (.bl true) H'
theorem Cy {p:Addr} {e:Dd} {H:Hp} {Q:VK} {E:XK} (he:DdAt H p e) (ok:e.Ok) (q:∀ H',Same H H'→Q (.bl true) H'):sp_is_deed ([.ref p] ++ []) H Q E:=⟨p,e,rfl,he,ok,q⟩
def sp_cut_across:Sp:=fun vs H Q _=>∃ (d:Int) (c:Cell) (p:Addr) (s:Sd),vs=[.int d,.ref c.p,.ref p]∧c.At H∧SdAt H p s∧Bd 64 d∧SY c.b.w∧SY s∧0 < sgn d s.x s.y∧0 < sgn d (c.b.w.x * s.z - s.x * c.b.w.z) (c.b.w.y * s.z - s.y * c.b.w.z)∧∀ (r:Addr) (c1 c2:Cell) (H':Hp),Same H H'→H r=none→H' r=some (.lst [.ref c1.p,.ref c2.p])→c1.At H'→c2.At H'→c1.b=⟨s,c.b.h⟩→c2.b=⟨tkS c.b.w s,c.b.h⟩→Q (.ref r) H'
theorem wt {d:Int} {c:Cell} {p:Addr} {s:Sd} {H:Hp} {Q:VK} {E:XK} (hc:c.At H) (hs:SdAt H p s) (hd:Bd 64 d) (okw:SY c.b.w) (oks:SY s) (up:0 < sgn d s.x s.y) (un:0 < sgn d (c.b.w.x * s.z - s.x * c.b.w.z) (c.b.w.y * s.z - s.y * c.b.w.z)) (q:∀ (r:Addr) (c1 c2:Cell) (H':Hp),Same H H'→H r=none→H' r=some (.lst [.ref c1.p,.ref c2.p])→c1.At H'→c2.At H'→c1.b=⟨s,c.b.h⟩→c2.b=⟨tkS c.b.w s,c.b.h⟩→Q (.ref r) H'):sp_cut_across ([.int d,.ref c.p,.ref p] ++ []) H Q E:=⟨d,c,p,s,rfl,hc,hs,hd,okw,oks,up,un,q⟩
def sp__law_below:Sp:=fun vs H Q _=>∃ (d:Int) (p p':Addr) (s t:Sd),vs=[.int d,.ref p,.ref p']∧SdAt H p s∧SdAt H p' t∧SY s∧SY t∧Bd 64 d∧(∀ H',Same H H'→Q (.bl (decide (sgn d (tkS s t).x (tkS s t).y < 0))) H')
theorem yq {d:Int} {p p':Addr} {s t:Sd} {H:Hp} {Q:VK} {E:XK} (h1:SdAt H p s) (h2:SdAt H p' t) (o1:SY s) (o2:SY t) (hd:Bd 64 d) (q:(∀ H',Same H H'→Q (.bl (decide (sgn d (tkS s t).x (tkS s t).y < 0))) H')):sp__law_below ([.int d,.ref p,.ref p'] ++ []) H Q E:=⟨d,p,p',s,t,rfl,h1,h2,o1,o2,hd,q⟩
def sp__law_heap (K:PySem.W.Frag):Sp:=fun vs H Q _=>∃ (p:Addr) (ns:List Int) (d:Int),vs=[.ref p,.int d,.int 1]∧SqL K H p (ns.map V.int)∧(∀ x ∈ ns,Bd 1048576 x)∧Rt d∧(∀ (r qa l:Addr) (H':Hp) (P:PL) (L:List Cell),Same H H'→H' r=some (.tup [.ref qa,.ref l])→Pl H' qa P→H' l=some (.lst (L.map Cell.v))→(∀ c ∈ L,c.At H')→(∀ x ∈ P,Dw d x.2)→(∀ c ∈ L,Dw d c.b.w∧Dw d c.b.h)→1 ≤ L.length→L.length ≤ 6→Q (.ref r) H')
theorem tG {K:PySem.W.Frag} {p:Addr} {ns:List Int} {d:Int} {H:Hp} {Q:VK} {E:XK} (hS:SqL K H p (ns.map V.int)) (hb:(∀ x ∈ ns,Bd 1048576 x)) (hR:Rt d) (q:(∀ (r qa l:Addr) (H':Hp) (P:PL) (L:List Cell),Same H H'→H' r=some (.tup [.ref qa,.ref l])→Pl H' qa P→H' l=some (.lst (L.map Cell.v))→(∀ c ∈ L,c.At H')→(∀ x ∈ P,Dw d x.2)→(∀ c ∈ L,Dw d c.b.w∧Dw d c.b.h)→1 ≤ L.length→L.length ≤ 6→Q (.ref r) H')):sp__law_heap K ([.ref p,.int d,.int 1] ++ []) H Q E:=⟨p,ns,d,rfl,hS,hb,hR,q⟩
def sp__law_new:Sp:=fun vs H Q _=>∃ (p a:Addr) (d:Int) (e:Dd) (c c':Cell),vs=[.ref p,.ref a]∧DdAt H p e∧H a=some (.lst (if e.two then [.ref c.p,.ref c'.p] else [.ref c.p]))∧c.At H∧c'.At H∧e.Fit d c.b c'.b∧(∀ (r:Addr) (N:List Cell) (H':Hp),Same H H'→H r=none→H' r=some (.lst (N.map Cell.v))→(∀ x ∈ N,x.At H')→N.map Cell.b=e.new c.b c'.b→Q (.ref r) H')
theorem AO {p a:Addr} {d:Int} {e:Dd} {c c':Cell} {H:Hp} {Q:VK} {E:XK} (he:DdAt H p e) (ha:H a=some (.lst (if e.two then [.ref c.p,.ref c'.p] else [.ref c.p]))) (hc:c.At H) (hc':c'.At H) (hf:e.Fit d c.b c'.b) (q:(∀ (r:Addr) (N:List Cell) (H':Hp),Same H H'→H r=none→H' r=some (.lst (N.map Cell.v))→(∀ x ∈ N,x.At H')→N.map Cell.b=e.new c.b c'.b→Q (.ref r) H')):sp__law_new ([.ref p,.ref a] ++ []) H Q E:=⟨p,a,d,e,c,c',rfl,he,ha,hc,hc',hf,q⟩
def sp__law_at:Sp:=fun vs H Q _=>∃ (d:Int) (l p qa:Addr) (ds:List Int) (s:Sd) (P:PL) (D:Int) (M K':Nat),vs=[.int d,.ref l,.ref p,.ref qa]∧H l=some (.lst (ds.map V.int))∧(ds.length:Int)=8∧(∀ x ∈ ds,0 ≤ x∧x < 1000000)∧SdAt H p s∧So d D M s∧Pl H qa P∧(∀ x ∈ P,So d D M x.2)∧Sz D K' M∧Rt d∧(∀ (r:Addr) (H':Hp) (f:Sd) (k:Int),Same H H'→SdAt H' r f→1 ≤ k→Bd 10 k→So d (D * k) (M + 10) f→sgn d (tkS s f).x (tkS s f).y=1→Q (.ref r) H')
theorem uH {d:Int} {l p qa:Addr} {ds:List Int} {s:Sd} {P:PL} {D:Int} {M K':Nat} {H:Hp} {Q:VK} {E:XK} (hl:H l=some (.lst (ds.map V.int))) (n8:(ds.length:Int)=8) (hds:(∀ x ∈ ds,0 ≤ x∧x < 1000000)) (h1:SdAt H p s) (so:So d D M s) (hP:Pl H qa P) (oP:(∀ x ∈ P,So d D M x.2)) (zz:Sz D K' M) (hR:Rt d) (q:(∀ (r:Addr) (H':Hp) (f:Sd) (k:Int),Same H H'→SdAt H' r f→1 ≤ k→Bd 10 k→So d (D * k) (M + 10) f→sgn d (tkS s f).x (tkS s f).y=1→Q (.ref r) H')):sp__law_at ([.int d,.ref l,.ref p,.ref qa] ++ []) H Q E:=⟨d,l,p,qa,ds,s,P,D,M,K',rfl,hl,n8,hds,h1,so,hP,oP,zz,hR,q⟩
def sp__law_done:Sp:=fun vs H Q _=>∃ (a p:Addr) (ns:List Nat) (f:Nat→Cell) (k:Nat) (d D:Int) (M:Nat) (e:Dd) (n m:Nat),vs=[.ref a,.int (k:Int),.ref p]∧Ly H a ns f∧(∀ n ∈ ns,n < k)∧ns.length < 64∧DdAt H p e∧e.Good d D M ns f n m∧(∀ (r a':Addr) (N:List Cell) (H':Hp),Same H H'→H a'=none→H' r=some (.tup [.ref a',.int ((k + N.length:Nat):Int)])→N.map Cell.b=(e.new (f n).b (f m).b)→Ly H' a' (yx ns e.names ++ List.range' k N.length) (fN f k N)→Q (.ref r) H')
theorem wU {a p:Addr} {ns:List Nat} {f:Nat→Cell} {k:Nat} {d D:Int} {M:Nat} {e:Dd} {n m:Nat} {H:Hp} {Q:VK} {E:XK} (hL:Ly H a ns f) (lt:(∀ n ∈ ns,n < k)) (nl:ns.length < 64) (he:DdAt H p e) (gd:e.Good d D M ns f n m) (q:(∀ (r a':Addr) (N:List Cell) (H':Hp),Same H H'→H a'=none→H' r=some (.tup [.ref a',.int ((k + N.length:Nat):Int)])→N.map Cell.b=(e.new (f n).b (f m).b)→Ly H' a' (yx ns e.names ++ List.range' k N.length) (fN f k N)→Q (.ref r) H')):sp__law_done ([.ref a,.int (k:Int),.ref p] ++ []) H Q E:=⟨a,p,ns,f,k,d,D,M,e,n,m,rfl,hL,lt,nl,he,gd,q⟩
def sp__law_fits:Sp:=fun vs H Q _=>∃ (d:Int) (p a:Addr) (tn:Bool) (ns:List Nat) (f:Nat→Cell) (e:Dd) (n m:Nat),vs=[.int d,.ref p,.ref a,.bl tn]∧DdAt H p e∧Ly H a ns f∧n ∈ ns∧m ∈ ns∧e.names=(if e.two then [(n:Int),(m:Int)] else [(n:Int)])∧(e.two=true→n ≠ m)∧(e.two=false→m=n)∧e.Ok∧e.Fit d (f n).b (f m).b∧(e.isT=true→tn=true)∧Bd 64 d∧Rt d∧(∀ H',Same H H'→Q (.bl true) H')
theorem tj {d:Int} {p a:Addr} {tn:Bool} {ns:List Nat} {f:Nat→Cell} {e:Dd} {n m:Nat} {H:Hp} {Q:VK} {E:XK} (he:DdAt H p e) (hL:Ly H a ns f) (hn:n ∈ ns) (hm:m ∈ ns) (nm:e.names=(if e.two then [(n:Int),(m:Int)] else [(n:Int)])) (ne:(e.two=true→n ≠ m)) (eq:(e.two=false→m=n)) (ok:e.Ok) (fit:e.Fit d (f n).b (f m).b) (ht:(e.isT=true→tn=true)) (hd:Bd 64 d) (hR:Rt d) (q:(∀ H',Same H H'→Q (.bl true) H')):sp__law_fits ([.int d,.ref p,.ref a,.bl tn] ++ []) H Q E:=⟨d,p,a,tn,ns,f,e,n,m,rfl,he,hL,hn,hm,nm,ne,eq,ok,fit,ht,hd,hR,q⟩
def sp_Yard_put_by (cs:Cs):Sp:=fun vs H Q _=>∃ (y:Yd) (d:Int) (tn:Bool) (cl:List Cell) (ns:List Nat) (lg:List V) (p a:Addr) (e:Dd) (c c':Cell),vs=[.ref y.p,.ref p,.ref a]∧YdAt cs.Yard H y d tn cl ns lg∧DdAt H p e∧H a=some (.lst (if e.two then [.ref c.p,.ref c'.p] else [.ref c.p]))∧c.At H∧c'.At H∧Bd 64 d∧e.Fit d c.b c'.b∧(∀ (r:Addr) (N:List Cell) (H':Hp),Same H H'→H r=none→H' r=some (.lst (N.map Cell.v))→(∀ x ∈ N,x.At H')→N.map Cell.b=e.new c.b c'.b→Q (.ref r) H')
theorem v0 {cs:Cs} {y:Yd} {d:Int} {tn:Bool} {cl:List Cell} {ns:List Nat} {lg:List V} {p a:Addr} {e:Dd} {c c':Cell} {H:Hp} {Q:VK} {E:XK} (hy:YdAt cs.Yard H y d tn cl ns lg) (he:DdAt H p e) (ha:H a=some (.lst (if e.two then [.ref c.p,.ref c'.p] else [.ref c.p]))) (hc:c.At H) (hc':c'.At H) (hd:Bd 64 d) (hf:e.Fit d c.b c'.b) (q:(∀ (r:Addr) (N:List Cell) (H':Hp),Same H H'→H r=none→H' r=some (.lst (N.map Cell.v))→(∀ x ∈ N,x.At H')→N.map Cell.b=e.new c.b c'.b→Q (.ref r) H')):sp_Yard_put_by cs ([.ref y.p,.ref p,.ref a] ++ []) H Q E:=⟨y,d,tn,cl,ns,lg,p,a,e,c,c',rfl,hy,he,ha,hc,hc',hd,hf,q⟩
def sp__law_deed (K:PySem.W.Frag):Sp:=fun vs H Q _=>∃ (d c:Int) (a qa:Addr) (ns:List Nat) (f:Nat→Cell) (P:PL) (D:Int) (M K':Nat),vs=[.int d,.int c,.ref a,.ref qa]∧Bd 1048576 c∧Ly H a ns f∧ns.Pairwise (· < ·)∧ns.length < 64∧ns ≠ []∧(∀ n ∈ ns,BoD d D M (f n).b)∧Pl H qa P∧(∀ x ∈ P,So d D M x.2)∧Sz D K' M∧Rt d∧(∀ (p:Addr) (e:Dd) (n m:Nat) (H':Hp),Same H H'→DdAt H' p e→e.Good d D M ns f n m→e.isT=false→Q (.ref p) H')
theorem tJ {K:PySem.W.Frag} {d c:Int} {a qa:Addr} {ns:List Nat} {f:Nat→Cell} {P:PL} {D:Int} {M K':Nat} {H:Hp} {Q:VK} {E:XK} (hc:Bd 1048576 c) (hL:Ly H a ns f) (up:ns.Pairwise (· < ·)) (nl:ns.length < 64) (ne:ns ≠ []) (ob:(∀ n ∈ ns,BoD d D M (f n).b)) (hP:Pl H qa P) (oP:(∀ x ∈ P,So d D M x.2)) (zz:Sz D K' M) (hR:Rt d) (q:(∀ (p:Addr) (e:Dd) (n m:Nat) (H':Hp),Same H H'→DdAt H' p e→e.Good d D M ns f n m→e.isT=false→Q (.ref p) H')):sp__law_deed K ([.int d,.int c,.ref a,.ref qa] ++ []) H Q E:=⟨d,c,a,qa,ns,f,P,D,M,K',rfl,hc,hL,up,nl,ne,ob,hP,oP,zz,hR,q⟩
def sp__law_walked:Sp:=fun vs H Q _=>∃ (d:Int) (hp pl:Addr) (tn:Bool) (L:List Cell) (ps:List Addr) (es:DL) (D:Int) (M K':Nat),vs=[.int d,.ref hp,.ref pl,.bl tn]∧H hp=some (.lst (L.map Cell.v))∧(∀ c ∈ L,c.At H)∧1 ≤ L.length∧L.length ≤ 30∧H pl=some (.lst (ps.map V.ref))∧es.length ≤ 24∧Rt d∧Runs H ps es∧Walk d tn (As.st L) es∧Sz D K' M∧(∀ i,i ≤ es.length→∀ n ∈ (ends (As.st L) (es.take i)).ns,BoD d D M ((ends (As.st L) (es.take i)).g n))∧(∀ (r:Addr) (C:List Cell) (H':Hp),Same H H'→H' r=some (.lst (C.map Cell.v))→(∀ c ∈ C,c.At H')→C.map Cell.b=(ends (As.st L) es).ns.map (ends (As.st L) es).g→Q (.ref r) H')
theorem vP {d:Int} {hp pl:Addr} {tn:Bool} {L:List Cell} {ps:List Addr} {es:DL} {D:Int} {M K':Nat} {H:Hp} {Q:VK} {E:XK} (hh:H hp=some (.lst (L.map Cell.v))) (hA:(∀ c ∈ L,c.At H)) (l1:1 ≤ L.length) (l30:L.length ≤ 30) (hpl:H pl=some (.lst (ps.map V.ref))) (el:es.length ≤ 24) (hR:Rt d) (hr':Runs H ps es) (hw:Walk d tn (As.st L) es) (z:Sz D K' M) (bs:(∀ i,i ≤ es.length→∀ n ∈ (ends (As.st L) (es.take i)).ns,BoD d D M ((ends (As.st L) (es.take i)).g n))) (q:(∀ (r:Addr) (C:List Cell) (H':Hp),Same H H'→H' r=some (.lst (C.map Cell.v))→(∀ c ∈ C,c.At H')→C.map Cell.b=(ends (As.st L) es).ns.map (ends (As.st L) es).g→Q (.ref r) H')):sp__law_walked ([.int d,.ref hp,.ref pl,.bl tn] ++ []) H Q E:=⟨d,hp,pl,tn,L,ps,es,D,M,K',rfl,hh,hA,l1,l30,hpl,el,hR,hr',hw,z,bs,q⟩
def sp_Yard_do (cs:Cs):Sp:=fun vs H Q _=>∃ (y:Yd) (d:Int) (tn:Bool) (cl:List Cell) (ns:List Nat) (lg:List V) (p:Addr) (e:Dd) (c c':Cell),vs=[.ref y.p,.ref p]∧YdAt cs.Yard H y d tn cl ns lg∧DdAt H p e∧e.Ok∧(∀ m ∈ e.names,∃ n ∈ ns,m=(n:Int))∧e.names.Nodup∧(e.isT=true→tn=true)∧CellsOf cl e c c'∧e.Fit d c.b c'.b∧Bd 64 d∧cl.length ≤ 78∧lg.length ≤ 39∧(∀ (N:List Cell) (H':Hp),YdAt cs.Yard H' y d tn (cl ++ N) (yx ns e.names ++ List.range' cl.length N.length) (lg ++ [.ref p])→N.map Cell.b=e.new c.b c'.b→(∀ b o,H b=some o→b ≠ y.k→b ≠ y.l→b ≠ y.t→H' b=some o)→Q .non H')
theorem Cv {cs:Cs} {y:Yd} {d:Int} {tn:Bool} {cl:List Cell} {ns:List Nat} {lg:List V} {p:Addr} {e:Dd} {c c':Cell} {H:Hp} {Q:VK} {E:XK} (hy:YdAt cs.Yard H y d tn cl ns lg) (he:DdAt H p e) (ok:e.Ok) (hm:(∀ m ∈ e.names,∃ n ∈ ns,m=(n:Int))) (hn:e.names.Nodup) (ht:(e.isT=true→tn=true)) (hc:CellsOf cl e c c') (hf:e.Fit d c.b c'.b) (hd:Bd 64 d) (l1:cl.length ≤ 78) (l2:lg.length ≤ 39) (q:(∀ (N:List Cell) (H':Hp),YdAt cs.Yard H' y d tn (cl ++ N) (yx ns e.names ++ List.range' cl.length N.length) (lg ++ [.ref p])→N.map Cell.b=e.new c.b c'.b→(∀ b o,H b=some o→b ≠ y.k→b ≠ y.l→b ≠ y.t→H' b=some o)→Q .non H')):sp_Yard_do cs ([.ref y.p,.ref p] ++ []) H Q E:=⟨y,d,tn,cl,ns,lg,p,e,c,c',rfl,hy,he,ok,hm,hn,ht,hc,hf,hd,l1,l2,q⟩
def sp_yard_behind (cs:Cs):Sp:=fun vs H Q _=>∃ (hp pl:Addr) (d:Int) (tn:Bool) (L:List Cell) (ps:List Addr) (es:DL),vs=[.int d,.ref hp,.ref pl,.bl tn]∧H hp=some (.lst (L.map Cell.v))∧(∀ c ∈ L,c.At H)∧L.length ≤ 30∧H pl=some (.lst (ps.map V.ref))∧ps.length ≤ 24∧Bd 64 d∧Runs H ps es∧Walk d tn (As.st L) es∧(∀ (y:Yd) (H':Hp),Same H H'→YdS cs.Yard H' y d tn (ends (As.st L) es) (ps.map V.ref)→Q (.ref y.p) H')
theorem xE {cs:Cs} {hp pl:Addr} {d:Int} {tn:Bool} {L:List Cell} {ps:List Addr} {es:DL} {H:Hp} {Q:VK} {E:XK} (hh:H hp=some (.lst (L.map Cell.v))) (hA:(∀ c ∈ L,c.At H)) (l30:L.length ≤ 30) (hpl:H pl=some (.lst (ps.map V.ref))) (plen:ps.length ≤ 24) (hd:Bd 64 d) (hr':Runs H ps es) (hw:Walk d tn (As.st L) es) (q:(∀ (y:Yd) (H':Hp),Same H H'→YdS cs.Yard H' y d tn (ends (As.st L) es) (ps.map V.ref)→Q (.ref y.p) H')):sp_yard_behind cs ([.int d,.ref hp,.ref pl,.bl tn] ++ []) H Q E:=⟨hp,pl,d,tn,L,ps,es,rfl,hh,hA,l30,hpl,plen,hd,hr',hw,q⟩
def sp__law_plan (K:PySem.W.Frag):Sp:=fun vs H Q _=>∃ (d:Int) (sc l qa:Addr) (tn:Bool) (zs0:List Int) (L:List Cell) (P:PL) (D0:Int),vs=[.int d,.ref sc,.ref l,.ref qa,.bl tn]∧SqL K H sc (zs0.map V.int)∧(∀ x ∈ zs0,Bd 1048576 x)∧H l=some (.lst (L.map Cell.v))∧(∀ c ∈ L,c.At H)∧1 ≤ L.length∧L.length ≤ 6∧Pl H qa P∧(1 ≤ D0∧Bd 301 D0)∧(∀ c ∈ L,BoD d D0 341 c.b)∧(∀ x ∈ P,So d D0 341 x.2)∧Rt d∧(∀ (r pl el:Addr) (ps:List Addr) (C:List Cell) (es:DL) (D:Int) (H':Hp),Same H H'→H' r=some (.tup [.ref pl,.ref el])→H' pl=some (.lst (ps.map V.ref))→H' el=some (.lst (C.map Cell.v))→(∀ c ∈ C,c.At H')→C.map Cell.b=(ends (As.st L) es).ns.map (ends (As.st L) es).g→Runs H' ps es→Walk d tn (As.st L) es→es.length ≤ 24→Sz D 637 1013→Ever d D 1013 (ends (As.st L) es)→Q (.ref r) H')
theorem tf {K:PySem.W.Frag} {d:Int} {sc l qa:Addr} {tn:Bool} {zs0:List Int} {L:List Cell} {P:PL} {D0:Int} {H:Hp} {Q:VK} {E:XK} (hS:SqL K H sc (zs0.map V.int)) (hb:(∀ x ∈ zs0,Bd 1048576 x)) (hl:H l=some (.lst (L.map Cell.v))) (hA:(∀ c ∈ L,c.At H)) (l1:1 ≤ L.length) (l6:L.length ≤ 6) (hP:Pl H qa P) (hD:(1 ≤ D0∧Bd 301 D0)) (oL:(∀ c ∈ L,BoD d D0 341 c.b)) (oP:(∀ x ∈ P,So d D0 341 x.2)) (hR:Rt d) (q:(∀ (r pl el:Addr) (ps:List Addr) (C:List Cell) (es:DL) (D:Int) (H':Hp),Same H H'→H' r=some (.tup [.ref pl,.ref el])→H' pl=some (.lst (ps.map V.ref))→H' el=some (.lst (C.map Cell.v))→(∀ c ∈ C,c.At H')→C.map Cell.b=(ends (As.st L) es).ns.map (ends (As.st L) es).g→Runs H' ps es→Walk d tn (As.st L) es→es.length ≤ 24→Sz D 637 1013→Ever d D 1013 (ends (As.st L) es)→Q (.ref r) H')):sp__law_plan K ([.int d,.ref sc,.ref l,.ref qa,.bl tn] ++ []) H Q E:=⟨d,sc,l,qa,tn,zs0,L,P,D0,rfl,hS,hb,hl,hA,l1,l6,hP,hD,oL,oP,hR,q⟩
def sp_walked (cs:Cs):Sp:=fun vs H Q _=>∃ (hp pl:Addr) (d:Int) (tn:Bool) (L:List Cell) (ps:List Addr) (es:DL),vs=[.int d,.ref hp,.ref pl,.bl tn]∧H hp=some (.lst (L.map Cell.v))∧(∀ c ∈ L,c.At H)∧L.length ≤ 30∧H pl=some (.lst (ps.map V.ref))∧ps.length ≤ 24∧Bd 64 d∧Runs H ps es∧Walk d tn (As.st L) es∧(∀ (r:Addr) (C:List Cell) (H':Hp),Same H H'→H r=none→H' r=some (.lst (C.map Cell.v))→(∀ c ∈ C,c.At H')→C.map Cell.b=(ends (As.st L) es).ns.map (ends (As.st L) es).g→Q (.ref r) H')
theorem CM {cs:Cs} {hp pl:Addr} {d:Int} {tn:Bool} {L:List Cell} {ps:List Addr} {es:DL} {H:Hp} {Q:VK} {E:XK} (hh:H hp=some (.lst (L.map Cell.v))) (hA:(∀ c ∈ L,c.At H)) (l30:L.length ≤ 30) (hpl:H pl=some (.lst (ps.map V.ref))) (plen:ps.length ≤ 24) (hd:Bd 64 d) (hr':Runs H ps es) (hw:Walk d tn (As.st L) es) (q:(∀ (r:Addr) (C:List Cell) (H':Hp),Same H H'→H r=none→H' r=some (.lst (C.map Cell.v))→(∀ c ∈ C,c.At H')→C.map Cell.b=(ends (As.st L) es).ns.map (ends (As.st L) es).g→Q (.ref r) H')):sp_walked cs ([.int d,.ref hp,.ref pl,.bl tn] ++ []) H Q E:=⟨hp,pl,d,tn,L,ps,es,rfl,hh,hA,l30,hpl,plen,hd,hr',hw,q⟩
def sp_back (cs:Cs):Sp:=fun vs H Q _=>∃ (hp pl:Addr) (d:Int) (tn:Bool) (L:List Cell) (ps:List Addr) (es:DL) (D0:Int) (K' M:Nat),vs=[.int d,.ref hp,.ref pl]∧H hp=some (.lst (L.map Cell.v))∧(∀ c ∈ L,c.At H)∧1 ≤ L.length∧L.length ≤ 6∧H pl=some (.lst (ps.map V.ref))∧ps.length ≤ 24∧Rt d∧Runs H ps es∧Walk d tn (As.st L) es∧Sz D0 K' M∧Ever d D0 M (ends (As.st L) es)∧(∀ (r a b:Addr) (ps':List Addr) (es':DL) (qs:List Nat) (H':Hp),Same H H'→H' r=some (.tup [.ref a,.ref b])→H a=none→H b=none→a ≠ b→H' a=some (.lst (ps'.map V.ref))→H' b=some (.lst ((qs.map fun n:Nat=>(n:Int)).map V.int))→Runs H' ps' es'→es'.length=es.length→Turned d tn D0 M (L.map Cell.b) ((ends (As.st L) es).ns.map (ends (As.st L) es).g) es' qs→Q (.ref r) H')
theorem Cg {cs:Cs} {hp pl:Addr} {d:Int} {tn:Bool} {L:List Cell} {ps:List Addr} {es:DL} {D0:Int} {K' M:Nat} {H:Hp} {Q:VK} {E:XK} (hh:H hp=some (.lst (L.map Cell.v))) (hA:(∀ c ∈ L,c.At H)) (l1:1 ≤ L.length) (l6:L.length ≤ 6) (hpl:H pl=some (.lst (ps.map V.ref))) (plen:ps.length ≤ 24) (hR:Rt d) (hr':Runs H ps es) (hw:Walk d tn (As.st L) es) (z:Sz D0 K' M) (ev:Ever d D0 M (ends (As.st L) es)) (q:(∀ (r a b:Addr) (ps':List Addr) (es':DL) (qs:List Nat) (H':Hp),Same H H'→H' r=some (.tup [.ref a,.ref b])→H a=none→H b=none→a ≠ b→H' a=some (.lst (ps'.map V.ref))→H' b=some (.lst ((qs.map fun n:Nat=>(n:Int)).map V.int))→Runs H' ps' es'→es'.length=es.length→Turned d tn D0 M (L.map Cell.b) ((ends (As.st L) es).ns.map (ends (As.st L) es).g) es' qs→Q (.ref r) H')):sp_back cs ([.int d,.ref hp,.ref pl] ++ []) H Q E:=⟨hp,pl,d,tn,L,ps,es,D0,K',M,rfl,hh,hA,l1,l6,hpl,plen,hR,hr',hw,z,ev,q⟩
def sp__law_right (cs:Cs):Sp:=fun vs H Q _=>∃ (d:Int) (hp ep fo a b:Addr) (tn:Bool) (L E':List Cell) (ps:List Addr) (es:DL) (qs:List Nat) (D:Int) (M K':Nat),vs=[.int d,.ref hp,.ref ep,.ref fo,.bl tn]∧H hp=some (.lst (L.map Cell.v))∧(∀ c ∈ L,c.At H)∧L.length ≤ 6∧H ep=some (.lst (E'.map Cell.v))∧(∀ c ∈ E',c.At H)∧1 ≤ E'.length∧E'.length ≤ 30∧H fo=some (.tup [.ref a,.ref b])∧H a=some (.lst (ps.map V.ref))∧H b=some (.lst ((qs.map fun n:Nat=>(n:Int)).map V.int))∧Runs H ps es∧es.length ≤ 24∧Rt d∧Sz D K' M∧Turned d tn D M (L.map Cell.b) (E'.map Cell.b) es qs∧(∀ H',Same H H'→Q (.bl true) H')
theorem xm {cs:Cs} {d:Int} {hp ep fo a b:Addr} {tn:Bool} {L E':List Cell} {ps:List Addr} {es:DL} {qs:List Nat} {D:Int} {M K':Nat} {H:Hp} {Q:VK} {E:XK} (hh:H hp=some (.lst (L.map Cell.v))) (hA:(∀ c ∈ L,c.At H)) (l6:L.length ≤ 6) (hE:H ep=some (.lst (E'.map Cell.v))) (hAE:(∀ c ∈ E',c.At H)) (e1:1 ≤ E'.length) (e30:E'.length ≤ 30) (hf:H fo=some (.tup [.ref a,.ref b])) (ha:H a=some (.lst (ps.map V.ref))) (hb:H b=some (.lst ((qs.map fun n:Nat=>(n:Int)).map V.int))) (hr':Runs H ps es) (el:es.length ≤ 24) (hR:Rt d) (z:Sz D K' M) (tu:Turned d tn D M (L.map Cell.b) (E'.map Cell.b) es qs) (q:(∀ H',Same H H'→Q (.bl true) H')):sp__law_right cs ([.int d,.ref hp,.ref ep,.ref fo,.bl tn] ++ []) H Q E:=⟨d,hp,ep,fo,a,b,tn,L,E',ps,es,qs,D,M,K',rfl,hh,hA,l6,hE,hAE,e1,e30,hf,ha,hb,hr',el,hR,z,tu,q⟩
theorem tY:FnScope ["thing"] ["thing"] (defScope s_is_whole):=⟨rfl,rfl,rfl,by decide +kernel,rfl,by decide +kernel,by decide +kernel⟩
theorem sc_common_divisor:FnScope ["one","other","pair","rest"] ["one","other"] (defScope s_common_divisor):=⟨rfl,rfl,rfl,by decide +kernel,rfl,by decide +kernel,by decide +kernel⟩
theorem wV:FnScope ["divisor","bottom"] ["divisor","bottom"] (defScope s_with_sign_of):=⟨rfl,rfl,rfl,by decide +kernel,rfl,by decide +kernel,by decide +kernel⟩
theorem xK:FnScope ["d","a","b"] ["d","a","b"] (defScope s_is_above_nought):=⟨rfl,rfl,rfl,by decide +kernel,rfl,by decide +kernel,by decide +kernel⟩
theorem vi:FnScope ["deed"] ["deed"] (defScope s_names_taken):=⟨rfl,rfl,rfl,by decide +kernel,rfl,by decide +kernel,by decide +kernel⟩
theorem ue:FnScope ["deed"] ["deed"] (defScope s_count_put):=⟨rfl,rfl,rfl,by decide +kernel,rfl,by decide +kernel,by decide +kernel⟩
theorem Bc:FnScope ["one"] ["one"] (defScope s_turned):=⟨rfl,rfl,rfl,by decide +kernel,rfl,by decide +kernel,by decide +kernel⟩
theorem sc_places_of:FnScope ["names","places","place","name"] ["names"] (defScope s_places_of):=⟨rfl,rfl,rfl,by decide +kernel,rfl,by decide +kernel,by decide +kernel⟩
theorem uy:FnScope ["_law_script","_law_k"] ["_law_script","_law_k"] (defScope s__law_cell):=⟨rfl,rfl,rfl,by decide +kernel,rfl,by decide +kernel,by decide +kernel⟩
theorem vL:FnScope ["_law_found"] ["_law_found"] (defScope s__law_whole):=⟨rfl,rfl,rfl,by decide +kernel,rfl,by decide +kernel,by decide +kernel⟩
theorem sc__law_great:FnScope ["_law_cell_here","_law_k","_law_number"] ["_law_cell_here","_law_k"] (defScope s__law_great):=⟨rfl,rfl,rfl,by decide +kernel,rfl,by decide +kernel,by decide +kernel⟩
theorem sc__law_divisor:FnScope ["_law_one","_law_other"] ["_law_one","_law_other"] (defScope s__law_divisor):=⟨rfl,rfl,rfl,by decide +kernel,rfl,by decide +kernel,by decide +kernel⟩
theorem uX:FnScope ["_law_d","_law_a","_law_b"] ["_law_d","_law_a","_law_b"] (defScope s__law_sign):=⟨rfl,rfl,rfl,by decide +kernel,rfl,by decide +kernel,by decide +kernel⟩
theorem sc__law_begin:FnScope ["_law_heap_here","_law_lying","_law_k"] ["_law_heap_here"] (defScope s__law_begin):=⟨rfl,rfl,rfl,by decide +kernel,rfl,by decide +kernel,by decide +kernel⟩
theorem wA:FnScope ["self","d","heap","turning"] ["self","d","heap","turning"] (defScope s_Yard___init__):=⟨rfl,rfl,rfl,by decide +kernel,rfl,by decide +kernel,by decide +kernel⟩
theorem xM:FnScope ["self","name"] ["self","name"] (defScope s_Yard_board_ever):=⟨rfl,rfl,rfl,by decide +kernel,rfl,by decide +kernel,by decide +kernel⟩
theorem vm:FnScope ["self"] ["self"] (defScope s_Yard_boards):=⟨rfl,rfl,rfl,by decide +kernel,rfl,by decide +kernel,by decide +kernel⟩
theorem uS:FnScope ["self"] ["self"] (defScope s_Yard_heap):=⟨rfl,rfl,rfl,by decide +kernel,rfl,by decide +kernel,by decide +kernel⟩
theorem sc_length:FnScope ["a","b","n","divisor"] ["a","b","n"] (defScope s_length):=⟨rfl,rfl,rfl,by decide +kernel,rfl,by decide +kernel,by decide +kernel⟩
theorem sc_added:FnScope ["one","other","shared","ahead","behind","a","b","left"] ["one","other"] (defScope s_added):=⟨rfl,rfl,rfl,by decide +kernel,rfl,by decide +kernel,by decide +kernel⟩
theorem Db:FnScope ["d","one","other"] ["d","one","other"] (defScope s_under):=⟨rfl,rfl,rfl,by decide +kernel,rfl,by decide +kernel,by decide +kernel⟩
theorem sc_undoing:FnScope ["yard","deed","names","word"] ["yard","deed","names"] (defScope s_undoing):=⟨rfl,rfl,rfl,by decide +kernel,rfl,by decide +kernel,by decide +kernel⟩
theorem sc__law_digits:FnScope ["_law_cell_here","_law_many","_law_found","_law_number","_law_k"] ["_law_cell_here","_law_many"] (defScope s__law_digits):=⟨rfl,rfl,rfl,by decide +kernel,rfl,by decide +kernel,by decide +kernel⟩
theorem sc__law_lowest:FnScope ["_law_a","_law_b","_law_n","_law_share_here"] ["_law_a","_law_b","_law_n"] (defScope s__law_lowest):=⟨rfl,rfl,rfl,by decide +kernel,rfl,by decide +kernel,by decide +kernel⟩
theorem sc__law_root:FnScope ["_law_cell_here","_law_k","_law_some"] ["_law_cell_here","_law_k"] (defScope s__law_root):=⟨rfl,rfl,rfl,by decide +kernel,rfl,by decide +kernel,by decide +kernel⟩
theorem xZ:FnScope ["_law_found"] ["_law_found"] (defScope s__law_is_length):=⟨rfl,rfl,rfl,by decide +kernel,rfl,by decide +kernel,by decide +kernel⟩
theorem sc_Yard_check_names:FnScope ["self","names","name"] ["self","names"] (defScope s_Yard_check_names):=⟨rfl,rfl,rfl,by decide +kernel,rfl,by decide +kernel,by decide +kernel⟩
theorem CO:FnScope ["one","other"] ["one","other"] (defScope s_taken):=⟨rfl,rfl,rfl,by decide +kernel,rfl,by decide +kernel,by decide +kernel⟩
theorem uZ:FnScope ["thing"] ["thing"] (defScope s_is_length):=⟨rfl,rfl,rfl,by decide +kernel,rfl,by decide +kernel,by decide +kernel⟩
theorem wX:FnScope ["one","other"] ["one","other"] (defScope s_glued_beside):=⟨rfl,rfl,rfl,by decide +kernel,rfl,by decide +kernel,by decide +kernel⟩
theorem sc_stacked:FnScope ["one","many","width","height"] ["one","many"] (defScope s_stacked):=⟨rfl,rfl,rfl,by decide +kernel,rfl,by decide +kernel,by decide +kernel⟩
theorem sc__law_plus:FnScope ["_law_one","_law_other","_law_sign_here","_law_a","_law_b"] ["_law_one","_law_other","_law_sign_here"] (defScope s__law_plus):=⟨rfl,rfl,rfl,by decide +kernel,rfl,by decide +kernel,by decide +kernel⟩
theorem vK:FnScope ["_law_one","_law_top","_law_bottom"] ["_law_one","_law_top","_law_bottom"] (defScope s__law_share):=⟨rfl,rfl,rfl,by decide +kernel,rfl,by decide +kernel,by decide +kernel⟩
theorem sc__law_side:FnScope ["_law_d","_law_cell_here","_law_at_here","_law_digits_here","_law_a","_law_b","_law_n","_law_sign_here"] ["_law_d","_law_cell_here","_law_at_here"] (defScope s__law_side):=⟨rfl,rfl,rfl,by decide +kernel,rfl,by decide +kernel,by decide +kernel⟩
theorem AL:FnScope ["thing"] ["thing"] (defScope s_is_deed):=⟨rfl,rfl,rfl,by decide +kernel,rfl,by decide +kernel,by decide +kernel⟩
theorem vD:FnScope ["d","one","at"] ["d","one","at"] (defScope s_cut_across):=⟨rfl,rfl,rfl,by decide +kernel,rfl,by decide +kernel,by decide +kernel⟩
theorem sc__law_below:FnScope ["_law_d","_law_one","_law_other","_law_left"] ["_law_d","_law_one","_law_other"] (defScope s__law_below):=⟨rfl,rfl,rfl,by decide +kernel,rfl,by decide +kernel,by decide +kernel⟩
theorem sc__law_heap:FnScope ["_law_script","_law_d","_law_first","_law_pool","_law_heap_here","_law_k","_law_cell_here","_law_digits_here","_law_width","_law_height"] ["_law_script","_law_d","_law_first"] (defScope s__law_heap):=⟨rfl,rfl,rfl,by decide +kernel,rfl,by decide +kernel,by decide +kernel⟩
theorem sc__law_new:FnScope ["_law_deed_here","_law_some","_law_width","_law_height"] ["_law_deed_here","_law_some"] (defScope s__law_new):=⟨rfl,rfl,rfl,by decide +kernel,rfl,by decide +kernel,by decide +kernel⟩
theorem sc__law_at:FnScope ["_law_d","_law_digits_here","_law_side_here","_law_pool","_law_at_here","_law_bottom"] ["_law_d","_law_digits_here","_law_side_here","_law_pool"] (defScope s__law_at):=⟨rfl,rfl,rfl,by decide +kernel,rfl,by decide +kernel,by decide +kernel⟩
theorem sc__law_done:FnScope ["_law_lying","_law_used","_law_deed_here","_law_names","_law_new_here","_law_left","_law_name","_law_k"] ["_law_lying","_law_used","_law_deed_here"] (defScope s__law_done):=⟨rfl,rfl,rfl,by decide +kernel,rfl,by decide +kernel,by decide +kernel⟩
theorem sc__law_fits:FnScope ["_law_d","_law_deed_here","_law_lying","_law_turning","_law_side_here"] ["_law_d","_law_deed_here","_law_lying","_law_turning"] (defScope s__law_fits):=⟨rfl,rfl,rfl,by decide +kernel,rfl,by decide +kernel,by decide +kernel⟩
theorem sc_Yard_put_by:FnScope ["self","deed","boards","word"] ["self","deed","boards"] (defScope s_Yard_put_by):=⟨rfl,rfl,rfl,by decide +kernel,rfl,by decide +kernel,by decide +kernel⟩
theorem sc__law_deed:FnScope ["_law_d","_law_cell_here","_law_lying","_law_pool","_law_digits_here","_law_names","_law_name","_law_way","_law_side_here","_law_others"] ["_law_d","_law_cell_here","_law_lying","_law_pool"] (defScope s__law_deed):=⟨rfl,rfl,rfl,by decide +kernel,rfl,by decide +kernel,by decide +kernel⟩
theorem sc__law_walked:FnScope ["_law_d","_law_heap_here","_law_plan_here","_law_turning","_law_lying","_law_used","_law_deed_here"] ["_law_d","_law_heap_here","_law_plan_here","_law_turning"] (defScope s__law_walked):=⟨rfl,rfl,rfl,by decide +kernel,rfl,by decide +kernel,by decide +kernel⟩
theorem sc_Yard_do:FnScope ["self","deed","names","fresh","name","one"] ["self","deed"] (defScope s_Yard_do):=⟨rfl,rfl,rfl,by decide +kernel,rfl,by decide +kernel,by decide +kernel⟩
theorem sc_yard_behind:FnScope ["d","heap","plan","turning","yard","deed"] ["d","heap","plan","turning"] (defScope s_yard_behind):=⟨rfl,rfl,rfl,by decide +kernel,rfl,by decide +kernel,by decide +kernel⟩
theorem sc__law_plan:FnScope ["_law_d","_law_script","_law_heap_here","_law_pool","_law_turning","_law_lying","_law_used","_law_plan_here","_law_cell_here","_law_deed_here"] ["_law_d","_law_script","_law_heap_here","_law_pool","_law_turning"] (defScope s__law_plan):=⟨rfl,rfl,rfl,by decide +kernel,rfl,by decide +kernel,by decide +kernel⟩
theorem B6:FnScope ["d","heap","plan","turning"] ["d","heap","plan","turning"] (defScope s_walked):=⟨rfl,rfl,rfl,by decide +kernel,rfl,by decide +kernel,by decide +kernel⟩
theorem sc_back:FnScope ["d","heap","plan","yard","ends","renamed","place","named","unused","behind","deeds","deed","ahead","name"] ["d","heap","plan"] (defScope s_back):=⟨rfl,rfl,rfl,by decide +kernel,rfl,by decide +kernel,by decide +kernel⟩
theorem sc__law_right:FnScope ["_law_d","_law_heap_here","_law_end","_law_found","_law_turning","_law_plan_here","_law_places","_law_ended"] ["_law_d","_law_heap_here","_law_end","_law_found","_law_turning"] (defScope s__law_right):=⟨rfl,rfl,rfl,by decide +kernel,rfl,by decide +kernel,by decide +kernel⟩
theorem sc_law:FnScope ["_law_script","_law_d","_law_pool","_law_heap_here","_law_turning","_law_plan_here","_law_end","_law_has_turns","_law_handed","_law_found"] ["_law_script"] (defScope s_law):=⟨rfl,rfl,rfl,by decide +kernel,rfl,by decide +kernel,by decide +kernel⟩
section
variable {P:Program} {w:World} {K:PySem.W.Frag} {mg:Str→Option Value} {base:Heap} {cs:Cs}
theorem ok_is_whole {f:Addr} {fd:FuncData} (F:Fun K "is_whole" "is_whole" s_is_whole f fd) (B:Bl mg)  :FnOk P w K mg base CX0 1 f fd ["thing"] sp_is_whole:=by
  refine F.ok (k:=0) tY (fun vs H Q E h=>?_) (fun cdv A outer s H vs Q E hr h=>?_)
  · obtain ⟨i,rfl,q⟩:=h
    rfl
  obtain ⟨i,rfl,q⟩:=h
  refine ⟨_,(zf (zm (wo (zu zN rfl B.isinstance zH (za (pv 0) (za (yw (v:=.ty "int") rfl B.int wS rfl) zd))) (wq (DR (zu zN rfl B.isinstance zH (za (pv 0) (za (yw (v:=.ty "bool") rfl B.bool Bh rfl) zd)))))))),?_⟩
  rw [show zJ ["thing"] [.int i]=[some (.int i)] from rfl]
  walk_at "r"
  exact q
theorem ok_common_divisor {f:Addr} {fd:FuncData} (F:Fun K "common_divisor" "common_divisor" s_common_divisor f fd) (B:Bl mg) (g_GREAT_BITS:TopI mg "GREAT_BITS" (8192)) :FnOk P w K mg base CX0 1 f fd ["one","other"] sp_common_divisor:=by
  obtain ⟨u_GREAT_BITS,m_GREAT_BITS,r_GREAT_BITS⟩:=g_GREAT_BITS
  refine F.ok (k:=0) sc_common_divisor (fun vs H Q E h=>?_) (fun cdv A outer s H vs Q E hr h=>?_)
  · obtain ⟨a,b,rfl,hb,q⟩:=h
    rfl
  obtain ⟨a,b,rfl,hb,q⟩:=h
  refine ⟨_,(zc (zE (zj wb (Cb PySem.F.plainAttrs_int PySem.F.slot_int_bit_length PySem.F.type_int_bit_length Ef (pv 1)) (yY (v:=.int (8192)) rfl m_GREAT_BITS r_GREAT_BITS) (zp _)) B9 zn) (zc (Af PassesOwn.never (zj uq (pv 1) zb (zp _)) (zc (zv (i:=3) sc_common_divisor.nd rfl (Or.inl rfl) (zr EC (pv 0) (pv 1))) (zc (zv (i:=0) sc_common_divisor.nd rfl (Or.inl rfl) (pv 1)) (zf (zv (i:=1) sc_common_divisor.nd rfl (Or.inl rfl) (pv 3)))))) (zf (zm (zu wZ rfl B.abs B2 (za (pv 0) zd)))))),?_⟩
  rw [show zJ ["one","other","pair","rest"] [.int a,.int b]=[some (.int a),some (.int b),none,none] from rfl]
  walk_at "r"
  refine if_d (fun c=>absurd c (Ew hb)) (fun _=>?_)
  walk_at "r"
  refine Ag (fun σ' H'=>∃ (x y:Int) (r:Option V),σ'=[some (.int x),some (.int y),none,r]∧H'=H∧Int.gcd x y=Int.gcd a b) (fun σ' _=>match σ' with | [_,some (.int y),_,_]=>y.natAbs | _=>0) ⟨a,b,none,rfl,rfl,rfl⟩ ?_ ?_
  · rintro σ' H' ⟨x,y,r,rfl,rfl,hg⟩
    walk_at "r"
    refine AG (fun c=>?_) (fun c=>?_)
    · walk_at "r"
      exact ⟨⟨y,x.fmod y,_,rfl,rfl,(CN x y).trans hg⟩,D9 c⟩
    · walk_at "r"
      have e:(if x < 0 then -x else x)=((Int.gcd a b:Nat):Int):=by
        rw [← hg,c,Int.gcd_zero_right]
        split <;> omega
      rw [e]
      exact q
  · intro σ H Q Q' hq h
    obtain ⟨v,e,hs,k,e2,z⟩:=h
    exact ⟨v,e,hs,k,e2,hq _ _ z⟩
theorem ok_with_sign_of {f:Addr} {fd:FuncData} (F:Fun K "with_sign_of" "with_sign_of" s_with_sign_of f fd) (B:Bl mg)  :FnOk P w K mg base CX0 1 f fd ["divisor","bottom"] sp_with_sign_of:=by
  refine F.ok (k:=0) wV (fun vs H Q E h=>?_) (fun cdv A outer s H vs Q E hr h=>?_)
  · obtain ⟨g,n,rfl,q⟩:=h
    rfl
  obtain ⟨g,n,rfl,q⟩:=h
  refine ⟨_,(zf (zm (vV (zj vO (pv 1) zb (zp _)) (vS xU (pv 0)) (pv 0)))),?_⟩
  rw [show zJ ["divisor","bottom"] [.int g,.int n]=[some (.int g),some (.int n)] from rfl]
  walk_at "r"
  refine if_d (fun c=>?_) (fun c=>?_)
  · walk_at "r"
    rw [if_pos c] at q
    exact q
  · walk_at "r"
    rw [if_neg c] at q
    exact q
theorem ok_is_above_nought {f:Addr} {fd:FuncData} (F:Fun K "is_above_nought" "is_above_nought" s_is_above_nought f fd) (B:Bl mg)  :FnOk P w K mg base CX0 1 f fd ["d","a","b"] sp_is_above_nought:=by
  refine F.ok (k:=0) xK (fun vs H Q E h=>?_) (fun cdv A outer s H vs Q E hr h=>?_)
  · obtain ⟨d,a,b,rfl,hd,ha,hb,q⟩:=h
    rfl
  obtain ⟨d,a,b,rfl,hd,ha,hb,q⟩:=h
  refine ⟨_,(zc (zE (PW.pt (yH (zj Cd (pv 1) zb (zp _)) (yn (zj Cd (pv 2) zb (zp _))))) (zf (zm (GW (zO wb (pv 1) zb (zp _)) (wq (zO wb (pv 2) zb (zp _)))))) zn) (zc (zE (PW.pt (yH (zj Dv (pv 1) zb (zp _)) (yn (zj Dv (pv 2) zb (zp _))))) (zf (zm yT)) zn) (zc (zE (zj wb (pv 1) zb (zp _)) (zf (zm (zO wb (zr zx (pv 1) (pv 1)) (zr zx (zr zx (pv 0) (pv 2)) (pv 2)) (zp _)))) zn) (zf (zm (zO wb (zr zx (zr zx (pv 0) (pv 2)) (pv 2)) (zr zx (pv 1) (pv 1)) (zp _))))))),?_⟩
  rw [show zJ ["d","a","b"] [.int d,.int a,.int b]=[some (.int d),some (.int a),some (.int b)] from rfl]
  walk_at "r"
  refine if_d (fun c1=>?_) (fun c1=>?_)
  · walk_at "r"
    refine if_d (fun c2=>?_) (fun c2=>?_)
    · walk_at "r"
      refine if_d (fun c3=>?_) (fun c3=>?_)
      · exact bl_q (Eq.symm (decide_eq_true (by unfold sgn; rw [if_pos ⟨c1,c2⟩,if_pos (by omega)]; decide))) q
      · walk_at "r"
        exact bl_q (decide_eq_decide.mpr (by unfold sgn; rw [if_pos ⟨c1,c2⟩]; split <;> omega)) q
    · walk_at "r"
      refine if_d (fun c3=>?_) (fun c3=>?_)
      · walk_at "r"
        refine if_d (fun c4=>?_) (fun c4=>?_)
        · walk_at "r"
          exact bl_q (Eq.symm (decide_eq_false (by unfold sgn; rw [if_neg (by omega),if_pos ⟨c3,c4⟩]; decide))) q
        · omega
      · walk_at "r"
        refine if_d (fun c4=>?_) (fun c4=>?_)
        · walk_at "r"
          exact bl_q (decide_eq_decide.mpr (by unfold sgn; rw [if_neg (by omega),if_neg (by omega),if_pos c4]; split <;> omega)) q
        · omega
  · walk_at "r"
    refine if_d (fun c3=>?_) (fun c3=>?_)
    · walk_at "r"
      refine if_d (fun c4=>?_) (fun c4=>?_)
      · walk_at "r"
        exact bl_q (Eq.symm (decide_eq_false (by unfold sgn; rw [if_neg (by omega),if_pos ⟨c3,c4⟩]; decide))) q
      · walk_at "r"
        refine if_d (fun c5=>?_) (fun c5=>?_)
        · omega
        · walk_at "r"
          exact bl_q (decide_eq_decide.mpr (by unfold sgn; rw [if_neg (by omega),if_neg (by omega),if_neg c5]; split <;> omega)) q
    · omega
theorem ok_names_taken {f:Addr} {fd:FuncData} (F:Fun K "names_taken" "names_taken" s_names_taken f fd) (B:Bl mg) (g_GLUINGS:TopT K mg "GLUINGS" [.str "beside",.str "atop"]) :FnOk P w K mg base CX0 1 f fd ["deed"] sp_names_taken:=by
  obtain ⟨a_GLUINGS,m_GLUINGS,q_GLUINGS⟩:=g_GLUINGS
  refine F.ok (k:=0) vi (fun vs H Q E h=>?_) (fun cdv A outer s H vs Q E hr h=>?_)
  · obtain ⟨p,e,rfl,he,q⟩:=h
    rfl
  obtain ⟨p,e,rfl,he,q⟩:=h
  refine ⟨_,(zf (zm (vV (zj yl (zh zg (pv 0) zb (fun _ _=>rfl)) (yY (v:=.ref a_GLUINGS) rfl m_GLUINGS rfl) (by with_unfolding_all rfl)) (zU (za (zh zg (pv 0) zb (fun _ _=>rfl)) (za (zh zg (pv 0) zb (fun _ _=>rfl)) zd))) (zU (za (zh zg (pv 0) zb (fun _ _=>rfl)) zd))))),?_⟩
  rw [show zJ ["deed"] [.ref p]=[some (.ref p)] from rfl]
  cases e with
  | cut al n s =>
    obtain ⟨pq,h0,hs⟩:=he
    cases al with
    | false =>
      have h0:H p=some (.tup [.str (Str.ofString "across"),.int n,.ref pq]):=h0
      walk_at "r"
      refine ⟨_,_,rfl,.inr (q_GLUINGS H),rfl,rfl,?_⟩
      rw [show (if false=true then !inV _ _ else inV _ _)=false from by decide +kernel]
      walk_at "r"
      refine zA (by simp) fun r H1 hr s1 e1=>?_
      exact q r H1 s1 hr e1
    | true =>
      have h0:H p=some (.tup [.str (Str.ofString "along"),.int n,.ref pq]):=h0
      walk_at "r"
      refine ⟨_,_,rfl,.inr (q_GLUINGS H),rfl,rfl,?_⟩
      rw [show (if false=true then !inV _ _ else inV _ _)=false from by decide +kernel]
      walk_at "r"
      refine zA (by simp) fun r H1 hr s1 e1=>?_
      exact q r H1 s1 hr e1
  | glue al n m =>
    have h0:=he
    cases al with
    | false =>
      have h0:H p=some (.tup [.str (Str.ofString "beside"),.int n,.int m]):=h0
      walk_at "r"
      refine ⟨_,_,rfl,.inr (q_GLUINGS H),rfl,rfl,?_⟩
      rw [show (if false=true then !inV _ _ else inV _ _)=true from by decide +kernel]
      walk_at "r"
      refine zA (by simp) fun r H1 hr s1 e1=>?_
      exact q r H1 s1 hr e1
    | true =>
      have h0:H p=some (.tup [.str (Str.ofString "atop"),.int n,.int m]):=h0
      walk_at "r"
      refine ⟨_,_,rfl,.inr (q_GLUINGS H),rfl,rfl,?_⟩
      rw [show (if false=true then !inV _ _ else inV _ _)=true from by decide +kernel]
      walk_at "r"
      refine zA (by simp) fun r H1 hr s1 e1=>?_
      exact q r H1 s1 hr e1
  | shift al n k =>
    have h0:=he
    cases al with
    | false =>
      have h0:H p=some (.tup [.str (Str.ofString "stack"),.int n,.int k]):=h0
      walk_at "r"
      refine ⟨_,_,rfl,.inr (q_GLUINGS H),rfl,rfl,?_⟩
      rw [show (if false=true then !inV _ _ else inV _ _)=false from by decide +kernel]
      walk_at "r"
      refine zA (by simp) fun r H1 hr s1 e1=>?_
      exact q r H1 s1 hr e1
    | true =>
      have h0:H p=some (.tup [.str (Str.ofString "spread"),.int n,.int k]):=h0
      walk_at "r"
      refine ⟨_,_,rfl,.inr (q_GLUINGS H),rfl,rfl,?_⟩
      rw [show (if false=true then !inV _ _ else inV _ _)=false from by decide +kernel]
      walk_at "r"
      refine zA (by simp) fun r H1 hr s1 e1=>?_
      exact q r H1 s1 hr e1
  | turn n =>
    have h0:=he
    have h0:H p=some (.tup [.str (Str.ofString "turn"),.int n]):=h0
    walk_at "r"
    refine ⟨_,_,rfl,.inr (q_GLUINGS H),rfl,rfl,?_⟩
    rw [show (if false=true then !inV _ _ else inV _ _)=false from by decide +kernel]
    walk_at "r"
    refine zA (by simp) fun r H1 hr s1 e1=>?_
    exact q r H1 s1 hr e1
theorem ok_count_put {f:Addr} {fd:FuncData} (F:Fun K "count_put" "count_put" s_count_put f fd) (B:Bl mg) (g_CUTS:TopT K mg "CUTS" [.str "across",.str "along"]) :FnOk P w K mg base CX0 1 f fd ["deed"] sp_count_put:=by
  obtain ⟨a_CUTS,m_CUTS,q_CUTS⟩:=g_CUTS
  refine F.ok (k:=0) ue (fun vs H Q E h=>?_) (fun cdv A outer s H vs Q E hr h=>?_)
  · obtain ⟨p,e,rfl,he,q⟩:=h
    rfl
  obtain ⟨p,e,rfl,he,q⟩:=h
  refine ⟨_,(zf (zm (vV (zj yl (zh zg (pv 0) zb (fun _ _=>rfl)) (yY (v:=.ref a_CUTS) rfl m_CUTS rfl) (by with_unfolding_all rfl)) zb zb))),?_⟩
  rw [show zJ ["deed"] [.ref p]=[some (.ref p)] from rfl]
  cases e with
  | cut al n s =>
    obtain ⟨pq,h0,hs⟩:=he
    cases al with
    | false =>
      have h0:H p=some (.tup [.str (Str.ofString "across"),.int n,.ref pq]):=h0
      walk_at "r"
      refine ⟨_,_,rfl,.inr (q_CUTS H),rfl,rfl,?_⟩
      rw [show (if false=true then !inV _ _ else inV _ _)=true from by decide +kernel]
      walk_at "r"
      exact q
    | true =>
      have h0:H p=some (.tup [.str (Str.ofString "along"),.int n,.ref pq]):=h0
      walk_at "r"
      refine ⟨_,_,rfl,.inr (q_CUTS H),rfl,rfl,?_⟩
      rw [show (if false=true then !inV _ _ else inV _ _)=true from by decide +kernel]
      walk_at "r"
      exact q
  | glue al n m =>
    have h0:=he
    cases al with
    | false =>
      have h0:H p=some (.tup [.str (Str.ofString "beside"),.int n,.int m]):=h0
      walk_at "r"
      refine ⟨_,_,rfl,.inr (q_CUTS H),rfl,rfl,?_⟩
      rw [show (if false=true then !inV _ _ else inV _ _)=false from by decide +kernel]
      walk_at "r"
      exact q
    | true =>
      have h0:H p=some (.tup [.str (Str.ofString "atop"),.int n,.int m]):=h0
      walk_at "r"
      refine ⟨_,_,rfl,.inr (q_CUTS H),rfl,rfl,?_⟩
      rw [show (if false=true then !inV _ _ else inV _ _)=false from by decide +kernel]
      walk_at "r"
      exact q
  | shift al n k =>
    have h0:=he
    cases al with
    | false =>
      have h0:H p=some (.tup [.str (Str.ofString "stack"),.int n,.int k]):=h0
      walk_at "r"
      refine ⟨_,_,rfl,.inr (q_CUTS H),rfl,rfl,?_⟩
      rw [show (if false=true then !inV _ _ else inV _ _)=false from by decide +kernel]
      walk_at "r"
      exact q
    | true =>
      have h0:H p=some (.tup [.str (Str.ofString "spread"),.int n,.int k]):=h0
      walk_at "r"
      refine ⟨_,_,rfl,.inr (q_CUTS H),rfl,rfl,?_⟩
      rw [show (if false=true then !inV _ _ else inV _ _)=false from by decide +kernel]
      walk_at "r"
      exact q
  | turn n =>
    have h0:=he
    have h0:H p=some (.tup [.str (Str.ofString "turn"),.int n]):=h0
    walk_at "r"
    refine ⟨_,_,rfl,.inr (q_CUTS H),rfl,rfl,?_⟩
    rw [show (if false=true then !inV _ _ else inV _ _)=false from by decide +kernel]
    walk_at "r"
    exact q
theorem ok_turned {f:Addr} {fd:FuncData} (F:Fun K "turned" "turned" s_turned f fd) (B:Bl mg)  :FnOk P w K mg base CX0 1 f fd ["one"] sp_turned:=by
  refine F.ok (k:=0) Bc (fun vs H Q E h=>?_) (fun cdv A outer s H vs Q E hr h=>?_)
  · obtain ⟨c,rfl,hc,q⟩:=h
    rfl
  obtain ⟨c,rfl,hc,q⟩:=h
  refine ⟨_,(zf (zm (zK (za (zh zg (pv 0) zb (fun _ _=>rfl)) (za (zh zg (pv 0) zb (fun _ _=>rfl)) zd))))),?_⟩
  rw [show zJ ["one"] [.ref c.p]=[some (.ref c.p)] from rfl]
  have ct:=hc.t
  walk_at "r"
  refine zC (by simp) fun r H1 hr s1 e1=>?_
  exact q r H1 s1 hr ⟨e1,s1 _ _ hc.h,s1 _ _ hc.w⟩
theorem ok_places_of {f:Addr} {fd:FuncData} (F:Fun K "places_of" "places_of" s_places_of f fd) (B:Bl mg)  :FnOk P w K mg base CX0 1 f fd ["names"] sp_places_of:=by
  refine F.ok (k:=0) sc_places_of (fun vs H Q E h=>?_) (fun cdv A outer s H vs Q E hr h=>?_)
  · obtain ⟨a,ms,ts,rfl,ha,hp,up,hl,q⟩:=h
    rfl
  obtain ⟨a,ms,ts,rfl,ha,hp,up,hl,q⟩:=h
  refine ⟨_,(zc (zv (i:=1) sc_places_of.nd rfl (Or.inr rfl) vJ) (zc (yE PassesOwn.never rfl (Be rfl B.enumerate (za (zu vt rfl B.sorted xj (za (pv 0) zd)) zd)) (xv (n:=2) rfl (zM (zw (i:=2) sc_places_of.nd rfl (Or.inl rfl)) (zM (zw (i:=3) sc_places_of.nd rfl (Or.inl rfl)) yN))) (zf (xY (yO hr) (pv 1) (pv 3) (pv 2) rfl))) (zf (zm (yi ["name"] [1] rfl (zW (pv 0)) (fun _ _ _ _ _=>(zw (i:=0) (show List.Nodup (α:=Str) ["name","places"] by decide +kernel) rfl (Or.inl rfl))) (fun _ _ _ _ _=>zR) (fun _ _ _ _ _=>(yu (yO hr) (pv 1) (pv 0) (fun _ _=>rfl)))))))),?_⟩
  rw [show zJ ["names","places","place","name"] [.ref a]=[some (.ref a),none,none,none] from rfl]
  have hml:=hp.length_eq
  have hnd:=wE up
  walk_at "r"
  refine u9 fun D H1 nD s1 e1=>?_
  walk_at "r"
  refine DH ?_
  walk_at "r"
  refine Bs (s1 _ _ ha) (uf hp) (Cc up) (by rw [List.length_map]; omega) fun b H2 nb s2 e2=>?_
  have e12:=s2 _ _ e1
  have bD:b ≠ D:=Ne.symm (ze e1 nb)
  walk_at "r"
  refine ⟨b,_,rfl,SqL.of e2,Ae (K:=K) (a:=b) (xs:=(ts.map fun n:Nat=>(n:Int)).map V.int) (fun i σ H'=>∃ v1 v2 kvs,σ=[some (.ref a),some (.ref D),v1,v2]∧H' D=some (.dK kvs)∧kvs.length ≤ i∧Rn kvs (ts.take i) (rk ts)∧∀ b o,H2 b=some o→b ≠ D→H' b=some o) ⟨_,_,[],rfl,e12,Nat.le_refl _,fun n hn=>by simp at hn,fun b o e _=>e⟩ (fun i σ H' _ ⟨_,_,_,_,_,_,_,z⟩=>SqL.of (z _ _ e2 bD)) ?_ ?_⟩
  · rintro i x T σ H' hi hT ⟨v1,v2,kvs,rfl,eD,hkl,hR,fr⟩
    have hi':=(List.getElem?_eq_some_iff.mp hi).1
    rw [List.getElem?_map,List.getElem?_map] at hi
    obtain ⟨z,hz,rfl⟩:=Option.map_eq_some_iff.mp hi
    obtain ⟨n,hn,rfl⟩:=Option.map_eq_some_iff.mp hz
    have eD':(upd H' T (.tup [.int (i:Int),.int (n:Int)])) D=some (.dK kvs):=by rw [zt (ze eD hT)]; exact eD
    have eT:(upd H' T (.tup [.int (i:Int),.int (n:Int)])) T=some (.tup [.int (i:Int),.int (n:Int)]):=zk
    have frT:∀ b o,H2 b=some o→b ≠ D→(upd H' T (.tup [.int (i:Int),.int (n:Int)])) b=some o:=fun b o e n=>by rw [zt (ze (fr b o e n) hT)]; exact fr b o e n
    generalize upd H' T (.tup [.int (i:Int),.int (n:Int)])=G at eT eD' frT ⊢
    walk_at "r"
    refine ⟨D,_,rfl,DPut.k (k:=.inl (n:Int)) eD' (Nat.lt_of_lt_of_le (show _ < 1000 by simp only [List.length_map] at hi'; omega) (by decide +kernel)),?_⟩
    refine ⟨_,_,_,rfl,zk,Nat.le_trans (yB ..) (by omega),fun j hj=>?_,fun b o e n=>by rw [zt n]; exact frT b o e n⟩
    rw [xO]
    rw [List.take_succ,hn] at hj
    by_cases c:j=n
    · subst c
      rw [if_pos rfl,CF hnd hn]
    · have cj:¬ ((.inl (j:Int):Key)=.inl (n:Int)):=fun h=>c (Int.ofNat.inj (Sum.inl.inj h))
      rw [if_neg cj]
      refine hR j ?_
      rcases List.mem_append.mp hj with h | h
      · exact h
      · exact absurd (by simpa using h) c
  rintro σ H3 ⟨v1,v2,kvs,rfl,eD,hkl,hR,fr⟩
  rw [List.length_map,List.length_map,List.take_length] at hR
  have s3:Same H H3:=fun b o e=>fr _ _ (s2 _ _ (s1 _ _ e)) (ze e nD)
  walk_at "r"
  refine yt ?_
  walk_at "r"
  have ha3:=s3 _ _ ha
  refine ⟨a,rfl,⟨_,SqL.of ha3⟩,fun O hO=>z3 (K:=K) (a:=a) (ys:=(ms.map fun n:Nat=>(n:Int)).map V.int) (fun i xs σ' H'=>∃ v:Option V,σ'=[v,some (.ref D)]∧xs=(((ms.take i).map (rk ts)).map fun n:Nat=>(n:Int)).map V.int∧H' O=some (.lst xs)∧SameX O H3 H') ⟨none,rfl,rfl,zk,fun b o e n=>by rw [zt n]; exact e⟩ (fun i xs σ' H' _ z=>by obtain ⟨v,_,_,_,z⟩:=z; exact SqL.of (z _ _ ha3 (ze ha3 hO))) ?_ ?_⟩
  · rintro i x xs σ' H' hi ⟨v,rfl,rfl,eO,sx⟩
    have hi':=(List.getElem?_eq_some_iff.mp hi).1
    rw [List.getElem?_map,List.getElem?_map] at hi
    obtain ⟨z,hz,rfl⟩:=Option.map_eq_some_iff.mp hi
    obtain ⟨n,hn,rfl⟩:=Option.map_eq_some_iff.mp hz
    have hD':=sx _ _ eD (ze eD hO)
    have hmt:=hp.mem_iff.mp (List.mem_of_getElem? hn)
    walk_at "r"
    refine ⟨D,_,rfl,DGet.k (k:=.inl (n:Int)) hD' |> (fun z=>by rw [hR n hmt] at z; exact z),?_⟩
    walk_at "r"
    refine zB eO (by simp only [List.length_map,List.length_take] at hi' ⊢; omega) fun H5 x5 e5=>?_
    refine yv hi' ⟨_,rfl,rfl,?_,sx.trans x5⟩
    rw [List.take_succ,hn,List.map_append,List.map_append,List.map_append]
    exact e5
  rintro xs σ' H5 ⟨v,rfl,rfl,eO,sx⟩
  rw [List.length_map,List.length_map,List.take_length] at eO
  refine q O H5 (fun b o e=>sx _ _ (s3 _ _ e) (ze (s3 _ _ e) hO)) ?_ eO
  exact Same.nn s3 hO
theorem ok__law_cell {f:Addr} {fd:FuncData} (F:Fun K "_law_cell" "_law_cell" s__law_cell f fd) (B:Bl mg)  :FnOk P w K mg base CX0 1 f fd ["_law_script","_law_k"] (sp__law_cell K):=by
  refine F.ok (k:=0) uy (fun vs H Q E h=>?_) (fun cdv A outer s H vs Q E hr h=>?_)
  · obtain ⟨p,ns,k,rfl,hS,hk,hb,q⟩:=h
    rfl
  obtain ⟨p,ns,k,rfl,hS,hk,hb,q⟩:=h
  refine ⟨_,(zc (zE (zj vO (pv 1) (zu zy rfl B.len PySem.boot_len (za (pv 0) zd)) (zp _)) (zf (zm (zh zo (pv 0) (pv 1) (fun _ _=>rfl)))) zn) (zf (zm zb))),?_⟩
  rw [show zJ ["_law_script","_law_k"] [.ref p,.int k]=[some (.ref p),some (.int k)] from rfl]
  walk_at "r"
  refine ⟨p,_,rfl,.inl hS,?_⟩
  walk_at "r"
  refine if_d (fun c=>?_) (fun c=>?_)
  · walk_at "r"
    rw [List.length_map] at c
    obtain ⟨d,hd,e⟩:=Av (xs:=ns) (i:=k) hk c
    exact ⟨p,_,_,_,rfl,rfl,hS,e,q d (hb d hd)⟩
  · walk_at "r"
    exact q 0 (by exact (BQ 0).mono (by decide +kernel))
theorem ok__law_whole {f:Addr} {fd:FuncData} (F:Fun K "_law_whole" "_law_whole" s__law_whole f fd) (B:Bl mg)  :FnOk P w K mg base CX0 1 f fd ["_law_found"] sp__law_whole:=by
  refine F.ok (k:=0) vL (fun vs H Q E h=>?_) (fun cdv A outer s H vs Q E hr h=>?_)
  · obtain ⟨i,rfl,q⟩:=h
    rfl
  obtain ⟨i,rfl,q⟩:=h
  refine ⟨_,(zf (zm (wo (zu zN rfl B.isinstance zH (za (pv 0) (za (yw (v:=.ty "int") rfl B.int wS rfl) zd))) (wq (DR (zu zN rfl B.isinstance zH (za (pv 0) (za (yw (v:=.ty "bool") rfl B.bool Bh rfl) zd)))))))),?_⟩
  rw [show zJ ["_law_found"] [.int i]=[some (.int i)] from rfl]
  walk_at "r"
  exact q
theorem ok__law_great {f:Addr} {fd:FuncData} (F:Fun K "_law_great" "_law_great" s__law_great f fd) (B:Bl mg)  :FnOk P w K mg base CX0 1 f fd ["_law_cell_here","_law_k"] sp__law_great:=by
  refine F.ok (k:=0) sc__law_great (fun vs H Q E h=>?_) (fun cdv A outer s H vs Q E hr h=>?_)
  · obtain ⟨c,k,rfl,hc,hk,q⟩:=h
    rfl
  obtain ⟨c,k,rfl,hc,hk,q⟩:=h
  refine ⟨_,(zc (zv (i:=2) sc__law_great.nd rfl (Or.inl rfl) (zr zx (zr zZ (zr zZ (zr zZ (pv 0) (zr zx (zr zx zb (pv 1)) (pv 1))) (pv 1)) zb) zb)) (zc (zv (i:=2) sc__law_great.nd rfl (Or.inl rfl) (zr zQ (pv 2) zb)) (zf (zm (zr zQ (zr zx (pv 2) (pv 2)) zb))))),?_⟩
  rw [show zJ ["_law_cell_here","_law_k","_law_number"] [.int c,.int k]=[some (.int c),some (.int k),none] from rfl]
  walk_at "r"
  exact q _ (Int.emod_nonneg _ (by decide)) (Int.emod_lt_of_pos _ (by decide))
theorem ok__law_divisor {f:Addr} {fd:FuncData} (F:Fun K "_law_divisor" "_law_divisor" s__law_divisor f fd) (B:Bl mg)  :FnOk P w K mg base CX0 1 f fd ["_law_one","_law_other"] sp__law_divisor:=by
  refine F.ok (k:=0) sc__law_divisor (fun vs H Q E h=>?_) (fun cdv A outer s H vs Q E hr h=>?_)
  · obtain ⟨a,b,rfl,q⟩:=h
    rfl
  obtain ⟨a,b,rfl,q⟩:=h
  refine ⟨_,(zc (zv (i:=0) sc__law_divisor.nd rfl (Or.inl rfl) (zu wZ rfl B.abs B2 (za (pv 0) zd))) (zc (zv (i:=1) sc__law_divisor.nd rfl (Or.inl rfl) (zu wZ rfl B.abs B2 (za (pv 1) zd))) (zc (Af PassesOwn.never (zj wb (pv 1) zb (zp _)) (zf (E4 (i:=0) (j:=1) rfl sc__law_divisor.nd rfl rfl (by decide) rfl rfl (za (pv 1) (za (zr zQ (pv 0) (pv 1)) zd)) rfl))) (zf (zm (pv 0)))))),?_⟩
  rw [show zJ ["_law_one","_law_other"] [.int a,.int b]=[some (.int a),some (.int b)] from rfl]
  walk_at "r"
  refine Ag (fun σ' H'=>∃ (x y:Int),σ'=[some (.int x),some (.int y)]∧H'=H∧0 ≤ x∧0 ≤ y∧Int.gcd x y=Int.gcd a b) (fun σ' _=>match σ' with | [_,some (.int y)]=>y.natAbs | _=>0) ⟨_,_,rfl,rfl,?_,?_,?_⟩ ?_ ?_
  · split <;> omega
  · split <;> omega
  · exact C0 a b
  · rintro σ' H' ⟨x,y,rfl,rfl,hx,hy,hg⟩
    walk_at "r"
    refine if_d (fun c=>?_) (fun c=>?_)
    · walk_at "r"
      exact ⟨⟨y,x % y,rfl,rfl,hy,Int.emod_nonneg _ (by omega),(C4 x y).trans hg⟩,by
        have h1:=Int.emod_nonneg x (show y ≠ 0 by omega)
        have h2:=Int.emod_lt_of_pos x c
        show (x % y).natAbs < y.natAbs
        omega⟩
    · walk_at "r"
      have hy0:y=0:=by omega
      have e:x=((Int.gcd a b:Nat):Int):=by
        rw [← hg,hy0,Int.gcd_zero_right]
        omega
      rw [e]
      exact q
  · intro σ H Q Q' hq h
    obtain ⟨v,e,i,j,e1,e2,k,e3,z⟩:=h
    exact ⟨v,e,i,j,e1,e2,k,e3,hq _ _ z⟩
theorem Fs {k:Bool}:atI [V.int (-1),V.int 1] (if k=true then 1 else 0)=some (.int (if k=true then 1 else -1)):=by cases k <;> rfl
theorem ok__law_sign {f:Addr} {fd:FuncData} (F:Fun K "_law_sign" "_law_sign" s__law_sign f fd) (B:Bl mg)  :FnOk P w K mg base CX0 1 f fd ["_law_d","_law_a","_law_b"] sp__law_sign:=by
  refine F.ok (k:=0) uX (fun vs H Q E h=>?_) (fun cdv A outer s H vs Q E hr h=>?_)
  · obtain ⟨d,a,b,rfl,hd,ha,hb,q⟩:=h
    rfl
  obtain ⟨d,a,b,rfl,hd,ha,hb,q⟩:=h
  refine ⟨_,(zc (zE (PW.pt (yH (zj Cd (pv 1) zb (zp _)) (yn (zj Cd (pv 2) zb (zp _))))) (zf (zm (yb xk rfl B.int wS (za (zO wb (zr zZ (pv 1) (pv 2)) zb (zp _)) zd)))) zn) (zc (zE (PW.pt (yH (zj Dv (pv 1) zb (zp _)) (yn (zj Dv (pv 2) zb (zp _))))) (zf (zm (vS xU zb))) zn) (zc (zE (zj wb (pv 1) zb (zp _)) (zf (zm (zh zo (zU (za (vS xU zb) (za zb zd))) (yb xk rfl B.int wS (za (zO wb (zr zx (pv 1) (pv 1)) (zr zx (zr zx (pv 0) (pv 2)) (pv 2)) (zp _)) zd)) (fun _ _=>rfl)))) zn) (zf (zm (zh zo (zU (za (vS xU zb) (za zb zd))) (yb xk rfl B.int wS (za (zO wb (zr zx (zr zx (pv 0) (pv 2)) (pv 2)) (zr zx (pv 1) (pv 1)) (zp _)) zd)) (fun _ _=>rfl))))))),?_⟩
  rw [show zJ ["_law_d","_law_a","_law_b"] [.int d,.int a,.int b]=[some (.int d),some (.int a),some (.int b)] from rfl]
  walk_at "r"
  refine if_d (fun c1=>?_) (fun c1=>?_)
  · walk_at "r"
    refine if_d (fun c2=>?_) (fun c2=>?_)
    · walk_at "r"
      exact A4 (by rw [tZ c1 c2]; simp only [decide_eq_true_eq]) (q H (Same.refl H))
    · walk_at "r"
      refine if_d (fun c3=>?_) (fun c3=>?_)
      · walk_at "r"
        refine if_d (fun c4=>?_) (fun c4=>?_)
        · walk_at "r"
          exact A4 (by unfold sgn; rw [if_neg (by omega),if_pos ⟨c3,c4⟩]) (q H (Same.refl H))
        · omega
      · walk_at "r"
        refine if_d (fun c4=>?_) (fun c4=>?_)
        · walk_at "r"
          refine Dz (by simp) fun p H2 s2 e2=>?_
          walk_at "r"
          refine zD e2 Fs ?_
          exact A4 (by rw [Bu c4 (by omega)]; simp only [decide_eq_true_eq]) (q H2 s2)
        · omega
  · walk_at "r"
    refine if_d (fun c3=>?_) (fun c3=>?_)
    · walk_at "r"
      refine if_d (fun c4=>?_) (fun c4=>?_)
      · walk_at "r"
        exact A4 (by unfold sgn; rw [if_neg (by omega),if_pos ⟨c3,c4⟩]) (q H (Same.refl H))
      · walk_at "r"
        refine if_d (fun c5=>?_) (fun c5=>?_)
        · omega
        · walk_at "r"
          refine Dz (by simp) fun p H2 s2 e2=>?_
          walk_at "r"
          refine zD e2 Fs ?_
          exact A4 (by rw [BU (by omega) (by omega)]; simp only [decide_eq_true_eq]) (q H2 s2)
    · omega
theorem ok__law_begin {f:Addr} {fd:FuncData} (F:Fun K "_law_begin" "_law_begin" s__law_begin f fd) (B:Bl mg)  :FnOk P w K mg base CX0 1 f fd ["_law_heap_here"] sp__law_begin:=by
  refine F.ok (k:=0) sc__law_begin (fun vs H Q E h=>?_) (fun cdv A outer s H vs Q E hr h=>?_)
  · obtain ⟨l,L,rfl,hl,hA,h6,q⟩:=h
    rfl
  obtain ⟨l,L,rfl,hl,hA,h6,q⟩:=h
  refine ⟨_,(zc (zv (i:=1) sc__law_begin.nd rfl (Or.inl rfl) vJ) (zc (yE PassesOwn.never rfl (yF rfl B.range (za (zu zy rfl B.len PySem.boot_len (za (pv 0) zd)) zd)) (zw (i:=2) sc__law_begin.nd rfl (Or.inl rfl)) (zf (xY (yO hr) (pv 1) (pv 2) (zh zo (pv 0) (pv 2) (fun _ _=>rfl)) rfl))) (zf (zm (zK (za (pv 1) (za (zu zy rfl B.len PySem.boot_len (za (pv 0) zd)) zd))))))),?_⟩
  rw [show zJ ["_law_heap_here","_law_lying","_law_k"] [.ref l]=[some (.ref l),none,none] from rfl]
  walk_at "r"
  refine u9 fun A H1 n1 s1 e1=>?_
  have lA:l ≠ A:=ze hl n1
  have hl1:=s1 _ _ hl
  walk_at "r"
  refine vI ?_
  walk_at "r"
  rw [List.length_map]
  refine ⟨(L.length:Int),rfl,by omega,by omega,xD (lo:=0) (n:=(L.length:Int).toNat) (fun i σ H'=>∃ v,σ=[some (.ref l),some (.ref A),v]∧H' A=some (.dK (cdK (List.range i) (fL L)))∧SameX A H1 H') ⟨_,rfl,e1,fun b o e _=>e⟩ ?_ ?_⟩
  · rintro i σ H' hi ⟨v,rfl,el,sx⟩
    have hi':i < L.length:=by omega
    have hl':=sx _ _ hl1 lA
    obtain ⟨cx,hcx⟩:∃ c,L[i]?=some c:=⟨_,List.getElem?_eq_getElem hi'⟩
    walk_at "r"
    refine zD hl' (v:=cx.v) (by rw [show (0:Int) + (i:Int)=((i:Nat):Int) by omega]; exact zI (by rw [List.getElem?_map,hcx]; rfl)) ?_
    walk_at "r"
    rw [show (0:Int) + (i:Int)=((i:Nat):Int) by omega]
    refine ⟨A,_,rfl,DPut.k (k:=.inl ((i:Nat):Int)) el (by rw [tq,List.length_range]; exact Nat.lt_of_lt_of_le (show _ < 1000 by omega) (by decide +kernel)),?_⟩
    refine ⟨_,rfl,?_,fun b o e n=>by rw [zt n]; exact sx b o e n⟩
    rw [zk,v7 _ (xA (fun j hj=>List.mem_range.mp hj)),List.range_succ,Az,wm hcx]
  rintro σ H2 ⟨v,rfl,el,sx⟩
  have s2:Same H H2:=fun b o e=>sx b o (s1 b o e) (ze e n1)
  rw [Int.toNat_natCast] at el
  have hl2:=s2 _ _ hl
  walk_at "r"
  rw [List.length_map]
  walk_at "r"
  refine zC (by simp) fun r H3 n3 s3 e3=>?_
  refine q r A H3 (s2.trans s3) n1 e3 ⟨s3 _ _ el,fun j hj=>?_⟩
  have hj:=List.mem_range.mp hj
  rw [wm (List.getElem?_eq_getElem hj)]
  exact ((hA _ (List.getElem_mem hj)).same s2).same s3
theorem ok_Yard___init__ {f:Addr} {fd:FuncData} {its:List Value} (F:FunD K "__init__" "Yard.__init__" s_Yard___init__ f fd its) (B:Bl mg) (X:Xs K mg cs) :FnOk P w K mg base CX0 1 f fd ["self","d","heap","turning"] (sp_Yard___init__ cs):=by
  refine F.ok (k:=0) wA (fun vs H Q E h=>?_) (fun cdv A outer s H vs Q E hr h=>?_)
  · obtain ⟨p,dx,hp,d,tn,cl,rfl,h0,hh,hat,hlen,q⟩:=h
    rfl
  obtain ⟨p,dx,hp,d,tn,cl,rfl,h0,hh,hat,hlen,q⟩:=h
  refine ⟨_,(zc (uz (pv 0) (pv 1) rfl) (zc (uz (pv 0) (pv 3) rfl) (zc (uz (pv 0) (yb wO rfl B.list we (za (pv 2) zd)) rfl) (zc (uz (pv 0) (yb (AW rfl) rfl B.dict Cf (za (yi ["name"] [] rfl (yF rfl B.range (za (zu zy rfl B.len PySem.boot_len (za (pv 2) zd)) zd)) (fun _ _ _ _ _=>(zw (i:=0) (show List.Nodup (α:=Str) ["name"] by decide +kernel) rfl (Or.inl rfl))) (fun _ _ _ _ _=>zR) (fun _ _ _ _ _=>(zK (za (pv 0) (za yT zd))))) zd)) rfl) (zf (uz (pv 0) (zU zd) rfl)))))),?_⟩
  rw [show zJ ["self","d","heap","turning"] [.ref p,.int d,.ref hp,.bl tn]=[some (.ref p),some (.int d),some (.ref hp),some (.bl tn)] from rfl]
  walk_at "r"
  refine uR h0 X.c_Yard X.n_Yard_root (by simp) fun H1 x1 e1=>?_
  walk_at "r"
  refine uR e1 X.c_Yard X.n_Yard_turning (yP (by simp)) fun H2 x2 e2=>?_
  have np:hp ≠ p:=yf hh h0 (fun z=>nomatch z)
  have hh2:=x2 _ _ (x1 _ _ hh np) np
  walk_at "r"
  refine tW hh2 fun k H3 nk s3 ek=>?_
  have e3:=s3 _ _ e2
  have kp:k ≠ p:=yf ek e3 (fun z=>nomatch z)
  walk_at "r"
  refine uR e3 X.c_Yard X.n_Yard_known (yP (yP (by simp))) fun H4 x4 e4=>?_
  have ek4:=x4 _ _ ek kp
  have hh4:=x4 _ _ (s3 _ _ hh2) np
  walk_at "r"
  refine vH ?_
  walk_at "r"
  refine ⟨_,rfl,by simp only [List.length_map]; omega,by simp only [List.length_map]; omega,fun D hD=>yW (lo:=0) (n:=((cl.map Cell.v).length:Int).toNat) (fun i xs σ' H'=>∃ (v:Option V) (ps:List Addr),σ'=[v]∧xs=ps.map V.ref∧ps.length=i∧H' D=some (.lst xs)∧SameX D H4 H'∧∀ (j:Nat) (p':Addr),ps[j]?=some p'→H' p'=some (.tup [.int (j:Int),.bl true])) ⟨none,[],rfl,rfl,rfl,zk,fun b o e n=>by rw [zt n]; exact e,by simp⟩ ?_ ?_⟩
  · rintro i xs σ' H' hi ⟨v,ps,rfl,rfl,hl,eD,sx,hps⟩
    walk_at "r"
    refine zC (by simp) fun r H5 hr s5 e5=>?_
    walk_at "r"
    have hi':i < 61:=by simp only [List.length_map] at hi; omega
    refine zB (s5 _ _ eD) (by rw [List.length_map]; omega) fun H6 x6 e6=>?_
    have rD:r ≠ D:=yf e5 (s5 _ _ eD) (fun z=>nomatch z)
    refine yv hi ⟨_,ps ++ [r],rfl,rfl,by rw [List.length_append,hl]; rfl,by rw [List.map_append]; exact e6,sx.trans ((SameX.of s5).trans x6),?_⟩
    intro j p' hj
    by_cases c:j < ps.length
    · rw [List.getElem?_append_left c] at hj
      have:=hps j p' hj
      exact x6.tup (s5 _ _ this) (s5 _ _ eD)
    · rw [List.getElem?_append_right (by omega)] at hj
      have hj1:=(List.getElem?_eq_some_iff.mp hj).1
      have j0:j - ps.length=0:=by simpa using hj1
      rw [j0] at hj
      injection hj with hj
      subst hj
      have:j=i:=by omega
      subst this
      have:=x6.tup e5 (s5 _ _ eD)
      simpa using this
  · rintro xs σ' H' ⟨v,ps,rfl,rfl,hl,eD,sx,hps⟩
    have s5:Same H4 H':=fun b o e=>sx b o e (ze e hD)
    have hl:ps.length=cl.length:=by rw [hl]; simp
    walk_at "r"
    refine El (kvs:=nmK (List.range cl.length)) eD (by simp [nmK,hl]) (fun i p' kv h1 h2=>?_) (Ce List.pairwise_lt_range) (by simp [nmK]; omega) fun l H6 nl s6 el=>?_
    · have h3:=hps i p' h1
      have hi:=(List.getElem?_eq_some_iff.mp h1).1
      rw [nmK,List.getElem?_map,List.getElem?_range (by omega)] at h2
      injection h2 with h2
      rw [← h2]
      exact h3
    have e6:=s6 _ _ (s5 _ _ e4)
    have lp:l ≠ p:=yf el e6 (fun z=>nomatch z)
    walk_at "r"
    refine uR e6 X.c_Yard X.n_Yard_lying (yP (yP (yP (by simp)))) fun H7 x7 e7=>?_
    walk_at "r"
    refine zA (by simp) fun t H8 nt s8 et=>?_
    have e8:=s8 _ _ e7
    have tp:t ≠ p:=yf et e8 (fun z=>nomatch z)
    walk_at "r"
    refine uR e8 X.c_Yard X.n_Yard_done (yP (yP (yP (yP (by simp))))) fun H9 x9 e9=>?_
    have ek7:=x7 _ _ (s6 _ _ (s5 _ _ ek4)) kp
    have xx:SameX p H H9:=x1.trans (x2.trans ((SameX.of s3).trans (x4.trans ((SameX.of (s5.trans s6)).trans (x7.trans ((SameX.of s8).trans x9))))))
    have pn:∀ {b:Addr} {G:Hp},SameX p H G→b ≠ p→G b=none→H b=none:=fun {b G} x n g=>by
      cases e:H b with
      | none=>rfl
      | some o=>rw [x _ _ e n] at g; cases g
    refine q ⟨p,dx,k,l,t⟩ H9 rfl rfl xx ⟨e9,x9 _ _ (s8 _ _ ek7) kp,x9 _ _ (s8 _ _ (x7 _ _ el lp)) lp,x9 _ _ et tp,ze ek7 nt,fun c hc=>?_,List.pairwise_lt_range,fun n hn=>List.mem_range.mp hn,by omega,by simp⟩ (pn (x1.trans x2) kp nk) (pn (x1.trans (x2.trans ((SameX.of s3).trans (x4.trans (SameX.of s5))))) lp nl) (pn (x1.trans (x2.trans ((SameX.of s3).trans (x4.trans ((SameX.of (s5.trans s6)).trans x7))))) tp nt)
    have hc:=hat c hc
    exact ⟨xx _ _ hc.t (yf hc.t h0 (fun z=>nomatch z)),xx _ _ hc.w (yf hc.w h0 (fun z=>nomatch z)),xx _ _ hc.h (yf hc.h h0 (fun z=>nomatch z))⟩
theorem ok_Yard_board_ever {f:Addr} {fd:FuncData} (F:Fun K "board_ever" "Yard.board_ever" s_Yard_board_ever f fd) (B:Bl mg) (X:Xs K mg cs) :FnOk P w K mg base CX0 1 f fd ["self","name"] (sp_Yard_board_ever cs):=by
  refine F.ok (k:=0) xM (fun vs H Q E h=>?_) (fun cdv A outer s H vs Q E hr h=>?_)
  · obtain ⟨y,d,tn,cl,ns,lg,n,c,rfl,hy,hc,q⟩:=h
    rfl
  obtain ⟨y,d,tn,cl,ns,lg,n,c,rfl,hy,hc,q⟩:=h
  refine ⟨_,(zf (zm (zh zo (yd (K:=K) rfl (pv 0) rfl) (pv 1) (fun _ _=>rfl)))),?_⟩
  rw [show zJ ["self","name"] [.ref y.p,.int (n:Int)]=[some (.ref y.p),some (.int (n:Int))] from rfl]
  walk_at "r"
  refine ⟨_,_,_,_,_,rfl,hy.o,X.c_Yard,X.n_Yard_known,rfl,?_⟩
  walk_at "r"
  refine zD hy.k (v:=c.v) (zI (by rw [List.getElem?_map,hc]; rfl)) ?_
  walk_at "r"
  exact q
theorem ok_Yard_boards {f:Addr} {fd:FuncData} (F:Fun K "boards" "Yard.boards" s_Yard_boards f fd) (B:Bl mg) (X:Xs K mg cs) :FnOk P w K mg base CX0 1 f fd ["self"] (sp_Yard_boards cs):=by
  refine F.ok (k:=0) vm (fun vs H Q E h=>?_) (fun cdv A outer s H vs Q E hr h=>?_)
  · obtain ⟨y,d,tn,cl,ns,lg,rfl,hy,q⟩:=h
    rfl
  obtain ⟨y,d,tn,cl,ns,lg,rfl,hy,q⟩:=h
  refine ⟨_,(zf (zm (t8 ["name"] [0] rfl (A3 (yd (K:=K) rfl (pv 0) rfl)) (fun _ _ _ _ _=>(zw (i:=0) (show List.Nodup (α:=Str) ["name","self"] by decide +kernel) rfl (Or.inl rfl))) (fun _ _ _ _ _=>zR) (fun _ _ _ _ _=>(zK (za (pv 0) (za (zh (r:=rIxL K) zo (yd (K:=K) rfl (pv 1) rfl) (pv 0) (fun _ _=>rfl)) zd))))))),?_⟩
  rw [show zJ ["self"] [.ref y.p]=[some (.ref y.p)] from rfl]
  refine E2 ?_
  refine Ba ?_
  walk_at "r"
  refine ⟨_,_,_,_,_,rfl,hy.o,X.c_Yard,X.n_Yard_lying,rfl,?_⟩
  refine ⟨y.l,nmK ns,rfl,hy.l,fun ob nf D hD=>uA (d:=y.l) (ob:=ob) (kvs:=nmK ns) (fun i xs σ' H'=>∃ v:Option V,σ'=[v,some (.ref y.p)]∧(∃ ps:List Addr,xs=ps.map V.ref∧ps.length=i∧∀ (j:Nat) (p:Addr),ps[j]?=some p→∃ n c,ns[j]?=some n∧cl[n]?=some c∧H' p=some (.tup [.int (n:Int),.ref c.p]))∧H' D=some (.lst xs)∧H' y.l=some (.frz ob (.dK (nmK ns)))∧∀ b o,H b=some o→b ≠ y.l→H' b=some o) ?_ (fun i xs σ' H' _ z=>by obtain ⟨_,_,_,_,z,_⟩:=z; exact z) ?_ ?_⟩
  · have nl:D ≠ y.l:=fun c=>by rw [c,zk] at hD; cases hD
    have hD':H D=none:=by rw [zt nl] at hD; exact hD
    exact ⟨none,rfl,⟨[],rfl,rfl,by simp⟩,zk,by rw [zt (Ne.symm nl),zk],fun b o e n=>by rw [zt (ze e hD'),zt n]; exact e⟩
  · rintro i kv xs σ' H' hi ⟨v,rfl,⟨ps,rfl,hl,hps⟩,eD,el,sx⟩
    have nl0:D ≠ y.l:=fun c=>by rw [c,zk] at hD; cases hD
    have hD':H D=none:=by rw [zt nl0] at hD; exact hD
    rw [nmK,List.getElem?_map] at hi
    obtain ⟨n,hn,rfl⟩:=Option.map_eq_some_iff.mp hi
    have hlt:=hy.lt n (List.mem_of_getElem? hn)
    obtain ⟨c,hc⟩:∃ c,cl[n]?=some c:=⟨_,List.getElem?_eq_getElem hlt⟩
    have nl:∀ {b:Addr} {o:HO},H b=some o→(∀ k,o ≠ .dK k)→b ≠ y.l:=fun e h z=>by rw [z,hy.l] at e; injection e with e; exact h _ e.symm
    have eo:=sx _ _ hy.o (nl hy.o (fun _ z=>nomatch z))
    have ek:=sx _ _ hy.k (nl hy.k (fun _ z=>nomatch z))
    walk_at "r"
    refine ⟨_,_,_,_,_,rfl,eo,X.c_Yard,X.n_Yard_known,rfl,?_⟩
    walk_at "r"
    refine zD ek (v:=c.v) (zI (by rw [List.getElem?_map,hc]; rfl)) ?_
    have hi3:=(List.getElem?_eq_some_iff.mp hn).1
    have l1:=Bt hy.up hy.lt
    have l2:=hy.lc
    walk_at "r"
    refine zC (by simp) fun r H5 hr s5 e5=>?_
    walk_at "r"
    have eD5:=s5 _ _ eD
    refine zB eD5 (by rw [List.length_map]; omega) fun H3 x3 e3=>?_
    refine yv (by simp only [nmK,List.length_map]; exact hi3) ⟨_,rfl,⟨ps ++ [r],rfl,by rw [List.length_append,hl]; rfl,?_⟩,by rw [List.map_append]; exact e3,x3 _ _ (s5 _ _ el) (yf (s5 _ _ el) eD5 (fun z=>nomatch z)),fun b o e n=>x3 _ _ (s5 _ _ (sx b o e n)) (ze e hD')⟩
    intro j p' hj
    by_cases cj:j < ps.length
    · rw [List.getElem?_append_left cj] at hj
      obtain ⟨n',c',h1,h2,h3⟩:=hps j p' hj
      exact ⟨n',c',h1,h2,x3.tup (s5 _ _ h3) eD5⟩
    · rw [List.getElem?_append_right (by omega)] at hj
      have hj1:=(List.getElem?_eq_some_iff.mp hj).1
      have j0:j - ps.length=0:=by simpa using hj1
      rw [j0] at hj
      injection hj with hj
      subst hj
      have:j=i:=by omega
      subst this
      exact ⟨n,c,hn,hc,x3.tup e5 eD5⟩
  · rintro xs σ' H' ⟨v,rfl,⟨ps,rfl,hl,hps⟩,eD,el,sx⟩
    have nl0:D ≠ y.l:=fun c=>by rw [c,zk] at hD; cases hD
    have hD':H D=none:=by rw [zt nl0] at hD; exact hD
    refine ⟨y.l,ob,nmK ns,nf,el,?_⟩
    refine q D _ ps (fun b o e=>?_) hD' (by rw [zt nl0]; exact eD) ⟨by rw [hl,nmK,List.length_map],fun j p' hj=>?_⟩
    rotate_left
    · obtain ⟨n',c',h1,h2,h3⟩:=hps j p' hj
      exact ⟨n',c',h1,h2,by rw [zt (yf h3 el (fun z=>nomatch z))]; exact h3⟩
    by_cases c:b=y.l
    · rw [c,zk]; rw [c,hy.l] at e; exact e
    · rw [zt c]; exact sx b o e c
theorem ok_Yard_heap {f:Addr} {fd:FuncData} (F:Fun K "heap" "Yard.heap" s_Yard_heap f fd) (B:Bl mg) (X:Xs K mg cs) :FnOk P w K mg base CX0 1 f fd ["self"] (sp_Yard_heap cs):=by
  refine F.ok (k:=0) uS (fun vs H Q E h=>?_) (fun cdv A outer s H vs Q E hr h=>?_)
  · obtain ⟨y,d,tn,cl,ns,lg,rfl,hy,q⟩:=h
    rfl
  obtain ⟨y,d,tn,cl,ns,lg,rfl,hy,q⟩:=h
  refine ⟨_,(zf (zm (t8 ["name"] [0] rfl (A3 (yd (K:=K) rfl (pv 0) rfl)) (fun _ _ _ _ _=>(zw (i:=0) (show List.Nodup (α:=Str) ["name","self"] by decide +kernel) rfl (Or.inl rfl))) (fun _ _ _ _ _=>zR) (fun _ _ _ _ _=>(zh (r:=rIxL K) zo (yd (K:=K) rfl (pv 1) rfl) (pv 0) (fun _ _=>rfl)))))),?_⟩
  rw [show zJ ["self"] [.ref y.p]=[some (.ref y.p)] from rfl]
  refine E2 ?_
  refine Ba ?_
  walk_at "r"
  refine ⟨_,_,_,_,_,rfl,hy.o,X.c_Yard,X.n_Yard_lying,rfl,?_⟩
  refine ⟨y.l,nmK ns,rfl,hy.l,fun ob nf D hD=>uA (d:=y.l) (ob:=ob) (kvs:=nmK ns) (fun i xs σ' H'=>∃ v:Option V,σ'=[v,some (.ref y.p)]∧xs=(pick cl (ns.take i)).map Cell.v∧H' D=some (.lst xs)∧H' y.l=some (.frz ob (.dK (nmK ns)))∧∀ b o,H b=some o→b ≠ y.l→H' b=some o) ?_ (fun i xs σ' H' _ z=>by obtain ⟨_,_,_,_,z,_⟩:=z; exact z) ?_ ?_⟩
  · have nl:D ≠ y.l:=fun c=>by rw [c,zk] at hD; cases hD
    have hD':H D=none:=by rw [zt nl] at hD; exact hD
    exact ⟨none,rfl,rfl,zk,by rw [zt (Ne.symm nl),zk],fun b o e n=>by rw [zt (ze e hD'),zt n]; exact e⟩
  · rintro i kv xs σ' H' hi ⟨v,rfl,rfl,eD,el,sx⟩
    have nl0:D ≠ y.l:=fun c=>by rw [c,zk] at hD; cases hD
    have hD':H D=none:=by rw [zt nl0] at hD; exact hD
    rw [nmK,List.getElem?_map] at hi
    obtain ⟨n,hn,rfl⟩:=Option.map_eq_some_iff.mp hi
    have hlt:=hy.lt n (List.mem_of_getElem? hn)
    obtain ⟨c,hc⟩:∃ c,cl[n]?=some c:=⟨_,List.getElem?_eq_getElem hlt⟩
    have nl:∀ {b:Addr} {o:HO},H b=some o→(∀ k,o ≠ .dK k)→b ≠ y.l:=fun e h z=>by rw [z,hy.l] at e; injection e with e; exact h _ e.symm
    have eo:=sx _ _ hy.o (nl hy.o (fun _ z=>nomatch z))
    have ek:=sx _ _ hy.k (nl hy.k (fun _ z=>nomatch z))
    walk_at "r"
    refine ⟨_,_,_,_,_,rfl,eo,X.c_Yard,X.n_Yard_known,rfl,?_⟩
    walk_at "r"
    refine zD ek (v:=c.v) (zI (by rw [List.getElem?_map,hc]; rfl)) ?_
    have hi3:=(List.getElem?_eq_some_iff.mp hn).1
    have l1:=Bt hy.up hy.lt
    have l2:=hy.lc
    have l3:=Ap (cl:=cl) (ns:=ns.take i)
    rw [List.length_take] at l3
    walk_at "r"
    refine zB eD (by rw [List.length_map]; omega) fun H3 x3 e3=>?_
    refine yv (by simp only [nmK,List.length_map]; exact hi3) ⟨_,rfl,rfl,by rw [Bn hn hc,List.map_append]; exact e3,x3 _ _ el (yf el eD (fun z=>nomatch z)),fun b o e n=>x3 _ _ (sx b o e n) (ze e hD')⟩
  · rintro xs σ' H' ⟨v,rfl,rfl,eD,el,sx⟩
    have nl0:D ≠ y.l:=fun c=>by rw [c,zk] at hD; cases hD
    have hD':H D=none:=by rw [zt nl0] at hD; exact hD
    refine ⟨y.l,ob,nmK ns,nf,el,?_⟩
    rw [show ns.take (nmK ns).length=ns by rw [nmK,List.length_map,List.take_length]] at eD
    refine q D _ (fun b o e=>?_) hD' (by rw [zt nl0]; exact eD)
    by_cases c:b=y.l
    · rw [c,zk]; rw [c,hy.l] at e; exact e
    · rw [zt c]; exact sx b o e c
theorem ok_length {f:Addr} {fd:FuncData} {its:List Value} (F:FunD K "length" "length" s_length f fd its) (B:Bl mg)  (o_with_sign_of:Own P w K mg base 1 "with_sign_of" ["divisor","bottom"] [] sp_with_sign_of) (o_common_divisor:Own P w K mg base 1 "common_divisor" ["one","other"] [] sp_common_divisor) (o_is_whole:Own P w K mg base 1 "is_whole" ["thing"] [] sp_is_whole):FnOk P w K mg base CX0 2 f fd ["a","b","n"] sp_length:=by
  refine F.ok (k:=1) sc_length (fun vs H Q E h=>?_) (fun cdv A outer s H vs Q E hr h=>?_)
  · obtain ⟨a,b,n,rfl,hn,hb,⟨ha8,hb8⟩,q⟩:=h
    rfl
  obtain ⟨a,b,n,rfl,hn,hb,⟨ha8,hb8⟩,q⟩:=h
  refine ⟨_,(zc (zE (z8 (PW.pt (yH (zT (zi o_is_whole hr rfl (za (pv 0) zd))) (yH (zT (zi o_is_whole hr rfl (za (pv 1) zd))) (yn (zT (zi o_is_whole hr rfl (za (pv 2) zd)))))))) (zf yK) zn) (zc (zE (zj zY (pv 2) zb (zp _)) (zf yK) zn) (zc (zv (i:=3) sc_length.nd rfl (Or.inl rfl) (zi o_with_sign_of hr rfl (za (zi o_common_divisor hr rfl (za (zi o_common_divisor hr rfl (za (pv 2) (za (pv 0) zd))) (za (pv 1) zd))) (za (pv 2) zd)))) (zf (zm (zK (za (zr yk (pv 0) (pv 3)) (za (zr yk (pv 1) (pv 3)) (za (zr yk (pv 2) (pv 3)) zd))))))))),?_⟩
  rw [show zJ ["a","b","n","divisor"] [.int a,.int b,.int n]=[some (.int a),some (.int b),some (.int n),none] from rfl]
  have hc:∀ x,CFd x (gd a b n):=fun x=>⟨FX hn,Nat.lt_of_le_of_lt (FA hn hb).log (by decide)⟩
  walk_at "r"
  refine if_d (fun c=>absurd c hn) (fun _=>?_)
  walk_at "r"
  · exact zP (by simp) fun p H' s e=>q p H' s e
  all_goals exact hc _
theorem ok_added {f:Addr} {fd:FuncData} (F:Fun K "added" "added" s_added f fd) (B:Bl mg)  (o_common_divisor:Own P w K mg base 1 "common_divisor" ["one","other"] [] sp_common_divisor):FnOk P w K mg base CX0 2 f fd ["one","other"] sp_added:=by
  refine F.ok (k:=1) sc_added (fun vs H Q E h=>?_) (fun cdv A outer s H vs Q E hr h=>?_)
  · obtain ⟨p,p',x,y,z,x',y',z',rfl,h1,h2,n1,n2,k1,k2,⟨b1,b2,b3,b4,b5,b6⟩,q⟩:=h
    rfl
  obtain ⟨p,p',x,y,z,x',y',z',rfl,h1,h2,n1,n2,k1,k2,⟨b1,b2,b3,b4,b5,b6⟩,q⟩:=h
  refine ⟨_,(zc (zv (i:=2) sc_added.nd rfl (Or.inl rfl) (zi o_common_divisor hr rfl (za (zh zg (pv 0) zb (fun _ _=>rfl)) (za (zh zg (pv 1) zb (fun _ _=>rfl)) zd)))) (zc (zv (i:=3) sc_added.nd rfl (Or.inl rfl) (zr yk (zh zg (pv 1) zb (fun _ _=>rfl)) (pv 2))) (zc (zv (i:=4) sc_added.nd rfl (Or.inl rfl) (zr yk (zh zg (pv 0) zb (fun _ _=>rfl)) (pv 2))) (zc (zv (i:=5) sc_added.nd rfl (Or.inl rfl) (zr zZ (zr zx (zh zg (pv 0) zb (fun _ _=>rfl)) (pv 3)) (zr zx (zh zg (pv 1) zb (fun _ _=>rfl)) (pv 4)))) (zc (zv (i:=6) sc_added.nd rfl (Or.inl rfl) (zr zZ (zr zx (zh zg (pv 0) zb (fun _ _=>rfl)) (pv 3)) (zr zx (zh zg (pv 1) zb (fun _ _=>rfl)) (pv 4)))) (zc (zv (i:=7) sc_added.nd rfl (Or.inl rfl) (zi o_common_divisor hr rfl (za (zi o_common_divisor hr rfl (za (pv 2) (za (pv 5) zd))) (za (pv 6) zd)))) (zf (zm (zK (za (zr yk (pv 5) (pv 7)) (za (zr yk (pv 6) (pv 7)) (za (zr zx (pv 4) (zr yk (zh zg (pv 1) zb (fun _ _=>rfl)) (pv 7))) zd)))))))))))),?_⟩
  rw [show zJ ["one","other","shared","ahead","behind","a","b","left"] [.ref p,.ref p']=[some (.ref p),some (.ref p'),none,none,none,none,none,none] from rfl]
  obtain ⟨as1,al1,ea,eb,en⟩:=Ec n1 n2 k1 k2
  have gb:Bd 3900 (aS z z'):=tM (by omega) b3
  have lb:Bd 3900 (aL x y z x' y' z'):=tM (by have:=Int.gcd_pos_of_ne_zero_left (aA x z x' z') (show aS z z' ≠ 0 by omega); omega) (tM (by omega) gb)
  have ba8:Bd 8192 (aA x z x' z'):=Bd.mono (Bd.add (k:=7800) (b1.mul (b6.fdiv _)) (b4.mul (b3.fdiv _))) (by decide)
  have bb8:Bd 8192 (aA y z y' z'):=Bd.mono (Bd.add (k:=7800) (b2.mul (b6.fdiv _)) (b5.mul (b3.fdiv _))) (by decide)
  have hs:∀ t,CFd t (aS z z'):=fun t=>⟨by omega,Nat.lt_of_le_of_lt gb.log (by decide)⟩
  have hl:∀ t,CFd t (aL x y z x' y' z'):=fun t=>⟨by omega,Nat.lt_of_le_of_lt lb.log (by decide)⟩
  rw [← ea,← eb,← en] at q
  walk_at "r"
  · exact zP (by simp) fun r H' s e=>q r H' s e
  all_goals first | exact hs _ | exact hl _
theorem ok_under {f:Addr} {fd:FuncData} (F:Fun K "under" "under" s_under f fd) (B:Bl mg)  (o_is_above_nought:Own P w K mg base 1 "is_above_nought" ["d","a","b"] [] sp_is_above_nought):FnOk P w K mg base CX0 2 f fd ["d","one","other"] (sp_under K):=by
  refine F.ok (k:=1) Db (fun vs H Q E h=>?_) (fun cdv A outer s H vs Q E hr h=>?_)
  · obtain ⟨d,p,p',x,y,z,x',y',z',rfl,h1,h2,hd,⟨b1,b2,b3,b4,b5,b6⟩,q⟩:=h
    rfl
  obtain ⟨d,p,p',x,y,z,x',y',z',rfl,h1,h2,hd,⟨b1,b2,b3,b4,b5,b6⟩,q⟩:=h
  refine ⟨_,(zf (zm (zi o_is_above_nought hr rfl (za (pv 0) (za (zr xn (zr zx (zh zg (pv 2) zb (fun _ _=>rfl)) (zh zg (pv 1) zb (fun _ _=>rfl))) (zr zx (zh zg (pv 1) zb (fun _ _=>rfl)) (zh zg (pv 2) zb (fun _ _=>rfl)))) (za (zr xn (zr zx (zh zg (pv 2) zb (fun _ _=>rfl)) (zh zg (pv 1) zb (fun _ _=>rfl))) (zr zx (zh zg (pv 1) zb (fun _ _=>rfl)) (zh zg (pv 2) zb (fun _ _=>rfl)))) zd)))))),?_⟩
  rw [show zJ ["d","one","other"] [.int d,.ref p,.ref p']=[some (.int d),some (.ref p),some (.ref p')] from rfl]
  walk_at "r"
  exact wc hd (Bd.mono (by walk_at "bd") (by decide +kernel)) (Bd.mono (by walk_at "bd") (by decide +kernel)) q
theorem ok_undoing {f:Addr} {fd:FuncData} (F:Fun K "undoing" "undoing" s_undoing f fd) (B:Bl mg)  (o_Yard_board_ever:OwnM P w K mg base CX0 cs.Yard 1 "board_ever" ["self","name"] [] (sp_Yard_board_ever cs)):FnOk P w K mg base CX0 2 f fd ["yard","deed","names"] (sp_undoing cs):=by
  refine F.ok (k:=1) sc_undoing (fun vs H Q E h=>?_) (fun cdv A outer s H vs Q E hr h=>?_)
  · obtain ⟨y,d,tn,cl,ns,lg,p,a,e,n,c,m,m',rfl,hy,he,ha,hn,hc,q⟩:=h
    rfl
  obtain ⟨y,d,tn,cl,ns,lg,p,a,e,n,c,m,m',rfl,hy,he,ha,hn,hc,q⟩:=h
  refine ⟨_,(zc (zv (i:=3) sc_undoing.nd rfl (Or.inl rfl) (zh zg (pv 1) zb (fun _ _=>rfl))) (zc (zE (zj zY (pv 3) zG (zp _)) (zf (zm (zK (za zG (za (zh zo (pv 2) zb (fun _ _=>rfl)) (za (zh zo (pv 2) zb (fun _ _=>rfl)) zd)))))) zn) (zc (zE (zj zY (pv 3) zG (zp _)) (zf (zm (zK (za zG (za (zh zo (pv 2) zb (fun _ _=>rfl)) (za (zh zo (pv 2) zb (fun _ _=>rfl)) zd)))))) zn) (zc (zE (zj zY (pv 3) zG (zp _)) (zf (zm (zK (za zG (za (zh zo (pv 2) zb (fun _ _=>rfl)) (za (zh zg (wQ o_Yard_board_ever vZ hr (pv 0) (za (zh zg (pv 1) zb (fun _ _=>rfl)) zd)) zb (fun _ _=>rfl)) zd)))))) zn) (zc (zE (zj zY (pv 3) zG (zp _)) (zf (zm (zK (za zG (za (zh zo (pv 2) zb (fun _ _=>rfl)) (za (zh zg (wQ o_Yard_board_ever vZ hr (pv 0) (za (zh zg (pv 1) zb (fun _ _=>rfl)) zd)) zb (fun _ _=>rfl)) zd)))))) zn) (zc (zE (zj zY (pv 3) zG (zp _)) (zf (zm (zK (za zG (za (zh zo (pv 2) zb (fun _ _=>rfl)) (za (zh zg (pv 1) zb (fun _ _=>rfl)) zd)))))) zn) (zc (zE (zj zY (pv 3) zG (zp _)) (zf (zm (zK (za zG (za (zh zo (pv 2) zb (fun _ _=>rfl)) (za (zh zg (pv 1) zb (fun _ _=>rfl)) zd)))))) zn) (zf (zm (zK (za zG (za (zh zo (pv 2) zb (fun _ _=>rfl)) zd)))))))))))),?_⟩
  rw [show zJ ["yard","deed","names","word"] [.ref y.p,.ref p,.ref a]=[some (.ref y.p),some (.ref p),some (.ref a),none] from rfl]
  cases e with
  | cut al n1 s' =>
    obtain ⟨pq,h0,hs⟩:=he
    cases al with
    | false =>
      have h0:H p=some (.tup [.str (Str.ofString "across"),.int n1,.ref pq]):=h0
      have ha:H a=some (.lst [.int m,.int m']):=ha
      walk_at "r"
      refine if_d (fun _=>?_) (fun c=>absurd rfl c)
      walk_at "r"
      refine zC (by simp) fun r H1 nr s1 e1=>?_
      exact q r H1 s1 nr e1
    | true =>
      have h0:H p=some (.tup [.str (Str.ofString "along"),.int n1,.ref pq]):=h0
      have ha:H a=some (.lst [.int m,.int m']):=ha
      walk_at "r"
      refine if_d (fun c=>absurd c (by decide +kernel)) (fun _=>?_)
      walk_at "r"
      refine if_d (fun _=>?_) (fun c=>absurd rfl c)
      walk_at "r"
      refine zC (by simp) fun r H1 nr s1 e1=>?_
      exact q r H1 s1 nr e1
  | glue al n1 m1 =>
    have h0:=he
    cases al with
    | false =>
      have h0:H p=some (.tup [.str (Str.ofString "beside"),.int n1,.int m1]):=h0
      have ha:H a=some (.lst [.int m]):=ha
      walk_at "r"
      refine if_d (fun c=>absurd c (by decide +kernel)) (fun _=>?_)
      walk_at "r"
      refine if_d (fun c=>absurd c (by decide +kernel)) (fun _=>?_)
      walk_at "r"
      refine if_d (fun _=>?_) (fun c=>absurd rfl c)
      walk_at "r"
      have hn:n1=(n:Int):=hn
      subst hn
      refine ⟨_,_,_,rfl,hy.o,rfl,?_⟩
      walk_at "r"
      refine yU hy hc ?_
      have hc':=hy.at' c (List.mem_of_getElem? hc)
      have ht:=hc'.t
      walk_at "r"
      refine zC (by simp) fun r H1 nr s1 e1=>?_
      exact q r H1 s1 nr ⟨c.pw,e1,s1 _ _ hc'.w⟩
    | true =>
      have h0:H p=some (.tup [.str (Str.ofString "atop"),.int n1,.int m1]):=h0
      have ha:H a=some (.lst [.int m]):=ha
      walk_at "r"
      refine if_d (fun c=>absurd c (by decide +kernel)) (fun _=>?_)
      walk_at "r"
      refine if_d (fun c=>absurd c (by decide +kernel)) (fun _=>?_)
      walk_at "r"
      refine if_d (fun c=>absurd c (by decide +kernel)) (fun _=>?_)
      walk_at "r"
      refine if_d (fun _=>?_) (fun c=>absurd rfl c)
      walk_at "r"
      have hn:n1=(n:Int):=hn
      subst hn
      refine ⟨_,_,_,rfl,hy.o,rfl,?_⟩
      walk_at "r"
      refine yU hy hc ?_
      have hc':=hy.at' c (List.mem_of_getElem? hc)
      have ht:=hc'.t
      walk_at "r"
      refine zC (by simp) fun r H1 nr s1 e1=>?_
      exact q r H1 s1 nr ⟨c.ph,e1,s1 _ _ hc'.h⟩
  | shift al n1 k =>
    have h0:=he
    cases al with
    | false =>
      have h0:H p=some (.tup [.str (Str.ofString "stack"),.int n1,.int k]):=h0
      have ha:H a=some (.lst [.int m]):=ha
      walk_at "r"
      refine if_d (fun c=>absurd c (by decide +kernel)) (fun _=>?_)
      walk_at "r"
      refine if_d (fun c=>absurd c (by decide +kernel)) (fun _=>?_)
      walk_at "r"
      refine if_d (fun c=>absurd c (by decide +kernel)) (fun _=>?_)
      walk_at "r"
      refine if_d (fun c=>absurd c (by decide +kernel)) (fun _=>?_)
      walk_at "r"
      refine if_d (fun _=>?_) (fun c=>absurd rfl c)
      walk_at "r"
      refine zC (by simp) fun r H1 nr s1 e1=>?_
      exact q r H1 s1 nr e1
    | true =>
      have h0:H p=some (.tup [.str (Str.ofString "spread"),.int n1,.int k]):=h0
      have ha:H a=some (.lst [.int m]):=ha
      walk_at "r"
      refine if_d (fun c=>absurd c (by decide +kernel)) (fun _=>?_)
      walk_at "r"
      refine if_d (fun c=>absurd c (by decide +kernel)) (fun _=>?_)
      walk_at "r"
      refine if_d (fun c=>absurd c (by decide +kernel)) (fun _=>?_)
      walk_at "r"
      refine if_d (fun c=>absurd c (by decide +kernel)) (fun _=>?_)
      walk_at "r"
      refine if_d (fun c=>absurd c (by decide +kernel)) (fun _=>?_)
      walk_at "r"
      refine if_d (fun _=>?_) (fun c=>absurd rfl c)
      walk_at "r"
      refine zC (by simp) fun r H1 nr s1 e1=>?_
      exact q r H1 s1 nr e1
  | turn n1 =>
    have h0:=he
    have h0:H p=some (.tup [.str (Str.ofString "turn"),.int n1]):=h0
    have ha:H a=some (.lst [.int m]):=ha
    walk_at "r"
    refine if_d (fun c=>absurd c (by decide +kernel)) (fun _=>?_)
    walk_at "r"
    refine if_d (fun c=>absurd c (by decide +kernel)) (fun _=>?_)
    walk_at "r"
    refine if_d (fun c=>absurd c (by decide +kernel)) (fun _=>?_)
    walk_at "r"
    refine if_d (fun c=>absurd c (by decide +kernel)) (fun _=>?_)
    walk_at "r"
    refine if_d (fun c=>absurd c (by decide +kernel)) (fun _=>?_)
    walk_at "r"
    refine if_d (fun c=>absurd c (by decide +kernel)) (fun _=>?_)
    walk_at "r"
    refine zC (by simp) fun r H1 nr s1 e1=>?_
    exact q r H1 s1 nr e1
theorem dig {ds:List Int} {m:Int} (hl:(ds.length:Int)=m) (hd:∀ x ∈ ds,0 ≤ x∧x < 1000000) (i:Int) (h0:0 ≤ i) (h1:i < m):∃ x:Int,atI (ds.map V.int) i=some (.int x)∧0 ≤ x∧x < 1000000:=by
  obtain ⟨x,hx,e⟩:=Av (xs:=ds) (i:=i) h0 (by omega)
  exact ⟨x,e,hd x hx⟩
theorem ok__law_digits {f:Addr} {fd:FuncData} (F:Fun K "_law_digits" "_law_digits" s__law_digits f fd) (B:Bl mg)  (o__law_great:Own P w K mg base 1 "_law_great" ["_law_cell_here","_law_k"] [] sp__law_great):FnOk P w K mg base CX0 2 f fd ["_law_cell_here","_law_many"] sp__law_digits:=by
  refine F.ok (k:=1) sc__law_digits (fun vs H Q E h=>?_) (fun cdv A outer s H vs Q E hr h=>?_)
  · obtain ⟨c,m,rfl,hc,⟨m0,m1⟩,q⟩:=h
    rfl
  obtain ⟨c,m,rfl,hc,⟨m0,m1⟩,q⟩:=h
  refine ⟨_,(zc (zv (i:=2) sc__law_digits.nd rfl (Or.inl rfl) (zU zd)) (zc (zv (i:=3) sc__law_digits.nd rfl (Or.inl rfl) (zr xG (pv 0) zb)) (zc (yE PassesOwn.never rfl (yF rfl B.range (za (pv 1) zd)) (zw (i:=4) sc__law_digits.nd rfl (Or.inl rfl)) (zf (zE (PW.pt (yH (zj zY (zr zQ (pv 0) zb) zb (zp _)) (yn (zj wb (pv 3) zb (zp _))))) (zc (yh (uw PySem.F.plainAttrs_list PySem.F.slot_list_append PySem.F.type_list_append ym (pv 2) (za (zr zQ (pv 3) (zr xi zb zb)) zd))) (zf (zv (i:=3) sc__law_digits.nd rfl (Or.inl rfl) (zr xG (pv 3) (zr xi zb zb))))) (zf (yh (uw PySem.F.plainAttrs_list PySem.F.slot_list_append PySem.F.type_list_append ym (pv 2) (za (zr zQ (zi o__law_great hr rfl (za (pv 0) (za (pv 4) zd))) (zr xi zb zb)) zd))))))) (zf (zm (pv 2)))))),?_⟩
  rw [show zJ ["_law_cell_here","_law_many","_law_found","_law_number","_law_k"] [.int c,.int m]=[some (.int c),some (.int m),none,none,none] from rfl]
  have e6:(10:Int) ^ (6:Int).toNat=1000000:=by decide +kernel
  walk_at "r"
  refine zA (by simp) fun l H1 hl s1 e1=>?_
  walk_at "r"
  refine vI ?_
  walk_at "r"
  refine ⟨m,rfl,by omega,by omega,xD (lo:=0) (n:=m.toNat) (fun i σ H'=>∃ (n:Int) (v:Option V) (ds:List Int),σ=[some (.int c),some (.int m),some (.ref l),some (.int n),v]∧SameX l H1 H'∧H' l=some (.lst (ds.map V.int))∧ds.length=i∧(∀ x ∈ ds,0 ≤ x∧x < 1000000)∧Bd 1048576 n) ⟨_,_,[],rfl,fun b o e _=>e,e1,rfl,fun x hx=>absurd hx (by simp),u8 hc⟩ ?_ ?_⟩
  · rintro i σ H' hi ⟨n,v,ds,rfl,sx,el,hlen,hds,nb⟩
    walk_at "r"
    refine if_d (fun c1=>?_) (fun c1=>?_)
    · walk_at "r"
      refine if_d (fun c2=>?_) (fun c2=>?_)
      · walk_at "r"
        rw [e6]
        refine zB el (by rw [List.length_map]; omega) fun H2 sx2 e2=>?_
        walk_at "r"
        rw [e6]
        refine ⟨n / 1000000,_,ds ++ [n % 1000000],rfl,sx.trans sx2,by rw [List.map_append]; exact e2,by rw [List.length_append,hlen]; rfl,fun x hx=>?_,u8 nb⟩
        rcases List.mem_append.mp hx with h | h
        · exact hds x h
        · have:x=n % 1000000:=by simpa using h
          subst this
          omega
      · walk_at "r"
        refine yI hc (xq 64 (by omega) (by omega) (by decide)) fun r r0 r1=>?_
        walk_at "r"
        rw [e6]
        refine zB el (by rw [List.length_map]; omega) fun H2 sx2 e2=>?_
        walk_at "r"
        refine ⟨n,_,ds ++ [r % 1000000],rfl,sx.trans sx2,by rw [List.map_append]; exact e2,by rw [List.length_append,hlen]; rfl,fun x hx=>?_,nb⟩
        rcases List.mem_append.mp hx with h | h
        · exact hds x h
        · have:x=r % 1000000:=by simpa using h
          subst this
          omega
    · walk_at "r"
      refine yI hc (xq 64 (by omega) (by omega) (by decide)) fun r r0 r1=>?_
      walk_at "r"
      rw [e6]
      refine zB el (by rw [List.length_map]; omega) fun H2 sx2 e2=>?_
      walk_at "r"
      refine ⟨n,_,ds ++ [r % 1000000],rfl,sx.trans sx2,by rw [List.map_append]; exact e2,by rw [List.length_append,hlen]; rfl,fun x hx=>?_,nb⟩
      rcases List.mem_append.mp hx with h | h
      · exact hds x h
      · have:x=r % 1000000:=by simpa using h
        subst this
        omega
  · rintro σ H' ⟨n,v,ds,rfl,sx,el,hlen,hds,nb⟩
    walk_at "r"
    exact q l H' ds (fun b o e=>sx b o (s1 b o e) (ze e hl)) el (by omega) hds
theorem ok__law_lowest {f:Addr} {fd:FuncData} (F:Fun K "_law_lowest" "_law_lowest" s__law_lowest f fd) (B:Bl mg)  (o__law_divisor:Own P w K mg base 1 "_law_divisor" ["_law_one","_law_other"] [] sp__law_divisor):FnOk P w K mg base CX0 2 f fd ["_law_a","_law_b","_law_n"] sp__law_lowest:=by
  refine F.ok (k:=1) sc__law_lowest (fun vs H Q E h=>?_) (fun cdv A outer s H vs Q E hr h=>?_)
  · obtain ⟨a,b,n,rfl,hn,hb,q⟩:=h
    rfl
  obtain ⟨a,b,n,rfl,hn,hb,q⟩:=h
  refine ⟨_,(zc (zv (i:=3) sc__law_lowest.nd rfl (Or.inl rfl) (zi o__law_divisor hr rfl (za (zi o__law_divisor hr rfl (za (pv 0) (za (pv 1) zd))) (za (pv 2) zd)))) (zc (wM (zE (zj vO (pv 2) zb (zp _)) (zf (zv (i:=3) sc__law_lowest.nd rfl (Or.inl rfl) (zr xn zb (pv 3)))) zn)) (zf (zm (zK (za (zr yk (pv 0) (pv 3)) (za (zr yk (pv 1) (pv 3)) (za (zr yk (pv 2) (pv 3)) zd)))))))),?_⟩
  rw [show zJ ["_law_a","_law_b","_law_n","_law_share_here"] [.int a,.int b,.int n]=[some (.int a),some (.int b),some (.int n),none] from rfl]
  have hc:∀ x,CFd x (gd a b n):=fun x=>⟨FX hn,Nat.lt_of_le_of_lt (FA hn hb).log (by decide)⟩
  walk_at "r"
  refine tN (T:=fun σ' H'=>σ'=[some (.int a),some (.int b),some (.int n),some (.int (gd a b n))]∧H'=H) ?_ ?_
  · walk_at "r"
    refine if_d (fun c=>?_) (fun c=>?_)
    · walk_at "r"
      refine ⟨?_,rfl⟩
      have e:(0:Int) - ((Int.gcd (Int.gcd a b) n:Nat):Int)=gd a b n:=by
        unfold gd
        rw [if_pos c,Gj]
        omega
      rw [e]
    · walk_at "r"
      refine ⟨?_,rfl⟩
      have e:((Int.gcd (Int.gcd a b) n:Nat):Int)=gd a b n:=by
        unfold gd
        rw [if_neg c,Gj]
      rw [e]
  rintro σ' H' ⟨rfl,rfl⟩
  walk_at "r"
  · exact zP (by simp) fun p H' s e=>q p H' s e
  all_goals exact hc _
theorem ok__law_root {f:Addr} {fd:FuncData} (F:Fun K "_law_root" "_law_root" s__law_root f fd) (B:Bl mg)  (o__law_great:Own P w K mg base 1 "_law_great" ["_law_cell_here","_law_k"] [] sp__law_great):FnOk P w K mg base CX0 2 f fd ["_law_cell_here","_law_k"] sp__law_root:=by
  refine F.ok (k:=1) sc__law_root (fun vs H Q E h=>?_) (fun cdv A outer s H vs Q E hr h=>?_)
  · obtain ⟨c,k,rfl,hc,hk,q⟩:=h
    rfl
  obtain ⟨c,k,rfl,hc,hk,q⟩:=h
  refine ⟨_,(zc (tK (i:=2) sc__law_root.nd rfl rfl ["_law_d"] [] rfl (ul rfl B.range (za zb (za zb zd))) (fun _ _ _ _ _=>(zw (i:=0) (show List.Nodup (α:=Str) ["_law_d"] by decide +kernel) rfl (Or.inl rfl))) (fun _ _ _ _ _=>(vY (zj (r:=rIn K true) wy (pv 0) (zK (za zb (za zb (za zb (za zb (za zb (za zb (za zb (za zb zd))))))))) (by with_unfolding_all rfl)))) (fun _ _ _ _ _=>(pv 0))) (zf (zm (zh zo (pv 2) (zr zQ (zr xG (zi o__law_great hr rfl (za (pv 0) (za (pv 1) zd))) zb) (zu zy rfl B.len PySem.boot_len (za (pv 2) zd))) (fun _ _=>rfl))))),?_⟩
  rw [show zJ ["_law_cell_here","_law_k","_law_some"] [.int c,.int k]=[some (.int c),some (.int k),none] from rfl]
  walk_at "r"
  refine t9 ?_
  walk_at "r"
  refine ⟨2,100,rfl,by decide,fun D hD=>yW (fun i xs σ' H'=>(∃ v,σ'=[v])∧xs=(yD i).map V.int∧H' D=some (.lst xs)∧SameX D H H') ⟨⟨none,rfl⟩,rfl,zk,fun b o e n=>by rw [zt n]; exact e⟩ ?_ ?_⟩
  · rintro i xs σ' H' hi ⟨⟨v,rfl⟩,rfl,eD,sx⟩
    have hi:i < 98:=hi
    walk_at "r"
    refine zP (by simp) fun p H2 s2 e2=>?_
    refine Dq e2 rfl rfl ?_
    rw [EQ]
    walk_at "r"
    have hlen:(yD i).length ≤ i:=Nat.le_trans (List.length_filter_le ..) (by simp)
    by_cases hs:sqs.contains ((2:Int) + (i:Int))=true
    · rw [hs]
      walk_at "r"
      refine yv hi ⟨⟨_,rfl⟩,rfl,?_,sx.trans (s2.sameX D)⟩
      rw [ww,if_pos hs,List.append_nil]
      exact s2 _ _ eD
    · rw [Bool.not_eq_true _ |>.mp hs]
      walk_at "r"
      refine zB (s2 _ _ eD) (by rw [List.length_map]; omega) fun H3 sx3 e3=>?_
      refine yv hi ⟨⟨_,rfl⟩,rfl,?_,(sx.trans (s2.sameX D)).trans sx3⟩
      rw [ww,if_neg hs,List.map_append]
      exact e3
  · rintro xs σ' H' ⟨_,rfl,eD,sx⟩
    have eD:H' D=some (.lst ((yD 98).map V.int)):=eD
    have s':Same H H':=fun b o e=>sx b o e (ze e hD)
    walk_at "r"
    refine yI hc hk fun r r0 r1=>?_
    walk_at "r"
    have hl:((List.map V.int (yD 98)).length:Int)=90:=by rw [List.length_map,u5]; rfl
    rw [hl]
    walk_at "r"
    obtain ⟨d,hd,e⟩:=Av (xs:=yD 98) (i:=r / 7 % 90) (by omega) (by rw [u5]; omega)
    exact zD eD e (q d H' (AZ (Nat.le_refl _) hd) s')
theorem ok__law_is_length {f:Addr} {fd:FuncData} (F:Fun K "_law_is_length" "_law_is_length" s__law_is_length f fd) (B:Bl mg)  (o__law_whole:Own P w K mg base 1 "_law_whole" ["_law_found"] [] sp__law_whole):FnOk P w K mg base CX0 2 f fd ["_law_found"] sp__law_is_length:=by
  refine F.ok (k:=1) xZ (fun vs H Q E h=>?_) (fun cdv A outer s H vs Q E hr h=>?_)
  · obtain ⟨p,s,rfl,h1,q⟩:=h
    rfl
  obtain ⟨p,s,rfl,h1,q⟩:=h
  refine ⟨_,(zc (zE (PW.pt (yZ (z8 (zT (zu zN rfl B.isinstance zH (za (pv 0) (za (yw (v:=.ty "tuple") rfl B.tuple xV rfl) zd))))) (y8 (zj uq (zu zy rfl B.len PySem.boot_len (za (pv 0) zd)) zb (zp _))))) (zf (zm yT)) zn) (zf (zm (wo (zi o__law_whole hr rfl (za (zh zg (pv 0) zb (fun _ _=>rfl)) zd)) (wo (zi o__law_whole hr rfl (za (zh zg (pv 0) zb (fun _ _=>rfl)) zd)) (wq (zi o__law_whole hr rfl (za (zh zg (pv 0) zb (fun _ _=>rfl)) zd)))))))),?_⟩
  rw [show zJ ["_law_found"] [.ref p]=[some (.ref p)] from rfl]
  have h1':H p=some (.tup [.int s.x,.int s.y,.int s.z]):=h1
  walk_at "r"
  refine xr (by rfl) ?_
  walk_at "r"
  exact q
theorem ok_Yard_check_names {f:Addr} {fd:FuncData} (F:Fun K "check_names" "Yard.check_names" s_Yard_check_names f fd) (B:Bl mg) (X:Xs K mg cs) (o_is_whole:Own P w K mg base 1 "is_whole" ["thing"] [] sp_is_whole):FnOk P w K mg base CX0 2 f fd ["self","names"] (sp_Yard_check_names cs):=by
  refine F.ok (k:=1) sc_Yard_check_names (fun vs H Q E h=>?_) (fun cdv A outer s H vs Q E hr h=>?_)
  · obtain ⟨y,d,tn,cl,ns,lg,a,ms,rfl,hy,ha,hm,hn,hl,q⟩:=h
    rfl
  obtain ⟨y,d,tn,cl,ns,lg,a,ms,rfl,hy,ha,hm,hn,hl,q⟩:=h
  refine ⟨_,(zc (yE PassesOwn.never rfl (zW (pv 1)) (zw (i:=2) sc_Yard_check_names.nd rfl (Or.inl rfl)) (zf (zE (PW.pt (yZ (z8 (zT (zi o_is_whole hr rfl (za (pv 2) zd)))) (y8 (Cu (wK (yO hr) (pv 2) (yd (K:=K) rfl (pv 0) rfl)))))) (zf yK) zn))) (zf (zE (PW.pt (yH (zj zY (zu zy rfl B.len PySem.boot_len (za (pv 1) zd)) zb (zp _)) (yn (zj zY (zh zo (pv 1) zb (fun _ _=>rfl)) (zh zo (pv 1) zb (fun _ _=>rfl)) (zp _))))) (zf yK) zn))),?_⟩
  rw [show zJ ["self","names","name"] [.ref y.p,.ref a]=[some (.ref y.p),some (.ref a),none] from rfl]
  refine Fu ?_
  refine wn ?_
  walk_at "r"
  refine ⟨a,rfl,⟨_,SqL.of ha⟩,yM (K:=K) (a:=a) (xs:=ms.map V.int) (fun i σ H'=>∃ v,σ=[some (.ref y.p),some (.ref a),v]∧H'=H) ⟨none,rfl,rfl⟩ (fun i σ H' _ ⟨_,_,e⟩=>by rw [e]; exact SqL.of ha) ?_ ?_⟩
  · rintro i x σ H' hi ⟨v,rfl,rfl⟩
    obtain ⟨m,hm',rfl⟩:=List.mem_map.mp (List.mem_of_getElem? hi)
    obtain ⟨n,hn',rfl⟩:=hm m hm'
    walk_at "r"
    refine ⟨_,_,_,_,_,rfl,hy.o,X.c_Yard,X.n_Yard_lying,rfl,?_⟩
    refine ⟨y.l,_,rfl,DGet.k (k:=.inl (n:Int)) hy.l,?_⟩
    rw [vM hn',show (!(some (V.bl true)).isSome)=false from rfl]
    walk_at "r"
    exact ⟨_,rfl,rfl⟩
  · rintro σ H' ⟨v,rfl,rfl⟩
    walk_at "r"
    rcases ms with _ | ⟨m1,_ | ⟨m2,_ | ⟨m3,ms⟩⟩⟩
    · refine if_d (fun c=>absurd c (by simp)) (fun _=>?_)
      walk_at "r"
      exact q
    · refine if_d (fun c=>absurd c (by simp)) (fun _=>?_)
      walk_at "r"
      exact q
    · have ha:H' a=some (.lst [.int m1,.int m2]):=ha
      refine if_d (fun _=>?_) (fun c=>absurd (by simp) c)
      walk_at "r"
      have ne:m1 ≠ m2:=by simpa using hn
      refine if_d (fun c=>absurd c ne) (fun _=>?_)
      walk_at "r"
      exact q
    · simp at hl
theorem ok_taken {f:Addr} {fd:FuncData} (F:Fun K "taken" "taken" s_taken f fd) (B:Bl mg)  (o_added:Own P w K mg base 2 "added" ["one","other"] [] sp_added):FnOk P w K mg base CX0 3 f fd ["one","other"] sp_taken:=by
  refine F.ok (k:=2) CO (fun vs H Q E h=>?_) (fun cdv A outer s H vs Q E hr h=>?_)
  · obtain ⟨p,p',x,y,z,x',y',z',rfl,h1,h2,n1,n2,k1,k2,⟨b1,b2,b3,b4,b5,b6⟩,q⟩:=h
    rfl
  obtain ⟨p,p',x,y,z,x',y',z',rfl,h1,h2,n1,n2,k1,k2,⟨b1,b2,b3,b4,b5,b6⟩,q⟩:=h
  refine ⟨_,(zf (zm (zi o_added hr rfl (za (pv 0) (za (zK (za (vS xU (zh zg (pv 1) zb (fun _ _=>rfl))) (za (vS xU (zh zg (pv 1) zb (fun _ _=>rfl))) (za (zh zg (pv 1) zb (fun _ _=>rfl)) zd)))) zd))))),?_⟩
  rw [show zJ ["one","other"] [.ref p,.ref p']=[some (.ref p),some (.ref p')] from rfl]
  walk_at "r"
  refine zP (by simp) fun t H2 s2 e2=>?_
  walk_at "r"
  exact Co (s2 _ _ h1) e2 n1 n2 k1 (by rw [Gw]; exact k2) b1 b2 b3 b4.neg b5.neg b6 fun r H' s' e'=>q r H' (s2.trans s') e'
theorem ok_is_length {f:Addr} {fd:FuncData} (F:Fun K "is_length" "is_length" s_is_length f fd) (B:Bl mg)  (o_length:Own P w K mg base 2 "length" ["a","b","n"] [] sp_length) (o_is_whole:Own P w K mg base 1 "is_whole" ["thing"] [] sp_is_whole):FnOk P w K mg base CX0 3 f fd ["thing"] sp_is_length:=by
  refine F.ok (k:=2) uZ (fun vs H Q E h=>?_) (fun cdv A outer s H vs Q E hr h=>?_)
  · obtain ⟨p,s,rfl,h1,ok,q⟩:=h
    rfl
  obtain ⟨p,s,rfl,h1,ok,q⟩:=h
  refine ⟨_,(zc (zE (PW.pt (yZ (z8 (zT (zu zN rfl B.isinstance zH (za (pv 0) (za (yw (v:=.ty "tuple") rfl B.tuple xV rfl) zd))))) (y8 (zj uq (zu zy rfl B.len PySem.boot_len (za (pv 0) zd)) zb (zp _))))) (zf (zm yT)) zn) (zc (zE (PW.pt (yZ (z8 (zT (zu (B3 rfl) rfl B.all Fc (za (yi ["number"] [] rfl (Gr (pv 0)) (fun _ _ _ _ _=>(zw (i:=0) (show List.Nodup (α:=Str) ["number"] by decide +kernel) rfl (Or.inl rfl))) (fun _ _ _ _ _=>zR) (fun _ _ _ _ _=>(zi o_is_whole hr rfl (za (pv 0) zd)))) zd)))) (y8 (zj vO (zh zg (pv 0) zb (fun _ _=>rfl)) zb (zp _))))) (zf (zm yT)) zn) (zf (zm (zO (A7 hr.units) (zi o_length hr rfl (za (zh zg (pv 0) zb (fun _ _=>rfl)) (za (zh zg (pv 0) zb (fun _ _=>rfl)) (za (zh zg (pv 0) zb (fun _ _=>rfl)) zd)))) (pv 0) (zp _)))))),?_⟩
  rw [show zJ ["thing"] [.ref p]=[some (.ref p)] from rfl]
  have z1:=ok.z1
  walk_at "r"
  refine xr (by rfl) ?_
  walk_at "r"
  refine Ea ?_
  walk_at "r"
  refine ⟨p,rfl,⟨_,SqT.of h1⟩,fun D hD=>CI (ys:=[V.int s.x,V.int s.y,V.int s.z]) (fun i ys σ' H'=>(∃ v,σ'=[v])∧ys=([V.int s.x,V.int s.y,V.int s.z].take i).map (fun _=>V.bl true)∧H' D=some (.lst ys)∧SameX D H H') ⟨⟨none,rfl⟩,rfl,zk,fun b o e n=>by rw [zt n]; exact e⟩ (fun i ys σ' H' _ p=>SqT.of (p.2.2.2 _ _ h1 (ze h1 hD))) ?_ ?_⟩
  · rintro i x ys σ' H' hi ⟨⟨v,rfl⟩,rfl,eD,sx⟩
    obtain ⟨n,rfl⟩:∃ n:Int,x=.int n:=by
      have:=List.mem_of_getElem? hi
      simp only [List.mem_cons,List.not_mem_nil,or_false] at this
      rcases this with rfl | rfl | rfl <;> exact ⟨_,rfl⟩
    have hi3:=(List.getElem?_eq_some_iff.mp hi).1
    walk_at "r"
    refine zB eD (by rw [List.length_map,List.length_take]; simp only [List.length_cons,List.length_nil] at hi3 ⊢; omega) fun H3 sx3 e3=>?_
    refine yv hi3 ⟨⟨_,rfl⟩,rfl,?_,sx.trans sx3⟩
    rw [List.take_succ,hi,List.map_append]
    exact e3
  · rintro ys σ' H' ⟨_,rfl,eD,sx⟩
    have s':Same H H':=fun b o e=>sx b o e (ze e hD)
    have h1':=s' _ _ h1
    have eD':H' D=some (.lst ([true,true,true].map V.bl)):=eD
    walk_at "r"
    refine Gh (SqL.of eD') ?_
    rw [show ([true,true,true]:List Bool).all id=true from rfl]
    walk_at "r"
    refine if_d (fun c=>absurd c (by omega)) (fun _=>?_)
    walk_at "r"
    refine vR rfl ok.ne (ok.bz.mono (by decide)) (fun r H2 s2 e2=>?_) (ok.bx.mono (by decide)) (ok.by'.mono (by decide))
    walk_at "r"
    refine EW e2 (s2 _ _ h1') ?_
    exact bl_q (decide_eq_true (Du ok.z1 ok.g)) (q H2 (s'.trans s2))
theorem ok_glued_beside {f:Addr} {fd:FuncData} (F:Fun K "glued_beside" "glued_beside" s_glued_beside f fd) (B:Bl mg)  (o_added:Own P w K mg base 2 "added" ["one","other"] [] sp_added):FnOk P w K mg base CX0 3 f fd ["one","other"] sp_glued_beside:=by
  refine F.ok (k:=2) wX (fun vs H Q E h=>?_) (fun cdv A outer s H vs Q E hr h=>?_)
  · obtain ⟨c,c',rfl,hc,hc',eh,okw,oks,q⟩:=h
    rfl
  obtain ⟨c,c',rfl,hc,hc',eh,okw,oks,q⟩:=h
  refine ⟨_,(zc (zE (zj (D2 hr.units) (zh zg (pv 0) zb (fun _ _=>rfl)) (zh zg (pv 1) zb (fun _ _=>rfl)) (zp _)) (zf yK) zn) (zf (zm (zK (za (zi o_added hr rfl (za (zh zg (pv 0) zb (fun _ _=>rfl)) (za (zh zg (pv 1) zb (fun _ _=>rfl)) zd))) (za (zh zg (pv 0) zb (fun _ _=>rfl)) zd)))))),?_⟩
  rw [show zJ ["one","other"] [.ref c.p,.ref c'.p]=[some (.ref c.p),some (.ref c'.p)] from rfl]
  have ct:=hc.t
  have ct':=hc'.t
  have cw:H c.pw=some (.tup [.int c.b.w.x,.int c.b.w.y,.int c.b.w.z]):=hc.w
  have cw':H c'.pw=some (.tup [.int c'.b.w.x,.int c'.b.w.y,.int c'.b.w.z]):=hc'.w
  have ch:H c.ph=some (.tup [.int c.b.h.x,.int c.b.h.y,.int c.b.h.z]):=hc.h
  have ch':H c'.ph=some (.tup [.int c'.b.h.x,.int c'.b.h.y,.int c'.b.h.z]):=hc'.h
  walk_at "r"
  refine GX ch ch' ?_
  rw [eh]
  walk_at "r"
  refine AG (fun c=>absurd ⟨rfl,rfl,rfl⟩ c) (fun _=>?_)
  walk_at "r"
  refine Co cw cw' okw.z1 oks.z1 okw.g oks.g (okw.bx.mono (by decide)) (okw.by'.mono (by decide)) (okw.bz.mono (by decide)) (oks.bx.mono (by decide)) (oks.by'.mono (by decide)) (oks.bz.mono (by decide)) fun r2 H2 s2 e2=>?_
  have ct2:=s2 _ _ ct
  walk_at "r"
  refine zC (by simp) fun r3 H3 hr3 s3 e3=>?_
  exact q ⟨r3,r2,c.ph,⟨adS c.b.w c'.b.w,c.b.h⟩⟩ H3 (s2.trans s3) (Same.nn s2 hr3) ⟨e3,s3 _ _ e2,s3 _ _ (s2 _ _ hc.h)⟩ rfl
theorem ok_stacked {f:Addr} {fd:FuncData} (F:Fun K "stacked" "stacked" s_stacked f fd) (B:Bl mg)  (o_length:Own P w K mg base 2 "length" ["a","b","n"] [] sp_length):FnOk P w K mg base CX0 3 f fd ["one","many"] sp_stacked:=by
  refine F.ok (k:=2) sc_stacked (fun vs H Q E h=>?_) (fun cdv A outer s H vs Q E hr h=>?_)
  · obtain ⟨c,k,rfl,hc,k1,bk,okw,okh,q⟩:=h
    rfl
  obtain ⟨c,k,rfl,hc,k1,bk,okw,okh,q⟩:=h
  refine ⟨_,(zc (zv (i:=2) sc_stacked.nd rfl (Or.inl rfl) (zh zg (pv 0) zb (fun _ _=>rfl))) (zc (zv (i:=3) sc_stacked.nd rfl (Or.inl rfl) (zh zg (pv 0) zb (fun _ _=>rfl))) (zf (zm (zK (za (zi o_length hr rfl (za (zh zg (pv 2) zb (fun _ _=>rfl)) (za (zh zg (pv 2) zb (fun _ _=>rfl)) (za (zr zx (zh zg (pv 2) zb (fun _ _=>rfl)) (pv 1)) zd)))) (za (zi o_length hr rfl (za (zr zx (zh zg (pv 3) zb (fun _ _=>rfl)) (pv 1)) (za (zr zx (zh zg (pv 3) zb (fun _ _=>rfl)) (pv 1)) (za (zh zg (pv 3) zb (fun _ _=>rfl)) zd)))) zd))))))),?_⟩
  rw [show zJ ["one","many","width","height"] [.ref c.p,.int k]=[some (.ref c.p),some (.int k),none,none] from rfl]
  have ct:=hc.t
  have cw:H c.pw=some (.tup [.int c.b.w.x,.int c.b.w.y,.int c.b.w.z]):=hc.w
  have ch:H c.ph=some (.tup [.int c.b.h.x,.int c.b.h.y,.int c.b.h.z]):=hc.h
  have m1:IntMulOk c.b.w.z k:=Bd.ok okw.bz bk (by decide +kernel)
  have m2:IntMulOk c.b.h.x k:=Bd.ok okh.bx bk (by decide +kernel)
  have m3:IntMulOk c.b.h.y k:=Bd.ok okh.by' bk (by decide +kernel)
  have bz:Bd 864 (c.b.w.z * k):=okw.bz.mul bk
  have bx:Bd 1364 (c.b.h.x * k):=okh.bx.mul bk
  have by2:Bd 1364 (c.b.h.y * k):=okh.by'.mul bk
  walk_at "r"
  refine vR rfl (Int.mul_ne_zero okw.ne (by omega)) (bz.mono (by decide)) (fun r1 H1 s1 e1=>?_) (okw.bx.mono (by decide)) (okw.by'.mono (by decide))
  have ch1:=s1 _ _ ch
  walk_at "r"
  refine vR rfl okh.ne (okh.bz.mono (by decide)) (fun r2 H2 s2 e2=>?_) (bx.mono (by decide)) (by2.mono (by decide))
  walk_at "r"
  refine zC (by simp) fun r3 H3 hr3 s3 e3=>?_
  refine q ⟨r3,r1,r2,⟨shS c.b.w 1 k,shS c.b.h k 1⟩⟩ H3 ((s1.trans s2).trans s3) (Same.nn (s1.trans s2) hr3) ⟨e3,?_,?_⟩ rfl
  · have:=s3 _ _ (s2 _ _ e1)
    simpa only [SdAt,shS,Int.mul_one] using this
  · have:=s3 _ _ e2
    simpa only [SdAt,shS,Int.mul_one] using this
theorem ok__law_plus {f:Addr} {fd:FuncData} (F:Fun K "_law_plus" "_law_plus" s__law_plus f fd) (B:Bl mg)  (o__law_lowest:Own P w K mg base 2 "_law_lowest" ["_law_a","_law_b","_law_n"] [] sp__law_lowest):FnOk P w K mg base CX0 3 f fd ["_law_one","_law_other","_law_sign_here"] sp__law_plus:=by
  refine F.ok (k:=2) sc__law_plus (fun vs H Q E h=>?_) (fun cdv A outer s H vs Q E hr h=>?_)
  · obtain ⟨p,p',s,t,g,rfl,h1,h2,o1,o2,bg,q⟩:=h
    rfl
  obtain ⟨p,p',s,t,g,rfl,h1,h2,o1,o2,bg,q⟩:=h
  refine ⟨_,(zc (zv (i:=3) sc__law_plus.nd rfl (Or.inl rfl) (zr zZ (zr zx (zh zg (pv 0) zb (fun _ _=>rfl)) (zh zg (pv 1) zb (fun _ _=>rfl))) (zr zx (zr zx (pv 2) (zh zg (pv 1) zb (fun _ _=>rfl))) (zh zg (pv 0) zb (fun _ _=>rfl))))) (zc (zv (i:=4) sc__law_plus.nd rfl (Or.inl rfl) (zr zZ (zr zx (zh zg (pv 0) zb (fun _ _=>rfl)) (zh zg (pv 1) zb (fun _ _=>rfl))) (zr zx (zr zx (pv 2) (zh zg (pv 1) zb (fun _ _=>rfl))) (zh zg (pv 0) zb (fun _ _=>rfl))))) (zf (zm (zi o__law_lowest hr rfl (za (pv 3) (za (pv 4) (za (zr zx (zh zg (pv 0) zb (fun _ _=>rfl)) (zh zg (pv 1) zb (fun _ _=>rfl))) zd)))))))),?_⟩
  rw [show zJ ["_law_one","_law_other","_law_sign_here","_law_a","_law_b"] [.ref p,.ref p',.int g]=[some (.ref p),some (.ref p'),some (.int g),none,none] from rfl]
  have h1':H p=some (.tup [.int s.x,.int s.y,.int s.z]):=h1
  have h2':H p'=some (.tup [.int t.x,.int t.y,.int t.z]):=h2
  have b1:=o1.bx
  have b2:=o1.by'
  have b3:=o1.bz
  have c1:=o2.bx
  have c2:=o2.by'
  have c3:=o2.bz
  walk_at "r"
  exact y6 (Int.mul_ne_zero o1.ne o2.ne) (Bd.mono (b3.mul c3) (by decide)) fun r H' s' e=>q r H' s' e
theorem ok__law_share {f:Addr} {fd:FuncData} (F:Fun K "_law_share" "_law_share" s__law_share f fd) (B:Bl mg)  (o__law_lowest:Own P w K mg base 2 "_law_lowest" ["_law_a","_law_b","_law_n"] [] sp__law_lowest):FnOk P w K mg base CX0 3 f fd ["_law_one","_law_top","_law_bottom"] sp__law_share:=by
  refine F.ok (k:=2) vK (fun vs H Q E h=>?_) (fun cdv A outer s H vs Q E hr h=>?_)
  · obtain ⟨p,s,m,k,rfl,h1,ok,bm,k1,bk,q⟩:=h
    rfl
  obtain ⟨p,s,m,k,rfl,h1,ok,bm,k1,bk,q⟩:=h
  refine ⟨_,(zf (zm (zi o__law_lowest hr rfl (za (zr zx (zh zg (pv 0) zb (fun _ _=>rfl)) (pv 1)) (za (zr zx (zh zg (pv 0) zb (fun _ _=>rfl)) (pv 1)) (za (zr zx (zh zg (pv 0) zb (fun _ _=>rfl)) (pv 2)) zd)))))),?_⟩
  rw [show zJ ["_law_one","_law_top","_law_bottom"] [.ref p,.int m,.int k]=[some (.ref p),some (.int m),some (.int k)] from rfl]
  have h1':H p=some (.tup [.int s.x,.int s.y,.int s.z]):=h1
  have b1:=ok.bx
  have b2:=ok.by'
  have b3:=ok.bz
  have hz:s.z * k ≠ 0:=Int.mul_ne_zero ok.ne k1
  walk_at "r"
  exact y6 hz (Bd.mono (b3.mul bk) (by decide)) fun r H' s' e=>q r H' s' e
theorem CZ {x:Int} (h0:-1000000000000 ≤ x) (h1:x ≤ 1000000000000):Bd 40 x:=by
  show x.natAbs < 2 ^ 40
  have:(2:Nat) ^ 40=1099511627776:=by decide
  omega
theorem ok__law_side {f:Addr} {fd:FuncData} (F:Fun K "_law_side" "_law_side" s__law_side f fd) (B:Bl mg)  (o__law_sign:Own P w K mg base 1 "_law_sign" ["_law_d","_law_a","_law_b"] [] sp__law_sign) (o__law_lowest:Own P w K mg base 2 "_law_lowest" ["_law_a","_law_b","_law_n"] [] sp__law_lowest) (o__law_digits:Own P w K mg base 2 "_law_digits" ["_law_cell_here","_law_many"] [] sp__law_digits):FnOk P w K mg base CX0 3 f fd ["_law_d","_law_cell_here","_law_at_here"] sp__law_side:=by
  refine F.ok (k:=2) sc__law_side (fun vs H Q E h=>?_) (fun cdv A outer s H vs Q E hr h=>?_)
  · obtain ⟨d,c,k,rfl,hR,hc,hk,q⟩:=h
    rfl
  obtain ⟨d,c,k,rfl,hR,hc,hk,q⟩:=h
  refine ⟨_,(zc (zv (i:=3) sc__law_side.nd rfl (Or.inl rfl) (vA BJ (zi o__law_digits hr rfl (za (pv 1) (za (zr zZ (pv 2) zb) zd))) (vX (pv 2)) Cw)) (zc (zv (i:=4) sc__law_side.nd rfl (Or.inl rfl) (zr xn (zr zZ (zr zx (zh zo (pv 3) zb (fun _ _=>rfl)) (zr xi zb zb)) (zh zo (pv 3) zb (fun _ _=>rfl))) (zr zx zb (zr xi zb zb)))) (zc (zv (i:=5) sc__law_side.nd rfl (Or.inl rfl) (zr xn (zr zZ (zr zx (zh zo (pv 3) zb (fun _ _=>rfl)) (zr xi zb zb)) (zh zo (pv 3) zb (fun _ _=>rfl))) (zr zx zb (zr xi zb zb)))) (zc (zv (i:=6) sc__law_side.nd rfl (Or.inl rfl) (zr zZ zb (zh zo (pv 3) zb (fun _ _=>rfl)))) (zc (wM (zE (zj zY (zr zQ (pv 1) zb) zb (zp _)) (zc (zv (i:=4) sc__law_side.nd rfl (Or.inl rfl) (zr xn (zr zQ (zh zo (pv 3) zb (fun _ _=>rfl)) zb) zb)) (zc (zv (i:=5) sc__law_side.nd rfl (Or.inl rfl) (zr xn (zr zQ (zh zo (pv 3) zb (fun _ _=>rfl)) zb) zb)) (zf (zv (i:=6) sc__law_side.nd rfl (Or.inl rfl) (zr zZ zb (zr zQ (zh zo (pv 3) zb (fun _ _=>rfl)) zb)))))) zn)) (zc (zE (PW.pt (yH (zj zY (pv 4) zb (zp _)) (yn (zj zY (pv 5) zb (zp _))))) (zf (zm (zK (za zb (za zb (za zb zd)))))) zn) (zc (zv (i:=7) sc__law_side.nd rfl (Or.inl rfl) (zi o__law_sign hr rfl (za (pv 0) (za (pv 4) (za (pv 5) zd))))) (zf (zm (zi o__law_lowest hr rfl (za (zr zx (pv 7) (pv 4)) (za (zr zx (pv 7) (pv 5)) (za (pv 6) zd))))))))))))),?_⟩
  rw [show zJ ["_law_d","_law_cell_here","_law_at_here","_law_digits_here","_law_a","_law_b","_law_n","_law_sign_here"] [.int d,.int c,.int (k:Int)]=[some (.int d),some (.int c),some (.int (k:Int)),none,none,none,none,none] from rfl]
  have e6:(10:Int) ^ (6:Int).toNat=1000000:=by decide +kernel
  have e11:(10:Int) ^ (11:Int).toNat=100000000000:=by decide +kernel
  have dlo:=hR.lo
  have hd:Bd 64 d:=zS (B:=99) (by omega) hR.hi (by decide +kernel)
  walk_at "r"
  refine yj hc (by omega) (by omega) fun l H1 ds s1 e1 hl hds=>?_
  walk_at "r"
  refine Df e1 fun p H2 s2 e2=>?_
  rw [← List.map_drop] at e2
  have hl5:((ds.drop k).length:Int)=5:=by rw [List.length_drop]; omega
  have hd5:∀ x ∈ ds.drop k,0 ≤ x∧x < 1000000:=fun x hx=>hds x (List.mem_of_mem_drop hx)
  obtain ⟨x0,g0,a0,b0⟩:=dig hl5 hd5 0 (by decide) (by decide)
  obtain ⟨x1,g1,a1,b1⟩:=dig hl5 hd5 1 (by decide) (by decide)
  obtain ⟨x2,g2,a2,b2⟩:=dig hl5 hd5 2 (by decide) (by decide)
  obtain ⟨x3,g3',a3,b3⟩:=dig hl5 hd5 3 (by decide) (by decide)
  obtain ⟨x4,g4,a4,b4⟩:=dig hl5 hd5 4 (by decide) (by decide)
  have y0:Bd 20 x0:=zS (B:=999999) (by omega) (by omega) (by decide)
  have y1:Bd 20 x1:=zS (B:=999999) (by omega) (by omega) (by decide)
  have y2:Bd 20 x2:=zS (B:=999999) (by omega) (by omega) (by decide)
  have y3:Bd 20 x3:=zS (B:=999999) (by omega) (by omega) (by decide)
  have y4:Bd 20 x4:=zS (B:=999999) (by omega) (by omega) (by decide)
  repeat (first | walk_at "rd" | refine zD e2 g0 ?_ | refine zD e2 g1 ?_ | refine zD e2 g2 ?_ | refine zD e2 g3' ?_ | refine zD e2 g4 ?_ | rw [e6] | rw [e11])
  refine tN (T:=fun σ' H'=>∃ a b n:Int,σ'=[some (.int d),some (.int c),some (.int (k:Int)),some (.ref p),some (.int a),some (.int b),some (.int n),none]∧H'=H2∧Bd 40 a∧Bd 40 b∧1 ≤ n∧n ≤ 1000000) ?_ ?_
  · repeat (first | walk_at "rd" | refine zD e2 g0 ?_ | refine zD e2 g1 ?_ | refine zD e2 g2 ?_ | refine zD e2 g3' ?_ | refine zD e2 g4 ?_ | rw [e6] | rw [e11])
    refine if_d (fun c1=>?_) (fun c1=>?_)
    · repeat (first | walk_at "rd" | refine zD e2 g0 ?_ | refine zD e2 g1 ?_ | refine zD e2 g2 ?_ | refine zD e2 g3' ?_ | refine zD e2 g4 ?_ | rw [e6] | rw [e11])
      exact ⟨_,_,_,rfl,rfl,CZ (by omega) (by omega),CZ (by omega) (by omega),by omega,by omega⟩
    · repeat (first | walk_at "rd" | refine zD e2 g0 ?_ | refine zD e2 g1 ?_ | refine zD e2 g2 ?_ | refine zD e2 g3' ?_ | refine zD e2 g4 ?_ | rw [e6] | rw [e11])
      exact ⟨_,_,_,rfl,rfl,CZ (by omega) (by omega),CZ (by omega) (by omega),by omega,by omega⟩
  rintro σ' H' ⟨a,b,n,rfl,rfl,ba,bb,n1,n2⟩
  have s12:=s1.trans s2
  walk_at "r"
  refine G9 (q:=b=0) (fun c0=>?_) (fun c1 hB=>?_)
  · walk_at "r"
    refine wP hd (ba.mono (by decide)) (bb.mono (by decide)) fun H3 s3=>?_
    have ba:=ba
    have bs:Bd 2 (sgn d a b):=by
      rcases sgn_tri hR a b with h | h | ⟨h1,h2⟩
      · rw [h]; decide
      · rw [h]; decide
      · rw [h1,h2,yo]; decide
    walk_at "r"
    refine y6 (by omega) (zS (k:=8000) (B:=1000000) (by omega) n2 (Nat.lt_of_lt_of_le (show (1000000:Int).natAbs < 2 ^ 20 by decide) (Nat.pow_le_pow_right (by decide) (by decide)))) fun r H4 s4 e4=>?_
    refine q r H4 ⟨lA (sgn d a b * a) (sgn d a b * b) n,lB (sgn d a b * a) (sgn d a b * b) n,lN (sgn d a b * a) (sgn d a b * b) n⟩ ((s12.trans s3).trans s4) e4 ?_
    rcases sgn_tri hR a b with h | h | h
    · rw [h,Int.one_mul,Int.one_mul]
      exact Dw.low hR ba bb n1 n2 h
    · rw [h,show (-1:Int) * a=-a by omega,show (-1:Int) * b=-b by omega]
      exact Dw.low hR ba.neg bb.neg n1 n2 (by rw [xX hR,h]; rfl)
    · exact absurd h (by omega)
  · walk_at "r"
    refine if_d (fun c2=>?_) (fun c2=>hB (fun z=>c2 z.2))
    walk_at "r"
    refine zP (by simp) fun r H4 s4 e4=>?_
    exact q r H4 ⟨1,0,1⟩ (s12.trans s4) e4 ⟨by decide,by decide,by rw [tZ (by decide) (by decide)]; rfl,by decide,by decide,by decide⟩
theorem ok_is_deed {f:Addr} {fd:FuncData} (F:Fun K "is_deed" "is_deed" s_is_deed f fd) (B:Bl mg) (g_CUTS:TopT K mg "CUTS" [.str "across",.str "along"]) (g_SHIFTS:TopT K mg "SHIFTS" [.str "stack",.str "spread"]) (g_GLUINGS:TopT K mg "GLUINGS" [.str "beside",.str "atop"]) (g_TURN:TopS mg "TURN" (Str.ofString "turn")) (o_is_length:Own P w K mg base 3 "is_length" ["thing"] [] sp_is_length) (o_is_whole:Own P w K mg base 1 "is_whole" ["thing"] [] sp_is_whole):FnOk P w K mg base CX0 4 f fd ["thing"] sp_is_deed:=by
  obtain ⟨a_CUTS,m_CUTS,q_CUTS⟩:=g_CUTS
  obtain ⟨a_SHIFTS,m_SHIFTS,q_SHIFTS⟩:=g_SHIFTS
  obtain ⟨a_GLUINGS,m_GLUINGS,q_GLUINGS⟩:=g_GLUINGS
  obtain ⟨u_TURN,m_TURN,r_TURN⟩:=g_TURN
  refine F.ok (k:=3) AL (fun vs H Q E h=>?_) (fun cdv A outer s H vs Q E hr h=>?_)
  · obtain ⟨p,e,rfl,he,ok,q⟩:=h
    rfl
  obtain ⟨p,e,rfl,he,ok,q⟩:=h
  refine ⟨_,(zc (zE (PW.pt (yZ (z8 (zT (zu zN rfl B.isinstance zH (za (pv 0) (za (yw (v:=.ty "tuple") rfl B.tuple xV rfl) zd))))) (yZ (zj vO (zu zy rfl B.len PySem.boot_len (za (pv 0) zd)) zb (zp _)) (y8 (z8 (zT (zu zN rfl B.isinstance zH (za (zh zg (pv 0) zb (fun _ _=>rfl)) (za (yw (v:=.ty "str") rfl B.str GA rfl) zd))))))))) (zf (zm yT)) zn) (zc (zE (zj zY (zu zy rfl B.len PySem.boot_len (za (pv 0) zd)) zb (zp _)) (zf (zm (zO zY (zh zg (pv 0) zb (fun _ _=>rfl)) (yY (v:=.str (Str.ofString "turn")) rfl m_TURN r_TURN) (zp _)))) zn) (zc (zE (zj uq (zu zy rfl B.len PySem.boot_len (za (pv 0) zd)) zb (zp _)) (zf (zm yT)) zn) (zc (zE (zj yl (zh zg (pv 0) zb (fun _ _=>rfl)) (yY (v:=.ref a_CUTS) rfl m_CUTS rfl) (by with_unfolding_all rfl)) (zf (zm (zi o_is_length hr rfl (za (zh zg (pv 0) zb (fun _ _=>rfl)) zd)))) zn) (zc (zE (zj yl (zh zg (pv 0) zb (fun _ _=>rfl)) (yY (v:=.ref a_SHIFTS) rfl m_SHIFTS rfl) (by with_unfolding_all rfl)) (zf (zm (wo (zi o_is_whole hr rfl (za (zh zg (pv 0) zb (fun _ _=>rfl)) zd)) (wq (zO Cd (zh zg (pv 0) zb (fun _ _=>rfl)) zb (zp _)))))) zn) (zf (zm (zO yl (zh zg (pv 0) zb (fun _ _=>rfl)) (yY (v:=.ref a_GLUINGS) rfl m_GLUINGS rfl) (by with_unfolding_all rfl))))))))),?_⟩
  rw [show zJ ["thing"] [.ref p]=[some (.ref p)] from rfl]
  cases e with
  | cut al n s =>
    obtain ⟨pq,h0,hs⟩:=he
    cases al with
    | false =>
      have h0:H p=some (.tup [.str (Str.ofString "across"),.int n,.ref pq]):=h0
      walk_at "r"
      refine if_d (fun c=>absurd c (by simp)) (fun _=>?_)
      walk_at "r"
      refine if_d (fun c=>absurd c (by simp)) (fun _=>?_)
      walk_at "r"
      refine xr (by simp) ?_
      walk_at "r"
      refine ⟨_,_,rfl,.inr (q_CUTS H),rfl,rfl,?_⟩
      rw [show (if false=true then !inV _ _ else inV _ _)=true from by decide +kernel]
      walk_at "r"
      exact wN hs ok fun H' s1=>q H' s1
    | true =>
      have h0:H p=some (.tup [.str (Str.ofString "along"),.int n,.ref pq]):=h0
      walk_at "r"
      refine if_d (fun c=>absurd c (by simp)) (fun _=>?_)
      walk_at "r"
      refine if_d (fun c=>absurd c (by simp)) (fun _=>?_)
      walk_at "r"
      refine xr (by simp) ?_
      walk_at "r"
      refine ⟨_,_,rfl,.inr (q_CUTS H),rfl,rfl,?_⟩
      rw [show (if false=true then !inV _ _ else inV _ _)=true from by decide +kernel]
      walk_at "r"
      exact wN hs ok fun H' s1=>q H' s1
  | glue al n m =>
    have h0:=he
    cases al with
    | false =>
      have h0:H p=some (.tup [.str (Str.ofString "beside"),.int n,.int m]):=h0
      walk_at "r"
      refine if_d (fun c=>absurd c (by simp)) (fun _=>?_)
      walk_at "r"
      refine if_d (fun c=>absurd c (by simp)) (fun _=>?_)
      walk_at "r"
      refine xr (by simp) ?_
      walk_at "r"
      refine ⟨_,_,rfl,.inr (q_CUTS H),rfl,rfl,?_⟩
      rw [show (if false=true then !inV _ _ else inV _ _)=false from by decide +kernel]
      walk_at "r"
      refine ⟨_,_,rfl,.inr (q_SHIFTS H),rfl,rfl,?_⟩
      rw [show (if false=true then !inV _ _ else inV _ _)=false from by decide +kernel]
      walk_at "r"
      refine ⟨_,_,rfl,.inr (q_GLUINGS H),rfl,rfl,?_⟩
      rw [show (if false=true then !inV _ _ else inV _ _)=true from by decide +kernel]
      walk_at "r"
      exact q H (Same.refl H)
    | true =>
      have h0:H p=some (.tup [.str (Str.ofString "atop"),.int n,.int m]):=h0
      walk_at "r"
      refine if_d (fun c=>absurd c (by simp)) (fun _=>?_)
      walk_at "r"
      refine if_d (fun c=>absurd c (by simp)) (fun _=>?_)
      walk_at "r"
      refine xr (by simp) ?_
      walk_at "r"
      refine ⟨_,_,rfl,.inr (q_CUTS H),rfl,rfl,?_⟩
      rw [show (if false=true then !inV _ _ else inV _ _)=false from by decide +kernel]
      walk_at "r"
      refine ⟨_,_,rfl,.inr (q_SHIFTS H),rfl,rfl,?_⟩
      rw [show (if false=true then !inV _ _ else inV _ _)=false from by decide +kernel]
      walk_at "r"
      refine ⟨_,_,rfl,.inr (q_GLUINGS H),rfl,rfl,?_⟩
      rw [show (if false=true then !inV _ _ else inV _ _)=true from by decide +kernel]
      walk_at "r"
      exact q H (Same.refl H)
  | shift al n k =>
    have h0:=he
    cases al with
    | false =>
      have h0:H p=some (.tup [.str (Str.ofString "stack"),.int n,.int k]):=h0
      walk_at "r"
      refine if_d (fun c=>absurd c (by simp)) (fun _=>?_)
      walk_at "r"
      refine if_d (fun c=>absurd c (by simp)) (fun _=>?_)
      walk_at "r"
      refine xr (by simp) ?_
      walk_at "r"
      refine ⟨_,_,rfl,.inr (q_CUTS H),rfl,rfl,?_⟩
      rw [show (if false=true then !inV _ _ else inV _ _)=false from by decide +kernel]
      walk_at "r"
      refine ⟨_,_,rfl,.inr (q_SHIFTS H),rfl,rfl,?_⟩
      rw [show (if false=true then !inV _ _ else inV _ _)=true from by decide +kernel]
      walk_at "r"
      exact bl_q (decide_eq_true ok.1) (q H (Same.refl H))
    | true =>
      have h0:H p=some (.tup [.str (Str.ofString "spread"),.int n,.int k]):=h0
      walk_at "r"
      refine if_d (fun c=>absurd c (by simp)) (fun _=>?_)
      walk_at "r"
      refine if_d (fun c=>absurd c (by simp)) (fun _=>?_)
      walk_at "r"
      refine xr (by simp) ?_
      walk_at "r"
      refine ⟨_,_,rfl,.inr (q_CUTS H),rfl,rfl,?_⟩
      rw [show (if false=true then !inV _ _ else inV _ _)=false from by decide +kernel]
      walk_at "r"
      refine ⟨_,_,rfl,.inr (q_SHIFTS H),rfl,rfl,?_⟩
      rw [show (if false=true then !inV _ _ else inV _ _)=true from by decide +kernel]
      walk_at "r"
      exact bl_q (decide_eq_true ok.1) (q H (Same.refl H))
  | turn n =>
    have h0:=he
    have h0:H p=some (.tup [.str (Str.ofString "turn"),.int n]):=h0
    walk_at "r"
    refine if_d (fun c=>absurd c (by simp)) (fun _=>?_)
    walk_at "r"
    refine if_d (fun _=>?_) (fun c=>absurd (by simp) c)
    walk_at "r"
    exact bl_q (by decide +kernel) (q H (Same.refl H))
theorem ok_cut_across {f:Addr} {fd:FuncData} (F:Fun K "cut_across" "cut_across" s_cut_across f fd) (B:Bl mg) (g_NOUGHT:TopT K mg "NOUGHT" [.int 0,.int 0,.int 1]) (o_under:Own P w K mg base 2 "under" ["d","one","other"] [] (sp_under K)) (o_taken:Own P w K mg base 3 "taken" ["one","other"] [] sp_taken):FnOk P w K mg base CX0 4 f fd ["d","one","at"] sp_cut_across:=by
  obtain ⟨a_NOUGHT,m_NOUGHT,q_NOUGHT⟩:=g_NOUGHT
  refine F.ok (k:=3) vD (fun vs H Q E h=>?_) (fun cdv A outer s H vs Q E hr h=>?_)
  · obtain ⟨d,c,p,s,rfl,hc,hs,hd,okw,oks,up,un,q⟩:=h
    rfl
  obtain ⟨d,c,p,s,rfl,hc,hs,hd,okw,oks,up,un,q⟩:=h
  refine ⟨_,(zc (zE (z8 (PW.pt (yH (zT (zi o_under hr rfl (za (pv 0) (za (yY (v:=.ref a_NOUGHT) rfl m_NOUGHT rfl) (za (pv 2) zd))))) (yn (zT (zi o_under hr rfl (za (pv 0) (za (pv 2) (za (zh zg (pv 1) zb (fun _ _=>rfl)) zd))))))))) (zf yK) zn) (zf (zm (zU (za (zK (za (pv 2) (za (zh zg (pv 1) zb (fun _ _=>rfl)) zd))) (za (zK (za (zi o_taken hr rfl (za (zh zg (pv 1) zb (fun _ _=>rfl)) (za (pv 2) zd))) (za (zh zg (pv 1) zb (fun _ _=>rfl)) zd))) zd)))))),?_⟩
  rw [show zJ ["d","one","at"] [.int d,.ref c.p,.ref p]=[some (.int d),some (.ref c.p),some (.ref p)] from rfl]
  have ct:=hc.t
  have cw:=hc.w
  have hs':H p=some (.tup [.int s.x,.int s.y,.int s.z]):=hs
  have cw':H c.pw=some (.tup [.int c.b.w.x,.int c.b.w.y,.int c.b.w.z]):=cw
  walk_at "r"
  refine BE (q_NOUGHT H) hs' hd (by decide +kernel) (by decide +kernel) (by decide +kernel) (oks.bx.mono (by decide)) (oks.by'.mono (by decide)) (oks.bz.mono (by decide)) ?_
  rw [show decide (0 < sgn d (s.x * 1 - 0 * s.z) (s.y * 1 - 0 * s.z))=true from decide_eq_true (by simpa only [Int.mul_one,Int.zero_mul,Int.sub_zero] using up)]
  walk_at "r"
  refine BE (SqT.of hs') cw' hd (oks.bx.mono (by decide)) (oks.by'.mono (by decide)) (oks.bz.mono (by decide)) (okw.bx.mono (by decide)) (okw.by'.mono (by decide)) (okw.bz.mono (by decide)) ?_
  rw [show decide (0 < sgn d (c.b.w.x * s.z - s.x * c.b.w.z) (c.b.w.y * s.z - s.y * c.b.w.z))=true from decide_eq_true un]
  walk_at "r"
  refine zC (by simp) fun r1 H1 hr1 s1 e1=>?_
  have ct1:=s1 _ _ ct
  walk_at "r"
  refine EN (s1 _ _ cw') (s1 _ _ hs') okw.z1 oks.z1 okw.g oks.g (okw.bx.mono (by decide)) (okw.by'.mono (by decide)) (okw.bz.mono (by decide)) (oks.bx.mono (by decide)) (oks.by'.mono (by decide)) (oks.bz.mono (by decide)) fun r2 H2 s2 e2=>?_
  have ct2:=s2 _ _ ct1
  walk_at "r"
  refine zC (by simp) fun r3 H3 hr3 s3 e3=>?_
  walk_at "r"
  refine zA (by simp) fun r H4 hr s4 e4=>?_
  have t4:=((s1.trans s2).trans s3).trans s4
  exact q r ⟨r1,p,c.ph,⟨s,c.b.h⟩⟩ ⟨r3,r2,c.ph,⟨tkS c.b.w s,c.b.h⟩⟩ H4 t4 (Same.nn ((s1.trans s2).trans s3) hr) e4 ⟨s4 _ _ (s3 _ _ (s2 _ _ e1)),t4 _ _ hs,t4 _ _ hc.h⟩ ⟨s4 _ _ e3,s4 _ _ (s3 _ _ e2),t4 _ _ hc.h⟩ rfl rfl
theorem F8 {K:PySem.W.Frag} {H:Hp} {Q:VK} {a:Addr} {x y z:V} (h:H a=some (.tup [x,y,z])) (q:∀ (p:Addr) (H2:Hp),Same H H2→H2 p=some (.tup [x,y])→Q (.ref p) H2):rSlT K (.ref a) none (some 2) H Q :=
  ⟨a,_,rfl,SqT.of h,by simp only [List.length_cons,List.length_nil]; decide,fun p hp=>q p _ (z4 hp _) zk⟩
theorem ok__law_below {f:Addr} {fd:FuncData} (F:Fun K "_law_below" "_law_below" s__law_below f fd) (B:Bl mg)  (o__law_plus:Own P w K mg base 3 "_law_plus" ["_law_one","_law_other","_law_sign_here"] [] sp__law_plus) (o__law_sign:Own P w K mg base 1 "_law_sign" ["_law_d","_law_a","_law_b"] [] sp__law_sign):FnOk P w K mg base CX0 4 f fd ["_law_d","_law_one","_law_other"] sp__law_below:=by
  refine F.ok (k:=3) sc__law_below (fun vs H Q E h=>?_) (fun cdv A outer s H vs Q E hr h=>?_)
  · obtain ⟨d,p,p',s,t,rfl,h1,h2,o1,o2,hd,q⟩:=h
    rfl
  obtain ⟨d,p,p',s,t,rfl,h1,h2,o1,o2,hd,q⟩:=h
  refine ⟨_,(zc (zv (i:=3) sc__law_below.nd rfl (Or.inl rfl) (zi o__law_plus hr rfl (za (pv 1) (za (pv 2) (za (vS xU zb) zd))))) (zf (zm (wo (zO (D2 hr.units) (vA FT (pv 3) Cw (vX zb)) (zK (za zb (za zb zd))) (zp _)) (wq (zO vO (zi o__law_sign hr rfl (za (pv 0) (za (zh zg (pv 3) zb (fun _ _=>rfl)) (za (zh zg (pv 3) zb (fun _ _=>rfl)) zd)))) zb (zp _))))))),?_⟩
  rw [show zJ ["_law_d","_law_one","_law_other","_law_left"] [.int d,.ref p,.ref p']=[some (.int d),some (.ref p),some (.ref p'),none] from rfl]
  walk_at "r"
  refine yC h1 h2 o1 o2 (by decide +kernel) fun r H1 s1 e1=>?_
  rw [tF] at e1
  have e1':H1 r=some (.tup [.int (tkS s t).x,.int (tkS s t).y,.int (tkS s t).z]):=e1
  have bx:Bd 2101 (tkS s t).x:=Bd.fdiv (Bd.add (Bd.mul o1.bx (o2.bz)) (Bd.mul o2.bx.neg o1.bz)) _
  have by':Bd 2101 (tkS s t).y:=Bd.fdiv (Bd.add (Bd.mul o1.by' (o2.bz)) (Bd.mul o2.by'.neg o1.bz)) _
  walk_at "r"
  refine F8 e1' fun p2 H2 s2 e2=>?_
  have e1':=s2 _ _ e1'
  walk_at "r"
  refine zP (by simp) fun p3 H3 s3 e3=>?_
  have e1':=s3 _ _ e1'
  refine GO (s3 _ _ e2) e3 ?_
  walk_at "r"
  refine AG (fun c=>?_) (fun c=>?_)
  · walk_at "r"
    refine wP hd (bx.mono (by decide)) (by'.mono (by decide)) fun H4 s4=>?_
    walk_at "r"
    exact q H4 (((s1.trans s2).trans s3).trans s4)
  · walk_at "r"
    refine bl_q ?_ (q H3 ((s1.trans s2).trans s3))
    rw [c.1,c.2,yo]
    rfl
theorem ok__law_heap {f:Addr} {fd:FuncData} (F:Fun K "_law_heap" "_law_heap" s__law_heap f fd) (B:Bl mg)  (o__law_side:Own P w K mg base 3 "_law_side" ["_law_d","_law_cell_here","_law_at_here"] [] sp__law_side) (o__law_cell:Own P w K mg base 1 "_law_cell" ["_law_script","_law_k"] [] (sp__law_cell K)) (o__law_digits:Own P w K mg base 2 "_law_digits" ["_law_cell_here","_law_many"] [] sp__law_digits):FnOk P w K mg base CX0 4 f fd ["_law_script","_law_d","_law_first"] (sp__law_heap K):=by
  refine F.ok (k:=3) sc__law_heap (fun vs H Q E h=>?_) (fun cdv A outer s H vs Q E hr h=>?_)
  · obtain ⟨p,ns,d,rfl,hS,hb,hR,q⟩:=h
    rfl
  obtain ⟨p,ns,d,rfl,hS,hb,hR,q⟩:=h
  refine ⟨_,(zc (tK (i:=3) sc__law_heap.nd rfl rfl ["_law_k"] [0,1,2] rfl (yF rfl B.range (za zb zd)) (fun _ _ _ _ _=>(zw (i:=0) (show List.Nodup (α:=Str) ["_law_k","_law_script","_law_d","_law_first"] by decide +kernel) rfl (Or.inl rfl))) (fun _ _ _ _ _=>zR) (fun _ _ _ _ _=>(zi o__law_side hr rfl (za (pv 2) (za (zi o__law_cell hr rfl (za (pv 1) (za (zr zZ (pv 3) (pv 0)) zd))) (za zb zd)))))) (zc (zv (i:=4) sc__law_heap.nd rfl (Or.inl rfl) (zU zd)) (zc (yE PassesOwn.never rfl (yF rfl B.range (za (zr zZ zb (zr zQ (zh zo (zi o__law_digits hr rfl (za (zi o__law_cell hr rfl (za (pv 0) (za (zr zZ (pv 2) zb) zd))) (za zb zd))) zb (fun _ _=>rfl)) zb)) zd)) (zw (i:=5) sc__law_heap.nd rfl (Or.inl rfl)) (zc (zv (i:=6) sc__law_heap.nd rfl (Or.inl rfl) (zi o__law_cell hr rfl (za (pv 0) (za (zr zZ (zr zZ (pv 2) zb) (pv 5)) zd)))) (zc (zv (i:=7) sc__law_heap.nd rfl (Or.inl rfl) (zi o__law_digits hr rfl (za (pv 6) (za zb zd)))) (zc (zv (i:=8) sc__law_heap.nd rfl (Or.inl rfl) (zh zo (pv 3) (zr zQ (zh zo (pv 7) zb (fun _ _=>rfl)) zb) (fun _ _=>rfl))) (zc (zv (i:=9) sc__law_heap.nd rfl (Or.inl rfl) (zh zo (pv 3) (zr zQ (zh zo (pv 7) zb (fun _ _=>rfl)) zb) (fun _ _=>rfl))) (zc (wM (zE (zj zY (zr zQ (zr xG (zh zo (pv 7) zb (fun _ _=>rfl)) zb) zb) zb (zp _)) (zf (zv (i:=8) sc__law_heap.nd rfl (Or.inl rfl) (zi o__law_side hr rfl (za (pv 1) (za (pv 6) (za zb zd)))))) zn)) (zc (wM (zE (zj zY (zr zQ (zr xG (zh zo (pv 7) zb (fun _ _=>rfl)) zb) zb) zb (zp _)) (zf (zv (i:=9) sc__law_heap.nd rfl (Or.inl rfl) (zi o__law_side hr rfl (za (pv 1) (za (pv 6) (za zb zd)))))) zn)) (zf (yh (uw PySem.F.plainAttrs_list PySem.F.slot_list_append PySem.F.type_list_append ym (pv 4) (za (zK (za (pv 8) (za (pv 9) zd))) zd))))))))))) (zf (zm (zK (za (pv 3) (za (pv 4) zd)))))))),?_⟩
  rw [show zJ ["_law_script","_law_d","_law_first","_law_pool","_law_heap_here","_law_k","_law_cell_here","_law_digits_here","_law_width","_law_height"] [.ref p,.int d,.int 1]=[some (.ref p),some (.int d),some (.int 1),none,none,none,none,none,none,none] from rfl]
  walk_at "r"
  refine vH ?_
  walk_at "r"
  refine ⟨3,rfl,by decide,by decide,fun D hD=>yW (lo:=0) (n:=(3:Int).toNat) (fun i xs σ' H'=>∃ (v:Option V) (P:PL),σ'=[v,some (.ref p),some (.int d),some (.int 1)]∧xs=P.map (fun x=>V.ref x.1)∧P.length=i∧H' D=some (.lst xs)∧SameX D H H'∧(∀ x ∈ P,SdAt H' x.1 x.2)∧∀ x ∈ P,Dw d x.2) ⟨none,[],rfl,rfl,rfl,zk,fun b o e n=>by rw [zt n]; exact e,fun x hx=>absurd hx (by simp),fun x hx=>absurd hx (by simp)⟩ ?_ ?_⟩
  · rintro i xs σ' H' hi ⟨v,P,rfl,rfl,hPl,eD,sx,hPa,hPd⟩
    have hi3:i < 3:=hi
    have s':Same H H':=fun b o e=>sx b o e (ze e hD)
    walk_at "r"
    refine yG (s'.seq hS) (by omega) hb fun c0 hc0=>?_
    walk_at "r"
    refine xy (k:=0) hR hc0 (by decide) fun r1 H1 s s1 e1 o1=>?_
    walk_at "r"
    have eD1:=s1 _ _ eD
    refine zB eD1 (by rw [List.length_map]; omega) fun H2 x2 e2=>?_
    refine yv hi ⟨_,P ++ [(r1,s)],rfl,rfl,by rw [List.length_append,hPl]; rfl,by rw [List.map_append]; exact e2,(sx.trans (s1.sameX D)).trans x2,fun x hx=>?_,fun x hx=>?_⟩
    · rcases List.mem_append.mp hx with hx | hx
      · exact x2.tup (s1 _ _ (hPa x hx)) eD1
      · rw [List.mem_singleton.mp hx]; exact x2.tup e1 eD1
    · rcases List.mem_append.mp hx with hx | hx
      · exact hPd x hx
      · rw [List.mem_singleton.mp hx]; exact o1
  rintro xs σ' H2 ⟨v,P,rfl,rfl,hPl,eD,sx,hPa,hPd⟩
  have s2:Same H H2:=fun b o e=>sx b o e (ze e hD)
  have hP:Pl H2 D P:=⟨eD,hPa,hPl⟩
  have hS2:=s2.seq hS
  clear sx hPa hPl hD
  walk_at "r"
  refine zA (by simp) fun l H3 hl s3 e3=>?_
  walk_at "r"
  refine vI ?_
  walk_at "r"
  refine yG (s3.seq hS2) (by omega) hb fun c0 hc0=>?_
  walk_at "r"
  refine yj hc0 (by decide) (by decide) fun l4 H4 ds s4 e4 hl4 hds=>?_
  obtain ⟨x5,g5,a5,b5⟩:=dig hl4 hds 5 (by decide) (by decide)
  walk_at "r"
  refine zD e4 g5 ?_
  walk_at "r"
  have s34:=s3.trans s4
  refine ⟨1 + x5 % 6,rfl,by omega,by omega,xD (lo:=0) (n:=(1 + x5 % 6).toNat) (fun i σ H'=>∃ (v1 v2 v3 v4 v5:Option V) (L:List Cell),σ=[some (.ref p),some (.int d),some (.int 1),some (.ref D),some (.ref l),v1,v2,v3,v4,v5]∧SameX l H4 H'∧H' l=some (.lst (L.map Cell.v))∧L.length=i∧(∀ c ∈ L,c.At H')∧∀ c ∈ L,Dw d c.b.w∧Dw d c.b.h) ⟨_,_,_,_,_,[],rfl,fun b o e _=>e,s4 _ _ e3,rfl,fun c hc=>absurd hc (by simp),fun c hc=>absurd hc (by simp)⟩ ?_ ?_⟩
  · rintro i σ H' hi ⟨v1,v2,v3,v4,v5,L,rfl,sx,el,hLl,hLa,hLd⟩
    have sH:Same H2 H':=fun b o e=>sx b o (s34 b o e) (ze e hl)
    walk_at "r"
    refine yG (sH.seq hS2) (by omega) hb fun c1 hc1=>?_
    walk_at "r"
    refine yj hc1 (by decide) (by decide) fun l5 H5 es s5 e5 hl5 hes=>?_
    obtain ⟨y0,k0,u0,w0⟩:=dig hl5 hes 0 (by decide) (by decide)
    obtain ⟨y1,k1,u1,w1⟩:=dig hl5 hes 1 (by decide) (by decide)
    have hP5:=(hP.same sH).same s5
    obtain ⟨z0,hz0,gz0,ez0⟩:=hP5.get (i:=y0 % 3) (by omega) (by omega)
    obtain ⟨z1,hz1,gz1,ez1⟩:=hP5.get (i:=y1 % 3) (by omega) (by omega)
    repeat (first | walk_at "rd" | refine zD e5 k0 ?_ | refine zD e5 k1 ?_ | refine zD hP5.l gz0 ?_ | refine zD hP5.l gz1 ?_)
    refine tN (T:=fun σ' H6=>∃ (pw:Addr) (sw:Sd),σ'=[some (.ref p),some (.int d),some (.int 1),some (.ref D),some (.ref l),some (.int (0 + (i:Int))),some (.int c1),some (.ref l5),some (.ref pw),some (.ref z1.1)]∧Same H5 H6∧SdAt H6 pw sw∧Dw d sw) ?_ ?_
    · repeat (first | walk_at "rd" | refine zD e5 k0 ?_)
      refine if_d (fun _=>?_) (fun _=>?_)
      · walk_at "r"
        refine xy (k:=2) hR hc1 (by decide) fun r1 H6 s s6 e6 o6=>?_
        walk_at "r"
        exact ⟨r1,s,rfl,s6,e6,o6⟩
      · walk_at "r"
        exact ⟨_,_,rfl,Same.refl _,ez0,hPd z0 hz0⟩
    rintro σ' H6 ⟨pw,sw,rfl,s6,ew,ow⟩
    have e5:=s6 _ _ e5
    walk_at "r"
    refine tN (T:=fun σ' H7=>∃ (ph:Addr) (sh:Sd),σ'=[some (.ref p),some (.int d),some (.int 1),some (.ref D),some (.ref l),some (.int (0 + (i:Int))),some (.int c1),some (.ref l5),some (.ref pw),some (.ref ph)]∧Same H6 H7∧SdAt H7 ph sh∧Dw d sh) ?_ ?_
    · repeat (first | walk_at "rd" | refine zD e5 k1 ?_)
      refine if_d (fun _=>?_) (fun _=>?_)
      · walk_at "r"
        refine xy (k:=7) hR hc1 (by decide) fun r1 H7 s s7 e7 o7=>?_
        walk_at "r"
        exact ⟨r1,s,rfl,s7,e7,o7⟩
      · walk_at "r"
        exact ⟨_,_,rfl,Same.refl _,s6 _ _ ez1,hPd z1 hz1⟩
    rintro σ' H7 ⟨ph,sh,rfl,s7,eh,oh⟩
    have el0:=s7 _ _ (s6 _ _ (s5 _ _ el))
    walk_at "r"
    refine zC (by simp) fun r8 H8 n8 s8 e8=>?_
    have st:=((s5.trans s6).trans s7).trans s8
    have el8:=st _ _ el
    walk_at "r"
    refine zB el8 (by rw [List.length_map]; omega) fun H9 x9 e9=>?_
    walk_at "r"
    refine ⟨_,_,_,_,_,L ++ [⟨r8,pw,ph,⟨sw,sh⟩⟩],rfl,(sx.trans (st.sameX l)).trans x9,by rw [List.map_append]; exact e9,by rw [List.length_append,hLl]; rfl,fun x hx=>?_,fun x hx=>?_⟩
    · rcases List.mem_append.mp hx with hx | hx
      · exact ((hLa x hx).same st).sameX x9 el8
      · rw [List.mem_singleton.mp hx]
        exact Cell.At.sameX ⟨e8,s8 _ _ (s7 _ _ ew),s8 _ _ eh⟩ x9 el8
    · rcases List.mem_append.mp hx with hx | hx
      · exact hLd x hx
      · rw [List.mem_singleton.mp hx]; exact ⟨ow,oh⟩
  rintro σ H5 ⟨v1,v2,v3,v4,v5,L,rfl,sx,el,hLl,hLa,hLd⟩
  have sH:Same H2 H5:=fun b o e=>sx b o (s34 b o e) (ze e hl)
  walk_at "r"
  refine zC (by simp) fun r H6 n6 s6 e6=>?_
  exact q r D l H6 P L ((s2.trans sH).trans s6) e6 ((hP.same sH).same s6) (s6 _ _ el) (fun c hc=>(hLa c hc).same s6) hPd hLd (by omega) (by omega)
theorem ok__law_new {f:Addr} {fd:FuncData} (F:Fun K "_law_new" "_law_new" s__law_new f fd) (B:Bl mg)  (o__law_plus:Own P w K mg base 3 "_law_plus" ["_law_one","_law_other","_law_sign_here"] [] sp__law_plus) (o__law_share:Own P w K mg base 3 "_law_share" ["_law_one","_law_top","_law_bottom"] [] sp__law_share):FnOk P w K mg base CX0 4 f fd ["_law_deed_here","_law_some"] sp__law_new:=by
  refine F.ok (k:=3) sc__law_new (fun vs H Q E h=>?_) (fun cdv A outer s H vs Q E hr h=>?_)
  · obtain ⟨p,a,d,e,c,c',rfl,he,ha,hc,hc',hf,q⟩:=h
    rfl
  obtain ⟨p,a,d,e,c,c',rfl,he,ha,hc,hc',hf,q⟩:=h
  refine ⟨_,(zc (wp (zh zo (pv 1) zb (fun _ _=>rfl)) (xv (n:=2) rfl (zM (zw (i:=2) sc__law_new.nd rfl (Or.inl rfl)) (zM (zw (i:=3) sc__law_new.nd rfl (Or.inl rfl)) yN)))) (zc (zE (zj zY (zh zg (pv 0) zb (fun _ _=>rfl)) zG (zp _)) (zf (zm (WE.w (ve (zL (xW (zL (xa (zh zg (pv 0) zb (fun _ _=>rfl))) (zL (xa (pv 3)) yz))) (zL (xW (zL (xa (zi o__law_plus hr rfl (za (pv 2) (za (zh zg (pv 0) zb (fun _ _=>rfl)) (za (vS xU zb) zd))))) (zL (xa (pv 3)) yz))) yz)))))) zn) (zc (zE (zj zY (zh zg (pv 0) zb (fun _ _=>rfl)) zG (zp _)) (zf (zm (WE.w (ve (zL (xW (zL (xa (pv 2)) (zL (xa (zh zg (pv 0) zb (fun _ _=>rfl))) yz))) (zL (xW (zL (xa (pv 2)) (zL (xa (zi o__law_plus hr rfl (za (pv 3) (za (zh zg (pv 0) zb (fun _ _=>rfl)) (za (vS xU zb) zd))))) yz))) yz)))))) zn) (zc (zE (zj zY (zh zg (pv 0) zb (fun _ _=>rfl)) zG (zp _)) (zf (zm (WE.w (ve (zL (xW (zL (xa (zi o__law_plus hr rfl (za (pv 2) (za (zh zg (zh zo (pv 1) zb (fun _ _=>rfl)) zb (fun _ _=>rfl)) (za zb zd))))) (zL (xa (pv 3)) yz))) yz))))) zn) (zc (zE (zj zY (zh zg (pv 0) zb (fun _ _=>rfl)) zG (zp _)) (zf (zm (WE.w (ve (zL (xW (zL (xa (pv 2)) (zL (xa (zi o__law_plus hr rfl (za (pv 3) (za (zh zg (zh zo (pv 1) zb (fun _ _=>rfl)) zb (fun _ _=>rfl)) (za zb zd))))) yz))) yz))))) zn) (zc (zE (zj zY (zh zg (pv 0) zb (fun _ _=>rfl)) zG (zp _)) (zf (zm (WE.w (ve (zL (xW (zL (xa (zi o__law_share hr rfl (za (pv 2) (za zb (za (zh zg (pv 0) zb (fun _ _=>rfl)) zd))))) (zL (xa (zi o__law_share hr rfl (za (pv 3) (za (zh zg (pv 0) zb (fun _ _=>rfl)) (za zb zd))))) yz))) yz))))) zn) (zc (zE (zj zY (zh zg (pv 0) zb (fun _ _=>rfl)) zG (zp _)) (zf (zm (WE.w (ve (zL (xW (zL (xa (zi o__law_share hr rfl (za (pv 2) (za (zh zg (pv 0) zb (fun _ _=>rfl)) (za zb zd))))) (zL (xa (zi o__law_share hr rfl (za (pv 3) (za zb (za (zh zg (pv 0) zb (fun _ _=>rfl)) zd))))) yz))) yz))))) zn) (zf (zm (WE.w (ve (zL (xW (zL (xa (pv 3)) (zL (xa (pv 2)) yz))) yz)))))))))))),?_⟩
  rw [show zJ ["_law_deed_here","_law_some","_law_width","_law_height"] [.ref p,.ref a]=[some (.ref p),some (.ref a),none,none] from rfl]
  cases e with
  | cut al n s =>
    obtain ⟨pq,h0,hs⟩:=he
    cases al with
    | false =>
      have h0:H p=some (.tup [.str (Str.ofString "across"),.int n,.ref pq]):=h0
      have ha:H a=some (.lst [.ref c.p]):=ha
      have ct:=hc.t
      have ct':=hc'.t
      walk_at "r"
      refine if_d (fun _=>?_) (fun c=>absurd rfl c)
      walk_at "r"
      obtain ⟨f1,f2,f3,f4⟩:=hf
      refine zC (by simp) fun r1 H1 hr1 s1 e1=>?_
      have h0:=s1 _ _ h0
      walk_at "r"
      refine yC (s1 _ _ hc.w) (s1 _ _ hs) f1 f2 (by decide +kernel) fun r2 H2 s2 e2=>?_
      rw [tF] at e2
      walk_at "r"
      refine zC (by simp) fun r3 H3 hr3 s3 e3=>?_
      walk_at "r"
      refine zA (by simp) fun r HL nr sL eL=>?_
      have t4:=((s1.trans s2).trans s3).trans sL
      refine q r [⟨r1,pq,c.ph,⟨s,c.b.h⟩⟩,⟨r3,r2,c.ph,⟨tkS c.b.w s,c.b.h⟩⟩] HL t4 (Same.nn ((s1.trans s2).trans s3) nr) eL (fun x hx=>?_) rfl
      rcases List.mem_cons.mp hx with rfl | hx
      · exact ⟨sL _ _ (s3 _ _ (s2 _ _ e1)),t4 _ _ hs,t4 _ _ hc.h⟩
      · rw [List.mem_singleton.mp hx]; exact ⟨sL _ _ e3,sL _ _ (s3 _ _ e2),t4 _ _ hc.h⟩
    | true =>
      have h0:H p=some (.tup [.str (Str.ofString "along"),.int n,.ref pq]):=h0
      have ha:H a=some (.lst [.ref c.p]):=ha
      have ct:=hc.t
      have ct':=hc'.t
      walk_at "r"
      refine if_d (fun c=>absurd c (by decide +kernel)) (fun _=>?_)
      walk_at "r"
      refine if_d (fun _=>?_) (fun c=>absurd rfl c)
      walk_at "r"
      obtain ⟨f1,f2,f3,f4⟩:=hf
      refine zC (by simp) fun r1 H1 hr1 s1 e1=>?_
      have h0:=s1 _ _ h0
      walk_at "r"
      refine yC (s1 _ _ hc.h) (s1 _ _ hs) f1 f2 (by decide +kernel) fun r2 H2 s2 e2=>?_
      rw [tF] at e2
      walk_at "r"
      refine zC (by simp) fun r3 H3 hr3 s3 e3=>?_
      walk_at "r"
      refine zA (by simp) fun r HL nr sL eL=>?_
      have t4:=((s1.trans s2).trans s3).trans sL
      refine q r [⟨r1,c.pw,pq,⟨c.b.w,s⟩⟩,⟨r3,c.pw,r2,⟨c.b.w,tkS c.b.h s⟩⟩] HL t4 (Same.nn ((s1.trans s2).trans s3) nr) eL (fun x hx=>?_) rfl
      rcases List.mem_cons.mp hx with rfl | hx
      · exact ⟨sL _ _ (s3 _ _ (s2 _ _ e1)),t4 _ _ hc.w,t4 _ _ hs⟩
      · rw [List.mem_singleton.mp hx]; exact ⟨sL _ _ e3,t4 _ _ hc.w,sL _ _ (s3 _ _ e2)⟩
  | glue al n m =>
    have h0:=he
    cases al with
    | false =>
      have h0:H p=some (.tup [.str (Str.ofString "beside"),.int n,.int m]):=h0
      have ha:H a=some (.lst [.ref c.p,.ref c'.p]):=ha
      have ct:=hc.t
      have ct':=hc'.t
      walk_at "r"
      refine if_d (fun c=>absurd c (by decide +kernel)) (fun _=>?_)
      walk_at "r"
      refine if_d (fun c=>absurd c (by decide +kernel)) (fun _=>?_)
      walk_at "r"
      refine if_d (fun _=>?_) (fun c=>absurd rfl c)
      walk_at "r"
      refine yC hc.w hc'.w hf.2.1 hf.2.2 (by decide +kernel) fun r2 H2 s2 e2=>?_
      rw [A1] at e2
      walk_at "r"
      refine zC (by simp) fun rc HC nc sC eC=>?_
      walk_at "r"
      refine zA (by simp) fun r HL nr sL eL=>?_
      refine q r [⟨rc,r2,c.ph,⟨adS c.b.w c'.b.w,c.b.h⟩⟩] HL ((s2.trans sC).trans sL) (Same.nn (s2.trans sC) nr) eL (fun x hx=>?_) rfl
      rw [List.mem_singleton.mp hx]
      exact ⟨sL _ _ eC,sL _ _ (sC _ _ e2),sL _ _ (sC _ _ (s2 _ _ hc.h))⟩
    | true =>
      have h0:H p=some (.tup [.str (Str.ofString "atop"),.int n,.int m]):=h0
      have ha:H a=some (.lst [.ref c.p,.ref c'.p]):=ha
      have ct:=hc.t
      have ct':=hc'.t
      walk_at "r"
      refine if_d (fun c=>absurd c (by decide +kernel)) (fun _=>?_)
      walk_at "r"
      refine if_d (fun c=>absurd c (by decide +kernel)) (fun _=>?_)
      walk_at "r"
      refine if_d (fun c=>absurd c (by decide +kernel)) (fun _=>?_)
      walk_at "r"
      refine if_d (fun _=>?_) (fun c=>absurd rfl c)
      walk_at "r"
      refine yC hc.h hc'.h hf.2.1 hf.2.2 (by decide +kernel) fun r2 H2 s2 e2=>?_
      rw [A1] at e2
      walk_at "r"
      refine zC (by simp) fun rc HC nc sC eC=>?_
      walk_at "r"
      refine zA (by simp) fun r HL nr sL eL=>?_
      refine q r [⟨rc,c.pw,r2,⟨c.b.w,adS c.b.h c'.b.h⟩⟩] HL ((s2.trans sC).trans sL) (Same.nn (s2.trans sC) nr) eL (fun x hx=>?_) rfl
      rw [List.mem_singleton.mp hx]
      exact ⟨sL _ _ eC,sL _ _ (sC _ _ (s2 _ _ hc.w)),sL _ _ (sC _ _ e2)⟩
  | shift al n k =>
    have h0:=he
    cases al with
    | false =>
      have h0:H p=some (.tup [.str (Str.ofString "stack"),.int n,.int k]):=h0
      have ha:H a=some (.lst [.ref c.p]):=ha
      have ct:=hc.t
      have ct':=hc'.t
      walk_at "r"
      refine if_d (fun c=>absurd c (by decide +kernel)) (fun _=>?_)
      walk_at "r"
      refine if_d (fun c=>absurd c (by decide +kernel)) (fun _=>?_)
      walk_at "r"
      refine if_d (fun c=>absurd c (by decide +kernel)) (fun _=>?_)
      walk_at "r"
      refine if_d (fun c=>absurd c (by decide +kernel)) (fun _=>?_)
      walk_at "r"
      refine if_d (fun _=>?_) (fun c=>absurd rfl c)
      walk_at "r"
      refine ye hc.w hf.2.2.1 (by decide +kernel) (by have:=hf.1; omega) (hf.2.1) fun r1 H1 s1 e1=>?_
      have h0:=s1 _ _ h0
      walk_at "r"
      refine ye (s1 _ _ hc.h) hf.2.2.2 (hf.2.1) (by decide) (by decide +kernel) fun r2 H2 s2 e2=>?_
      walk_at "r"
      refine zC (by simp) fun rc HC nc sC eC=>?_
      walk_at "r"
      refine zA (by simp) fun r HL nr sL eL=>?_
      refine q r [⟨rc,r1,r2,⟨shS c.b.w 1 k,shS c.b.h k 1⟩⟩] HL (((s1.trans s2).trans sC).trans sL) (Same.nn ((s1.trans s2).trans sC) nr) eL (fun x hx=>?_) rfl
      rw [List.mem_singleton.mp hx]
      exact ⟨sL _ _ eC,sL _ _ (sC _ _ (s2 _ _ e1)),sL _ _ (sC _ _ e2)⟩
    | true =>
      have h0:H p=some (.tup [.str (Str.ofString "spread"),.int n,.int k]):=h0
      have ha:H a=some (.lst [.ref c.p]):=ha
      have ct:=hc.t
      have ct':=hc'.t
      walk_at "r"
      refine if_d (fun c=>absurd c (by decide +kernel)) (fun _=>?_)
      walk_at "r"
      refine if_d (fun c=>absurd c (by decide +kernel)) (fun _=>?_)
      walk_at "r"
      refine if_d (fun c=>absurd c (by decide +kernel)) (fun _=>?_)
      walk_at "r"
      refine if_d (fun c=>absurd c (by decide +kernel)) (fun _=>?_)
      walk_at "r"
      refine if_d (fun c=>absurd c (by decide +kernel)) (fun _=>?_)
      walk_at "r"
      refine if_d (fun _=>?_) (fun c=>absurd rfl c)
      walk_at "r"
      refine ye hc.w hf.2.2.1 (hf.2.1) (by decide) (by decide +kernel) fun r1 H1 s1 e1=>?_
      have h0:=s1 _ _ h0
      walk_at "r"
      refine ye (s1 _ _ hc.h) hf.2.2.2 (by decide +kernel) (by have:=hf.1; omega) (hf.2.1) fun r2 H2 s2 e2=>?_
      walk_at "r"
      refine zC (by simp) fun rc HC nc sC eC=>?_
      walk_at "r"
      refine zA (by simp) fun r HL nr sL eL=>?_
      refine q r [⟨rc,r1,r2,⟨shS c.b.w k 1,shS c.b.h 1 k⟩⟩] HL (((s1.trans s2).trans sC).trans sL) (Same.nn ((s1.trans s2).trans sC) nr) eL (fun x hx=>?_) rfl
      rw [List.mem_singleton.mp hx]
      exact ⟨sL _ _ eC,sL _ _ (sC _ _ (s2 _ _ e1)),sL _ _ (sC _ _ e2)⟩
  | turn n =>
    have h0:=he
    have h0:H p=some (.tup [.str (Str.ofString "turn"),.int n]):=h0
    have ha:H a=some (.lst [.ref c.p]):=ha
    have ct:=hc.t
    have ct':=hc'.t
    walk_at "r"
    refine if_d (fun c=>absurd c (by decide +kernel)) (fun _=>?_)
    walk_at "r"
    refine if_d (fun c=>absurd c (by decide +kernel)) (fun _=>?_)
    walk_at "r"
    refine if_d (fun c=>absurd c (by decide +kernel)) (fun _=>?_)
    walk_at "r"
    refine if_d (fun c=>absurd c (by decide +kernel)) (fun _=>?_)
    walk_at "r"
    refine if_d (fun c=>absurd c (by decide +kernel)) (fun _=>?_)
    walk_at "r"
    refine if_d (fun c=>absurd c (by decide +kernel)) (fun _=>?_)
    walk_at "r"
    refine zC (by simp) fun rc HC nc sC eC=>?_
    walk_at "r"
    refine zA (by simp) fun r HL nr sL eL=>?_
    refine q r [⟨rc,c.ph,c.pw,⟨c.b.h,c.b.w⟩⟩] HL (((Same.refl H).trans sC).trans sL) (Same.nn ((Same.refl H).trans sC) nr) eL (fun x hx=>?_) rfl
    rw [List.mem_singleton.mp hx]
    exact ⟨sL _ _ eC,sL _ _ (sC _ _ hc.h),sL _ _ (sC _ _ hc.w)⟩
theorem ok__law_at {f:Addr} {fd:FuncData} (F:Fun K "_law_at" "_law_at" s__law_at f fd) (B:Bl mg)  (o__law_share:Own P w K mg base 3 "_law_share" ["_law_one","_law_top","_law_bottom"] [] sp__law_share) (o__law_below:Own P w K mg base 4 "_law_below" ["_law_d","_law_one","_law_other"] [] sp__law_below):FnOk P w K mg base CX0 5 f fd ["_law_d","_law_digits_here","_law_side_here","_law_pool"] sp__law_at:=by
  refine F.ok (k:=4) sc__law_at (fun vs H Q E h=>?_) (fun cdv A outer s H vs Q E hr h=>?_)
  · obtain ⟨d,l,p,qa,ds,s,P,D,M,K',rfl,hl,n8,hds,h1,so,hP,oP,zz,hR,q⟩:=h
    rfl
  obtain ⟨d,l,p,qa,ds,s,P,D,M,K',rfl,hl,n8,hds,h1,so,hP,oP,zz,hR,q⟩:=h
  refine ⟨_,(zc (zv (i:=4) sc__law_at.nd rfl (Or.inl rfl) (zh zo (pv 3) (zr zQ (zh zo (pv 1) zb (fun _ _=>rfl)) zb) (fun _ _=>rfl))) (zc (zE (PW.pt (yH (zj zY (zr zQ (zh zo (pv 1) zb (fun _ _=>rfl)) zb) zb (zp _)) (yn (zT (zi o__law_below hr rfl (za (pv 0) (za (pv 4) (za (pv 2) zd)))))))) (zf (zm (pv 4))) zn) (zc (zv (i:=5) sc__law_at.nd rfl (Or.inl rfl) (zr zZ zb (zr zQ (zh zo (pv 1) zb (fun _ _=>rfl)) zb))) (zf (zm (zi o__law_share hr rfl (za (pv 2) (za (zr zZ zb (zr zQ (zh zo (pv 1) zb (fun _ _=>rfl)) (zr xn (pv 5) zb))) (za (pv 5) zd))))))))),?_⟩
  rw [show zJ ["_law_d","_law_digits_here","_law_side_here","_law_pool","_law_at_here","_law_bottom"] [.int d,.ref l,.ref p,.ref qa]=[some (.int d),some (.ref l),some (.ref p),some (.ref qa),none,none] from rfl]
  have dlo:=hR.lo
  have hd:Bd 64 d:=zS (B:=99) (by omega) hR.hi (by decide +kernel)
  have sk:SY s:=zz.sy so
  obtain ⟨x3,g3',a3,b3⟩:=dig n8 hds 3 (by decide) (by decide)
  obtain ⟨x4,g4,a4,b4⟩:=dig n8 hds 4 (by decide) (by decide)
  obtain ⟨x5,g5,a5,b5⟩:=dig n8 hds 5 (by decide) (by decide)
  obtain ⟨x6,g6,a6,b6⟩:=dig n8 hds 6 (by decide) (by decide)
  obtain ⟨y,hy,gy,ey⟩:=hP.get (i:=x3 % 3) (by omega) (by omega)
  have oy:=oP y hy
  have hPl:=hP.l
  have fin:∀ (r:Addr) (H':Hp),Same H H'→SdAt H' r (shS s (1 + x6 % (2 + x5 % 1000 - 1)) (2 + x5 % 1000))→Q (.ref r) H':=fun r H' s' e=>by
    have h4:=Int.emod_nonneg x6 (show 2 + x5 % 1000 - 1 ≠ 0 by omega)
    have h5:=Int.emod_lt_of_pos x6 (show 0 < 2 + x5 % 1000 - 1 by omega)
    generalize x6 % (2 + x5 % 1000 - 1)=t at *
    have hk:2 ≤ 2 + x5 % 1000∧2 + x5 % 1000 ≤ 1001:=by omega
    generalize 2 + x5 % 1000=k at *
    exact q r H' _ k s' e (by omega) (zS (B:=1001) (by omega) (by omega) (by decide)) ((Er hR so (by omega) (by omega) (zS (k:=10) (B:=1001) (by omega) (by omega) (by decide))).mono (by omega)) (GI hR so.z1 so.up (by omega) (by omega))
  repeat (first | walk_at "rd" | refine zD hl g3' ?_ | refine zD hl g4 ?_ | refine zD hPl gy ?_)
  refine if_d (fun c1=>?_) (fun c1=>?_)
  · walk_at "r"
    refine yq ey h1 (zz.sy oy) sk hd fun H1 s1=>?_
    have hl:=s1 _ _ hl
    walk_at "r"
    refine if_d (fun c2=>?_) (fun c2=>?_)
    · walk_at "r"
      exact q y.1 H1 y.2 1 s1 (s1 _ _ ey) (by decide) (by decide) (by rw [Int.mul_one]; exact oy.mono (by omega)) (GS hR so.z1 oy.z1 c2)
    · repeat (first | walk_at "rd" | refine zD hl g5 ?_ | refine zD hl g6 ?_)
      have h4:=Int.emod_nonneg x6 (show 2 + x5 % 1000 - 1 ≠ 0 by omega)
      have h5:=Int.emod_lt_of_pos x6 (show 0 < 2 + x5 % 1000 - 1 by omega)
      repeat (first | walk_at "rd" | refine zD hl g5 ?_ | refine zD hl g6 ?_)
      refine ye (s1 _ _ h1) sk (xq 64 (by omega) (by omega) (by decide)) (by omega) (xq 64 (by omega) (by omega) (by decide)) fun r Hz sz ez=>?_
      exact fin r Hz (s1.trans sz) ez
  · repeat (first | walk_at "rd" | refine zD hl g5 ?_ | refine zD hl g6 ?_)
    have h4:=Int.emod_nonneg x6 (show 2 + x5 % 1000 - 1 ≠ 0 by omega)
    have h5:=Int.emod_lt_of_pos x6 (show 0 < 2 + x5 % 1000 - 1 by omega)
    repeat (first | walk_at "rd" | refine zD hl g5 ?_ | refine zD hl g6 ?_)
    refine ye h1 sk (xq 64 (by omega) (by omega) (by decide)) (by omega) (xq 64 (by omega) (by omega) (by decide)) fun r Hz sz ez=>?_
    exact fin r Hz (sz) ez
theorem uW:∀ {ms:List Int} {ns:List Nat},(yx ns ms).length ≤ ns.length
  | [],_=>Nat.le_refl _
  | _ :: ms,ns=>Nat.le_trans (uW (ms:=ms)) (List.length_filter_le ..)
theorem ok__law_done {f:Addr} {fd:FuncData} (F:Fun K "_law_done" "_law_done" s__law_done f fd) (B:Bl mg)  (o__law_new:Own P w K mg base 4 "_law_new" ["_law_deed_here","_law_some"] [] sp__law_new):FnOk P w K mg base CX0 5 f fd ["_law_lying","_law_used","_law_deed_here"] sp__law_done:=by
  refine F.ok (k:=4) sc__law_done (fun vs H Q E h=>?_) (fun cdv A outer s H vs Q E hr h=>?_)
  · obtain ⟨a,p,ns,f,k,d,D,M,e,n,m,rfl,hL,lt,nl,he,gd,q⟩:=h
    rfl
  obtain ⟨a,p,ns,f,k,d,D,M,e,n,m,rfl,hL,lt,nl,he,gd,q⟩:=h
  refine ⟨_,(zc (zv (i:=3) sc__law_done.nd rfl (Or.inl rfl) (zU (za (zh zg (pv 2) zb (fun _ _=>rfl)) zd))) (zc (wM (zE (zj yl (zh zg (pv 2) zb (fun _ _=>rfl)) (zK (za zG (za zG zd))) (by with_unfolding_all rfl)) (zf (yh (uw PySem.F.plainAttrs_list PySem.F.slot_list_append PySem.F.type_list_append ym (pv 3) (za (zh zg (pv 2) zb (fun _ _=>rfl)) zd)))) zn)) (zc (zv (i:=4) sc__law_done.nd rfl (Or.inl rfl) (zi o__law_new hr rfl (za (pv 2) (za (yi ["_law_name"] [0] rfl (zW (pv 3)) (fun _ _ _ _ _=>(zw (i:=0) (show List.Nodup (α:=Str) ["_law_name","_law_lying"] by decide +kernel) rfl (Or.inl rfl))) (fun _ _ _ _ _=>zR) (fun _ _ _ _ _=>(yu (yO hr) (pv 1) (pv 0) (fun _ _=>rfl)))) zd)))) (zc (zv (i:=5) sc__law_done.nd rfl (Or.inl rfl) (yb AD rfl B.dict Cf (za (pv 0) zd))) (zc (yE PassesOwn.never rfl (zW (pv 3)) (zw (i:=6) sc__law_done.nd rfl (Or.inl rfl)) (zf (yh (Ai (pv 5) (pv 6) ⟨rfl,rfl,rfl,rfl⟩)))) (zc (yE PassesOwn.never rfl (yF rfl B.range (za (zu zy rfl B.len PySem.boot_len (za (pv 4) zd)) zd)) (zw (i:=7) sc__law_done.nd rfl (Or.inl rfl)) (zf (xY (yO hr) (pv 5) (zr zZ (pv 1) (pv 7)) (zh zo (pv 4) (pv 7) (fun _ _=>rfl)) rfl))) (zf (zm (zK (za (pv 5) (za (zr zZ (pv 1) (zu zy rfl B.len PySem.boot_len (za (pv 4) zd))) zd))))))))))),?_⟩
  rw [show zJ ["_law_lying","_law_used","_law_deed_here","_law_names","_law_new_here","_law_left","_law_name","_law_k"] [.ref a,.int (k:Int),.ref p]=[some (.ref a),some (.int (k:Int)),some (.ref p),none,none,none,none,none] from rfl]
  obtain ⟨rs,hp⟩:=he.tup
  have hcn:=hL.at' n gd.hn
  have hcm:=hL.at' m gd.hm
  walk_at "r"
  refine xg hp (zI (j:=1) rfl) ?_
  walk_at "r"
  refine zA (by simp) fun l H1 nl1 s1 e1=>?_
  walk_at "r"
  refine tN (T:=fun σ' H'=>σ'=[some (.ref a),some (.int (k:Int)),some (.ref p),some (.ref l),none,none,none,none]∧SameX l H1 H'∧H' l=some (.lst (e.names.map V.int))) ?_ ?_
  · clear gd q hp
    cases e with
    | cut al n' s' =>
      obtain ⟨pq,h0,hs⟩:=he
      cases al with
      | false =>
        have h0:H p=some (.tup [.str (Str.ofString "across"),.int n',.ref pq]):=h0
        have h0:=s1 _ _ h0
        walk_at "r"
        refine zP (by simp) fun q2 H2 s2 e2=>?_
        refine yr (b:=false) e2 rfl rfl (by decide +kernel) ?_
        have h0:=s2 _ _ h0
        have e1:=s2 _ _ e1
        walk_at "r"
        exact ⟨rfl,s2.sameX l,e1⟩
      | true =>
        have h0:H p=some (.tup [.str (Str.ofString "along"),.int n',.ref pq]):=h0
        have h0:=s1 _ _ h0
        walk_at "r"
        refine zP (by simp) fun q2 H2 s2 e2=>?_
        refine yr (b:=false) e2 rfl rfl (by decide +kernel) ?_
        have h0:=s2 _ _ h0
        have e1:=s2 _ _ e1
        walk_at "r"
        exact ⟨rfl,s2.sameX l,e1⟩
    | glue al n' m' =>
      have h0:=he
      cases al with
      | false =>
        have h0:H p=some (.tup [.str (Str.ofString "beside"),.int n',.int m']):=h0
        have h0:=s1 _ _ h0
        walk_at "r"
        refine zP (by simp) fun q2 H2 s2 e2=>?_
        refine yr (b:=true) e2 rfl rfl (by decide +kernel) ?_
        have h0:=s2 _ _ h0
        have e1:=s2 _ _ e1
        walk_at "r"
        refine zB e1 (by simp) fun H3 x3 e3=>?_
        walk_at "r"
        exact ⟨rfl,(s2.sameX l).trans x3,e3⟩
      | true =>
        have h0:H p=some (.tup [.str (Str.ofString "atop"),.int n',.int m']):=h0
        have h0:=s1 _ _ h0
        walk_at "r"
        refine zP (by simp) fun q2 H2 s2 e2=>?_
        refine yr (b:=true) e2 rfl rfl (by decide +kernel) ?_
        have h0:=s2 _ _ h0
        have e1:=s2 _ _ e1
        walk_at "r"
        refine zB e1 (by simp) fun H3 x3 e3=>?_
        walk_at "r"
        exact ⟨rfl,(s2.sameX l).trans x3,e3⟩
    | shift al n' k' =>
      have h0:=he
      cases al with
      | false =>
        have h0:H p=some (.tup [.str (Str.ofString "stack"),.int n',.int k']):=h0
        have h0:=s1 _ _ h0
        walk_at "r"
        refine zP (by simp) fun q2 H2 s2 e2=>?_
        refine yr (b:=false) e2 rfl rfl (by decide +kernel) ?_
        have h0:=s2 _ _ h0
        have e1:=s2 _ _ e1
        walk_at "r"
        exact ⟨rfl,s2.sameX l,e1⟩
      | true =>
        have h0:H p=some (.tup [.str (Str.ofString "spread"),.int n',.int k']):=h0
        have h0:=s1 _ _ h0
        walk_at "r"
        refine zP (by simp) fun q2 H2 s2 e2=>?_
        refine yr (b:=false) e2 rfl rfl (by decide +kernel) ?_
        have h0:=s2 _ _ h0
        have e1:=s2 _ _ e1
        walk_at "r"
        exact ⟨rfl,s2.sameX l,e1⟩
    | turn n' =>
      have h0:=he
      have h0:H p=some (.tup [.str (Str.ofString "turn"),.int n']):=h0
      have h0:=s1 _ _ h0
      walk_at "r"
      refine zP (by simp) fun q2 H2 s2 e2=>?_
      refine yr (b:=false) e2 rfl rfl (by decide +kernel) ?_
      have h0:=s2 _ _ h0
      have e1:=s2 _ _ e1
      walk_at "r"
      exact ⟨rfl,s2.sameX l,e1⟩
  rintro σ' H2 ⟨rfl,sx2,e2⟩
  have s2:Same H H2:=fun b o e=>sx2 b o (s1 b o e) (ze e nl1)
  have hL2:=hL.same s2
  clear sx2 e1 s1
  walk_at "r"
  refine yt ?_
  walk_at "r"
  refine ⟨l,rfl,⟨_,SqL.of e2⟩,fun O hO=>z3 (K:=K) (a:=l) (ys:=e.names.map V.int) (fun i xs σ' H'=>∃ v:Option V,σ'=[v,some (.ref a)]∧xs=((e.cells (f n) (f m)).take i).map Cell.v∧H' O=some (.lst xs)∧SameX O H2 H') ⟨none,rfl,rfl,zk,fun b o e n=>by rw [zt n]; exact e⟩ (fun i xs σ' H' _ z=>by obtain ⟨v,_,_,_,z⟩:=z; exact SqL.of (z _ _ e2 (ze e2 hO))) ?_ ?_⟩
  · rintro i x xs σ' H' hi ⟨v,rfl,rfl,eO,sx⟩
    rw [List.getElem?_map] at hi
    obtain ⟨z,hz,rfl⟩:=Option.map_eq_some_iff.mp hi
    obtain ⟨j,hj,rfl,hcx⟩:=Bf gd hz
    have hi3:=(List.getElem?_eq_some_iff.mp hz).1
    have hn2:=e.names_len
    have s':Same H2 H':=fun b o e=>sx b o e (ze e hO)
    have hL':=hL2.same s'
    walk_at "r"
    refine ⟨a,_,rfl,DGet.k (k:=.inl (j:Int)) hL'.l |> (fun z=>by rw [zF hj] at z; exact z),?_⟩
    walk_at "r"
    refine zB eO (by rw [List.length_map,List.length_take]; omega) fun H3 x3 e3=>?_
    refine yv (by rw [List.length_map]; exact hi3) ⟨_,rfl,rfl,?_,sx.trans x3⟩
    rw [List.take_succ,hcx,List.map_append]
    exact e3
  rintro xs σ' H3 ⟨v,rfl,rfl,eO,sx⟩
  have s3:Same H2 H3:=fun b o e=>sx b o e (ze e hO)
  rw [List.length_map,← e.cells_len (f n) (f m),List.take_length] at eO
  clear sx
  have t3:=s2.trans s3
  walk_at "r"
  refine AO (he.same t3) (by rw [eO]; unfold Dd.cells; cases e.two <;> rfl) (hcn.same t3) (hcm.same t3) gd.fit fun r4 N H4 s4 n4 e4 hN hNb=>?_
  have t4:=t3.trans s4
  have hL4:=hL.same t4
  have hNl:N.length ≤ 2:=by rw [← List.length_map (f:=Cell.b),hNb]; exact vT e _ _
  have e2:=s4 _ _ (s3 _ _ e2)
  walk_at "r"
  refine C9 hL4.l fun A H5 n5 s5 e5=>?_
  have lA:l ≠ A:=ze e2 n5
  have e2:=s5 _ _ e2
  walk_at "r"
  refine wn ?_
  walk_at "r"
  refine ⟨l,rfl,⟨_,SqL.of e2⟩,yM (K:=K) (a:=l) (xs:=e.names.map V.int) (fun i σ H'=>∃ v,σ=[some (.ref a),some (.int (k:Int)),some (.ref p),some (.ref l),some (.ref r4),some (.ref A),v,none]∧H' A=some (.dK (cdK (yx ns (e.names.take i)) f))∧SameX A H5 H') ⟨_,rfl,e5,fun b o e _=>e⟩ (fun i σ H' _ ⟨_,_,_,x⟩=>SqL.of (x _ _ e2 lA)) ?_ ?_⟩
  · rintro i x σ H' hi ⟨v,rfl,el,sx⟩
    rw [List.getElem?_map] at hi
    obtain ⟨z,hz,rfl⟩:=Option.map_eq_some_iff.mp hi
    obtain ⟨j,hj,rfl,hcx⟩:=Bf gd hz
    have hni:(j:Int) ∉ e.names.take i:=by
      intro hh
      obtain ⟨j',hj'⟩:=List.getElem?_of_mem hh
      have hj1:=(List.getElem?_eq_some_iff.mp hj').1
      rw [List.length_take] at hj1
      rw [List.getElem?_take_of_lt (by omega)] at hj'
      have:=(List.getElem?_inj (i:=j') (by omega) gd.nodup).mp (hj'.trans hz.symm)
      omega
    walk_at "r"
    refine ⟨A,rfl,.inl ⟨_,.inl el⟩,?_⟩
    walk_at "r"
    refine ⟨_,.inl (j:Int),_,el,rfl,zF (mem_ndrop.mpr ⟨hj,hni⟩),?_⟩
    refine ⟨_,rfl,?_,fun b o e n=>by rw [zt n]; exact sx b o e n⟩
    rw [zk,uY,List.take_succ,hz,show ((some (j:Int)).toList)=[(j:Int)] from rfl,wl]
  rintro σ H6 ⟨v,rfl,el6,sx6⟩
  rw [List.length_map,List.take_length,A8 (g:=fN f k N) (fun j hj=>(ED (lt j (mem_ndrop.mp hj).1)).symm)] at el6
  have rA:r4 ≠ A:=ze e4 n5
  have e4:=sx6 _ _ (s5 _ _ e4) rA
  have dl:(yx ns e.names).length ≤ ns.length:=uW
  walk_at "r"
  refine vI ?_
  walk_at "r"
  rw [List.length_map]
  refine ⟨(N.length:Int),rfl,by omega,by omega,xD (lo:=0) (n:=(N.length:Int).toNat) (fun i σ H'=>∃ v v',σ=[some (.ref a),some (.int (k:Int)),some (.ref p),some (.ref l),some (.ref r4),some (.ref A),v,v']∧H' A=some (.dK (cdK (yx ns e.names ++ List.range' k i) (fN f k N)))∧SameX A H6 H') ⟨_,_,rfl,by simpa using el6,fun b o e _=>e⟩ ?_ ?_⟩
  · rintro i σ H' hi ⟨v,v',rfl,el,sx⟩
    have hi':i < N.length:=by omega
    have e4':=sx _ _ e4 rA
    obtain ⟨cx,hcx⟩:∃ c,N[i]?=some c:=⟨_,List.getElem?_eq_getElem hi'⟩
    walk_at "r"
    refine zD e4' (v:=cx.v) (by rw [show (0:Int) + (i:Int)=((i:Nat):Int) by omega]; exact zI (by rw [List.getElem?_map,hcx]; rfl)) ?_
    walk_at "r"
    rw [show (k:Int) + (0 + (i:Int))=((k + i:Nat):Int) by omega]
    refine ⟨A,_,rfl,DPut.k (k:=.inl ((k + i:Nat):Int)) el (by rw [tq,List.length_append,List.length_range']; exact Nat.lt_of_lt_of_le (show _ < 1000 by omega) (by decide +kernel)),?_⟩
    refine ⟨_,_,rfl,?_,fun b o e n=>by rw [zt n]; exact sx b o e n⟩
    rw [zk,v7 _ (xA (fun j hj=>?_)),List.range'_concat,← List.append_assoc,Az,Nat.one_mul,D7,wm hcx]
    rcases List.mem_append.mp hj with hj | hj
    · have:=lt j (mem_ndrop.mp hj).1
      omega
    · have:=List.mem_range'_1.mp hj
      omega
  rintro σ H7 ⟨v,v',rfl,el7,sx7⟩
  have sE:Same H4 H7:=fun b o e=>sx7 _ _ (sx6 _ _ (s5 _ _ e) (ze e n5)) (ze e n5)
  rw [Int.toNat_natCast] at el7
  have e4:=sx7 _ _ e4 rA
  walk_at "r"
  rw [List.length_map]
  walk_at "r"
  refine zC (by simp) fun r H8 n8 s8 e8=>?_
  refine q r A N H8 ((t4.trans sE).trans s8) (Same.nn t4 n5) (by rw [Int.natCast_add]; exact e8) hNb ⟨s8 _ _ el7,fun j hj=>?_⟩
  rcases List.mem_append.mp hj with hj | hj
  · have hj:=(mem_ndrop.mp hj).1
    rw [ED (lt j hj)]
    exact ((hL4.at' j hj).same sE).same s8
  · have hj:=List.mem_range'_1.mp hj
    obtain ⟨i,rfl⟩:∃ i,j=k + i:=⟨j - k,by omega⟩
    have hi:i < N.length:=by omega
    rw [D7,wm (List.getElem?_eq_getElem hi)]
    exact ((hN _ (List.getElem_mem hi)).same sE).same s8
theorem ok__law_fits {f:Addr} {fd:FuncData} (F:Fun K "_law_fits" "_law_fits" s__law_fits f fd) (B:Bl mg)  (o__law_below:Own P w K mg base 4 "_law_below" ["_law_d","_law_one","_law_other"] [] sp__law_below) (o__law_whole:Own P w K mg base 1 "_law_whole" ["_law_found"] [] sp__law_whole) (o__law_is_length:Own P w K mg base 2 "_law_is_length" ["_law_found"] [] sp__law_is_length):FnOk P w K mg base CX0 5 f fd ["_law_d","_law_deed_here","_law_lying","_law_turning"] sp__law_fits:=by
  refine F.ok (k:=4) sc__law_fits (fun vs H Q E h=>?_) (fun cdv A outer s H vs Q E hr h=>?_)
  · obtain ⟨d,p,a,tn,ns,f,e,n,m,rfl,he,hL,hn,hm,nm,ne,eq,ok,fit,ht,hd,hR,q⟩:=h
    rfl
  obtain ⟨d,p,a,tn,ns,f,e,n,m,rfl,he,hL,hn,hm,nm,ne,eq,ok,fit,ht,hd,hR,q⟩:=h
  refine ⟨_,(zc (zE (PW.pt (yZ (z8 (zT (zu zN rfl B.isinstance zH (za (pv 1) (za (yw (v:=.ty "tuple") rfl B.tuple xV rfl) zd))))) (yZ (zj vO (zu zy rfl B.len PySem.boot_len (za (pv 1) zd)) zb (zp _)) (yZ (z8 (zT (zi o__law_whole hr rfl (za (zh zg (pv 1) zb (fun _ _=>rfl)) zd)))) (y8 (Cu (wK (yO hr) (zh zg (pv 1) zb (fun _ _=>rfl)) (pv 2)))))))) (zf (zm yT)) zn) (zc (zE (zj zY (zh zg (pv 1) zb (fun _ _=>rfl)) zG (zp _)) (zf (zm (wo (pv 3) (wq (zO zY (zu zy rfl B.len PySem.boot_len (za (pv 1) zd)) zb (zp _)))))) zn) (zc (zE (zj uq (zu zy rfl B.len PySem.boot_len (za (pv 1) zd)) zb (zp _)) (zf (zm yT)) zn) (zc (zE (zj yl (zh zg (pv 1) zb (fun _ _=>rfl)) (zK (za zG (za zG zd))) (by with_unfolding_all rfl)) (zc (zv (i:=4) sc__law_fits.nd rfl (Or.inl rfl) (yb xk rfl B.int wS (za (zO zY (zh zg (pv 1) zb (fun _ _=>rfl)) zG (zp _)) zd))) (zc (zE (PW.pt (yZ (z8 (zT (zi o__law_whole hr rfl (za (zh zg (pv 1) zb (fun _ _=>rfl)) zd)))) (yZ (Cu (wK (yO hr) (zh zg (pv 1) zb (fun _ _=>rfl)) (pv 2))) (y8 (zj zY (zh zg (pv 1) zb (fun _ _=>rfl)) (zh zg (pv 1) zb (fun _ _=>rfl)) (zp _)))))) (zf (zm yT)) zn) (zf (zm (zO (A7 hr.units) (zh zg (yu (yO hr) (pv 2) (zh zg (pv 1) zb (fun _ _=>rfl)) (fun _ _=>rfl)) (pv 4) (fun _ _=>rfl)) (zh zg (yu (yO hr) (pv 2) (zh zg (pv 1) zb (fun _ _=>rfl)) (fun _ _=>rfl)) (pv 4) (fun _ _=>rfl)) (zp _)))))) zn) (zc (zE (zj yl (zh zg (pv 1) zb (fun _ _=>rfl)) (zK (za zG (za zG zd))) (by with_unfolding_all rfl)) (zf (zm (wo (zi o__law_whole hr rfl (za (zh zg (pv 1) zb (fun _ _=>rfl)) zd)) (wq (zO wb (zh zg (pv 1) zb (fun _ _=>rfl)) zb (zp _)))))) zn) (zc (zv (i:=4) sc__law_fits.nd rfl (Or.inl rfl) (yb xk rfl B.int wS (za (zO zY (zh zg (pv 1) zb (fun _ _=>rfl)) zG (zp _)) zd))) (zc (zE (PW.pt (yZ (zj wy (zh zg (pv 1) zb (fun _ _=>rfl)) (zK (za zG (za zG zd))) (by with_unfolding_all rfl)) (yZ (z8 (zT (zi o__law_is_length hr rfl (za (zh zg (pv 1) zb (fun _ _=>rfl)) zd)))) (y8 (z8 (zT (zi o__law_below hr rfl (za (pv 0) (za (zK (za zb (za zb (za zb zd)))) (za (zh zg (pv 1) zb (fun _ _=>rfl)) zd)))))))))) (zf (zm yT)) zn) (zf (zm (zi o__law_below hr rfl (za (pv 0) (za (zh zg (pv 1) zb (fun _ _=>rfl)) (za (zh zg (yu (yO hr) (pv 2) (zh zg (pv 1) zb (fun _ _=>rfl)) (fun _ _=>rfl)) (pv 4) (fun _ _=>rfl)) zd))))))))))))),?_⟩
  rw [show zJ ["_law_d","_law_deed_here","_law_lying","_law_turning","_law_side_here"] [.int d,.ref p,.ref a,.bl tn]=[some (.int d),some (.ref p),some (.ref a),some (.bl tn),none] from rfl]
  cases e with
  | cut al n' s' =>
    obtain ⟨pq,h0,hs⟩:=he
    cases al with
    | false =>
      have h0:H p=some (.tup [.str (Str.ofString "across"),.int n',.ref pq]):=h0
      simp [Dd.names,Dd.two,Dd.n] at nm
      subst nm
      have mn:m=n:=eq rfl
      subst mn
      walk_at "r"
      refine if_d (fun c=>absurd c (by simp)) (fun _=>?_)
      walk_at "r"
      refine ⟨a,_,rfl,DGet.k (k:=.inl (m:Int)) hL.l |> (fun z=>by rw [zF hn] at z; exact z),?_⟩
      rw [show (!(some (f m).v).isSome)=false from rfl]
      walk_at "r"
      refine if_d (fun c=>absurd c (by decide +kernel)) (fun _=>?_)
      walk_at "r"
      refine xr (by rfl) ?_
      walk_at "r"
      refine zP (by simp) fun q2 H2 s2 e2=>?_
      refine yr (b:=false) e2 rfl rfl (by decide +kernel) ?_
      have h0:=s2 _ _ h0
      have hL2:=hL.same s2
      walk_at "r"
      refine zP (by simp) fun q3 H3 s3 e3=>?_
      refine yr (b:=false) e3 rfl rfl (by decide +kernel) ?_
      have h0:=s3 _ _ h0
      have hL3:=hL2.same s3
      walk_at "r"
      rw [show decide (Str.ofString "across"=Str.ofString "along")=false from by decide +kernel]
      walk_at "r"
      refine zP (by simp) fun q4 H4 s4 e4=>?_
      refine DD (b:=false) e4 rfl rfl (by decide +kernel) ?_
      have h0:=s4 _ _ h0
      have hs4:=(s2.trans (s3.trans s4)) _ _ hs
      walk_at "r"
      refine y9 hs4 ?_
      walk_at "r"
      refine zP (by simp) fun q5 H5 s5 e5=>?_
      have h0:=s5 _ _ h0
      have hs5:=s5 _ _ hs4
      walk_at "r"
      obtain ⟨f1,f2,f3,f4⟩:=fit
      have i0:=xL (d:=d) (s:=⟨0,0,1⟩) (t:=s') hR (by decide) f2.z1
      have i1:=xL (d:=d) (s:=s') (t:=(f m).b.w) hR f2.z1 f1.z1
      simp only [Int.mul_one,Int.zero_mul,Int.sub_zero] at i0
      refine yq (s:=⟨0,0,1⟩) e5 hs5 ud f2 hd fun H6 s6=>?_
      rw [decide_eq_true (i0.mpr f3)]
      have h0:=s6 _ _ h0
      have hL6:=((hL3.same s4).same s5).same s6
      have cn:=hL6.at' m hn
      have ctn:=cn.t
      walk_at "r"
      refine ⟨a,_,rfl,DGet.k (k:=.inl (m:Int)) hL6.l |> (fun z=>by rw [zF hn] at z; exact z),?_⟩
      walk_at "r"
      refine xg ctn (zI (j:=0) rfl) ?_
      walk_at "r"
      refine yq (s6 _ _ hs5) cn.w f2 f1 hd fun H7 s7=>?_
      rw [decide_eq_true (i1.mpr f4)]
      exact q _ (((((s2.trans s3).trans s4).trans s5).trans s6).trans s7)
    | true =>
      have h0:H p=some (.tup [.str (Str.ofString "along"),.int n',.ref pq]):=h0
      simp [Dd.names,Dd.two,Dd.n] at nm
      subst nm
      have mn:m=n:=eq rfl
      subst mn
      walk_at "r"
      refine if_d (fun c=>absurd c (by simp)) (fun _=>?_)
      walk_at "r"
      refine ⟨a,_,rfl,DGet.k (k:=.inl (m:Int)) hL.l |> (fun z=>by rw [zF hn] at z; exact z),?_⟩
      rw [show (!(some (f m).v).isSome)=false from rfl]
      walk_at "r"
      refine if_d (fun c=>absurd c (by decide +kernel)) (fun _=>?_)
      walk_at "r"
      refine xr (by rfl) ?_
      walk_at "r"
      refine zP (by simp) fun q2 H2 s2 e2=>?_
      refine yr (b:=false) e2 rfl rfl (by decide +kernel) ?_
      have h0:=s2 _ _ h0
      have hL2:=hL.same s2
      walk_at "r"
      refine zP (by simp) fun q3 H3 s3 e3=>?_
      refine yr (b:=false) e3 rfl rfl (by decide +kernel) ?_
      have h0:=s3 _ _ h0
      have hL3:=hL2.same s3
      walk_at "r"
      rw [show decide (Str.ofString "along"=Str.ofString "along")=true from by decide +kernel]
      walk_at "r"
      refine zP (by simp) fun q4 H4 s4 e4=>?_
      refine DD (b:=false) e4 rfl rfl (by decide +kernel) ?_
      have h0:=s4 _ _ h0
      have hs4:=(s2.trans (s3.trans s4)) _ _ hs
      walk_at "r"
      refine y9 hs4 ?_
      walk_at "r"
      refine zP (by simp) fun q5 H5 s5 e5=>?_
      have h0:=s5 _ _ h0
      have hs5:=s5 _ _ hs4
      walk_at "r"
      obtain ⟨f1,f2,f3,f4⟩:=fit
      have i0:=xL (d:=d) (s:=⟨0,0,1⟩) (t:=s') hR (by decide) f2.z1
      have i1:=xL (d:=d) (s:=s') (t:=(f m).b.h) hR f2.z1 f1.z1
      simp only [Int.mul_one,Int.zero_mul,Int.sub_zero] at i0
      refine yq (s:=⟨0,0,1⟩) e5 hs5 ud f2 hd fun H6 s6=>?_
      rw [decide_eq_true (i0.mpr f3)]
      have h0:=s6 _ _ h0
      have hL6:=((hL3.same s4).same s5).same s6
      have cn:=hL6.at' m hn
      have ctn:=cn.t
      walk_at "r"
      refine ⟨a,_,rfl,DGet.k (k:=.inl (m:Int)) hL6.l |> (fun z=>by rw [zF hn] at z; exact z),?_⟩
      walk_at "r"
      refine xg ctn (zI (j:=1) rfl) ?_
      walk_at "r"
      refine yq (s6 _ _ hs5) cn.h f2 f1 hd fun H7 s7=>?_
      rw [decide_eq_true (i1.mpr f4)]
      exact q _ (((((s2.trans s3).trans s4).trans s5).trans s6).trans s7)
  | glue al n' m' =>
    have h0:=he
    cases al with
    | false =>
      have h0:H p=some (.tup [.str (Str.ofString "beside"),.int n',.int m']):=h0
      simp [Dd.names,Dd.two,Dd.n] at nm
      obtain ⟨rfl,rfl⟩:=nm
      walk_at "r"
      refine if_d (fun c=>absurd c (by simp)) (fun _=>?_)
      walk_at "r"
      refine ⟨a,_,rfl,DGet.k (k:=.inl (n:Int)) hL.l |> (fun z=>by rw [zF hn] at z; exact z),?_⟩
      rw [show (!(some (f n).v).isSome)=false from rfl]
      walk_at "r"
      refine if_d (fun c=>absurd c (by decide +kernel)) (fun _=>?_)
      walk_at "r"
      refine xr (by rfl) ?_
      walk_at "r"
      refine zP (by simp) fun q2 H2 s2 e2=>?_
      refine yr (b:=true) e2 rfl rfl (by decide +kernel) ?_
      have h0:=s2 _ _ h0
      have hL2:=hL.same s2
      walk_at "r"
      rw [show decide (Str.ofString "beside"=Str.ofString "beside")=true from by decide +kernel]
      have cn:=hL2.at' n hn
      have cm:=hL2.at' m hm
      have ctn:=cn.t
      have ctm:=cm.t
      have nem:=ne rfl
      walk_at "r"
      refine ⟨a,_,rfl,DGet.k (k:=.inl (m:Int)) hL2.l |> (fun z=>by rw [zF hm] at z; exact z),?_⟩
      rw [show (!(some (f m).v).isSome)=false from rfl]
      walk_at "r"
      refine if_d (fun c=>absurd (by omega) nem) (fun _=>?_)
      walk_at "r"
      refine ⟨a,_,rfl,DGet.k (k:=.inl (n:Int)) hL2.l |> (fun z=>by rw [zF hn] at z; exact z),?_⟩
      walk_at "r"
      refine xg ctn (zI (j:=1) rfl) ?_
      walk_at "r"
      refine ⟨a,_,rfl,DGet.k (k:=.inl (m:Int)) hL2.l |> (fun z=>by rw [zF hm] at z; exact z),?_⟩
      walk_at "r"
      refine xg ctm (zI (j:=1) rfl) ?_
      walk_at "r"
      refine EW cn.h cm.h ?_
      have hsd:(f n).b.h=(f m).b.h:=fit.1
      rw [show decide ((f n).b.h.x=(f m).b.h.x∧(f n).b.h.y=(f m).b.h.y∧(f n).b.h.z=(f m).b.h.z)=true from decide_eq_true (by rw [hsd]; exact ⟨rfl,rfl,rfl⟩)]
      exact q _ s2
    | true =>
      have h0:H p=some (.tup [.str (Str.ofString "atop"),.int n',.int m']):=h0
      simp [Dd.names,Dd.two,Dd.n] at nm
      obtain ⟨rfl,rfl⟩:=nm
      walk_at "r"
      refine if_d (fun c=>absurd c (by simp)) (fun _=>?_)
      walk_at "r"
      refine ⟨a,_,rfl,DGet.k (k:=.inl (n:Int)) hL.l |> (fun z=>by rw [zF hn] at z; exact z),?_⟩
      rw [show (!(some (f n).v).isSome)=false from rfl]
      walk_at "r"
      refine if_d (fun c=>absurd c (by decide +kernel)) (fun _=>?_)
      walk_at "r"
      refine xr (by rfl) ?_
      walk_at "r"
      refine zP (by simp) fun q2 H2 s2 e2=>?_
      refine yr (b:=true) e2 rfl rfl (by decide +kernel) ?_
      have h0:=s2 _ _ h0
      have hL2:=hL.same s2
      walk_at "r"
      rw [show decide (Str.ofString "atop"=Str.ofString "beside")=false from by decide +kernel]
      have cn:=hL2.at' n hn
      have cm:=hL2.at' m hm
      have ctn:=cn.t
      have ctm:=cm.t
      have nem:=ne rfl
      walk_at "r"
      refine ⟨a,_,rfl,DGet.k (k:=.inl (m:Int)) hL2.l |> (fun z=>by rw [zF hm] at z; exact z),?_⟩
      rw [show (!(some (f m).v).isSome)=false from rfl]
      walk_at "r"
      refine if_d (fun c=>absurd (by omega) nem) (fun _=>?_)
      walk_at "r"
      refine ⟨a,_,rfl,DGet.k (k:=.inl (n:Int)) hL2.l |> (fun z=>by rw [zF hn] at z; exact z),?_⟩
      walk_at "r"
      refine xg ctn (zI (j:=0) rfl) ?_
      walk_at "r"
      refine ⟨a,_,rfl,DGet.k (k:=.inl (m:Int)) hL2.l |> (fun z=>by rw [zF hm] at z; exact z),?_⟩
      walk_at "r"
      refine xg ctm (zI (j:=0) rfl) ?_
      walk_at "r"
      refine EW cn.w cm.w ?_
      have hsd:(f n).b.w=(f m).b.w:=fit.1
      rw [show decide ((f n).b.w.x=(f m).b.w.x∧(f n).b.w.y=(f m).b.w.y∧(f n).b.w.z=(f m).b.w.z)=true from decide_eq_true (by rw [hsd]; exact ⟨rfl,rfl,rfl⟩)]
      exact q _ s2
  | shift al n' k' =>
    have h0:=he
    cases al with
    | false =>
      have h0:H p=some (.tup [.str (Str.ofString "stack"),.int n',.int k']):=h0
      simp [Dd.names,Dd.two,Dd.n] at nm
      subst nm
      have mn:m=n:=eq rfl
      subst mn
      walk_at "r"
      refine if_d (fun c=>absurd c (by simp)) (fun _=>?_)
      walk_at "r"
      refine ⟨a,_,rfl,DGet.k (k:=.inl (m:Int)) hL.l |> (fun z=>by rw [zF hn] at z; exact z),?_⟩
      rw [show (!(some (f m).v).isSome)=false from rfl]
      walk_at "r"
      refine if_d (fun c=>absurd c (by decide +kernel)) (fun _=>?_)
      walk_at "r"
      refine xr (by rfl) ?_
      walk_at "r"
      refine zP (by simp) fun q2 H2 s2 e2=>?_
      refine yr (b:=false) e2 rfl rfl (by decide +kernel) ?_
      have h0:=s2 _ _ h0
      have hL2:=hL.same s2
      walk_at "r"
      refine zP (by simp) fun q3 H3 s3 e3=>?_
      refine yr (b:=true) e3 rfl rfl (by decide +kernel) ?_
      have h0:=s3 _ _ h0
      have hL3:=hL2.same s3
      walk_at "r"
      exact bl_q (decide_eq_true (show 0 < k' by have:=ok.1; omega)) (q _ (s2.trans s3))
    | true =>
      have h0:H p=some (.tup [.str (Str.ofString "spread"),.int n',.int k']):=h0
      simp [Dd.names,Dd.two,Dd.n] at nm
      subst nm
      have mn:m=n:=eq rfl
      subst mn
      walk_at "r"
      refine if_d (fun c=>absurd c (by simp)) (fun _=>?_)
      walk_at "r"
      refine ⟨a,_,rfl,DGet.k (k:=.inl (m:Int)) hL.l |> (fun z=>by rw [zF hn] at z; exact z),?_⟩
      rw [show (!(some (f m).v).isSome)=false from rfl]
      walk_at "r"
      refine if_d (fun c=>absurd c (by decide +kernel)) (fun _=>?_)
      walk_at "r"
      refine xr (by rfl) ?_
      walk_at "r"
      refine zP (by simp) fun q2 H2 s2 e2=>?_
      refine yr (b:=false) e2 rfl rfl (by decide +kernel) ?_
      have h0:=s2 _ _ h0
      have hL2:=hL.same s2
      walk_at "r"
      refine zP (by simp) fun q3 H3 s3 e3=>?_
      refine yr (b:=true) e3 rfl rfl (by decide +kernel) ?_
      have h0:=s3 _ _ h0
      have hL3:=hL2.same s3
      walk_at "r"
      exact bl_q (decide_eq_true (show 0 < k' by have:=ok.1; omega)) (q _ (s2.trans s3))
  | turn n' =>
    have h0:=he
    have h0:H p=some (.tup [.str (Str.ofString "turn"),.int n']):=h0
    simp [Dd.names,Dd.two,Dd.n] at nm
    subst nm
    have mn:m=n:=eq rfl
    subst mn
    walk_at "r"
    refine if_d (fun c=>absurd c (by simp)) (fun _=>?_)
    walk_at "r"
    refine ⟨a,_,rfl,DGet.k (k:=.inl (m:Int)) hL.l |> (fun z=>by rw [zF hn] at z; exact z),?_⟩
    rw [show (!(some (f m).v).isSome)=false from rfl]
    walk_at "r"
    refine if_d (fun _=>?_) (fun c=>absurd rfl c)
    walk_at "r"
    have htn:tn=true:=ht rfl
    subst htn
    walk_at "r"
    exact q _ (Same.refl _)
theorem ok_Yard_put_by {f:Addr} {fd:FuncData} (F:Fun K "put_by" "Yard.put_by" s_Yard_put_by f fd) (B:Bl mg) (X:Xs K mg cs) (o_cut_across:Own P w K mg base 4 "cut_across" ["d","one","at"] [] sp_cut_across) (o_turned:Own P w K mg base 1 "turned" ["one"] [] sp_turned) (o_glued_beside:Own P w K mg base 3 "glued_beside" ["one","other"] [] sp_glued_beside) (o_stacked:Own P w K mg base 3 "stacked" ["one","many"] [] sp_stacked):FnOk P w K mg base CX0 5 f fd ["self","deed","boards"] (sp_Yard_put_by cs):=by
  refine F.ok (k:=4) sc_Yard_put_by (fun vs H Q E h=>?_) (fun cdv A outer s H vs Q E hr h=>?_)
  · obtain ⟨y,d,tn,cl,ns,lg,p,a,e,c,c',rfl,hy,he,ha,hc,hc',hd,hf,q⟩:=h
    rfl
  obtain ⟨y,d,tn,cl,ns,lg,p,a,e,c,c',rfl,hy,he,ha,hc,hc',hd,hf,q⟩:=h
  refine ⟨_,(zc (zv (i:=3) sc_Yard_put_by.nd rfl (Or.inl rfl) (zh zg (pv 1) zb (fun _ _=>rfl))) (zc (zE (zj zY (pv 3) zG (zp _)) (zf (zm (zi o_cut_across hr rfl (za (yd (K:=K) rfl (pv 0) rfl) (za (zh zo (pv 2) zb (fun _ _=>rfl)) (za (zh zg (pv 1) zb (fun _ _=>rfl)) zd)))))) zn) (zc (zE (zj zY (pv 3) zG (zp _)) (zf (zm (yi ["one"] [] rfl (zW (zi o_cut_across hr rfl (za (yd (K:=K) rfl (pv 0) rfl) (za (zi o_turned hr rfl (za (zh zo (pv 2) zb (fun _ _=>rfl)) zd)) (za (zh zg (pv 1) zb (fun _ _=>rfl)) zd))))) (fun _ _ _ _ _=>(zw (i:=0) (show List.Nodup (α:=Str) ["one"] by decide +kernel) rfl (Or.inl rfl))) (fun _ _ _ _ _=>zR) (fun _ _ _ _ _=>(zi o_turned hr rfl (za (pv 0) zd)))))) zn) (zc (zE (zj zY (pv 3) zG (zp _)) (zf (zm (zU (za (zi o_glued_beside hr rfl (za (zh zo (pv 2) zb (fun _ _=>rfl)) (za (zh zo (pv 2) zb (fun _ _=>rfl)) zd))) zd)))) zn) (zc (zE (zj zY (pv 3) zG (zp _)) (zf (zm (zU (za (zi o_turned hr rfl (za (zi o_glued_beside hr rfl (za (zi o_turned hr rfl (za (zh zo (pv 2) zb (fun _ _=>rfl)) zd)) (za (zi o_turned hr rfl (za (zh zo (pv 2) zb (fun _ _=>rfl)) zd)) zd))) zd)) zd)))) zn) (zc (zE (zj zY (pv 3) zG (zp _)) (zf (zm (zU (za (zi o_stacked hr rfl (za (zh zo (pv 2) zb (fun _ _=>rfl)) (za (zh zg (pv 1) zb (fun _ _=>rfl)) zd))) zd)))) zn) (zc (zE (zj zY (pv 3) zG (zp _)) (zf (zm (zU (za (zi o_turned hr rfl (za (zi o_stacked hr rfl (za (zi o_turned hr rfl (za (zh zo (pv 2) zb (fun _ _=>rfl)) zd)) (za (zh zg (pv 1) zb (fun _ _=>rfl)) zd))) zd)) zd)))) zn) (zf (zm (zU (za (zi o_turned hr rfl (za (zh zo (pv 2) zb (fun _ _=>rfl)) zd)) zd))))))))))),?_⟩
  rw [show zJ ["self","deed","boards","word"] [.ref y.p,.ref p,.ref a]=[some (.ref y.p),some (.ref p),some (.ref a),none] from rfl]
  cases e with
  | cut al n s =>
    obtain ⟨pq,h0,hs⟩:=he
    cases al with
    | false =>
      have h0:H p=some (.tup [.str (Str.ofString "across"),.int n,.ref pq]):=h0
      have ha:H a=some (.lst [.ref c.p]):=ha
      walk_at "r"
      refine if_d (fun _=>?_) (fun c=>absurd rfl c)
      walk_at "r"
      obtain ⟨f1,f2,f3,f4⟩:=hf
      refine ⟨_,_,_,_,_,rfl,hy.o,X.c_Yard,X.n_Yard_root,rfl,?_⟩
      walk_at "r"
      refine wt hc hs hd f1 f2 f3 f4 fun r c1 c2 H1 s1 hr e1 a1 a2 b1 b2=>?_
      refine q r [c1,c2] H1 s1 hr e1 (fun x hx=>?_) ?_
      · rcases List.mem_cons.mp hx with rfl | hx
        · exact a1
        · rw [List.mem_singleton.mp hx]; exact a2
      · show [c1.b,c2.b]=_
        rw [b1,b2]
        rfl
    | true =>
      have h0:H p=some (.tup [.str (Str.ofString "along"),.int n,.ref pq]):=h0
      have ha:H a=some (.lst [.ref c.p]):=ha
      walk_at "r"
      refine if_d (fun c=>absurd c (by decide +kernel)) (fun _=>?_)
      walk_at "r"
      refine if_d (fun _=>?_) (fun c=>absurd rfl c)
      walk_at "r"
      obtain ⟨f1,f2,f3,f4⟩:=hf
      refine yt ?_
      walk_at "r"
      refine ⟨_,_,_,_,_,rfl,hy.o,X.c_Yard,X.n_Yard_root,rfl,?_⟩
      walk_at "r"
      refine yL hc fun r1 H1 s1 nr1 a1=>?_
      have h01:=s1 _ _ h0
      walk_at "r"
      refine wt a1 (s1 _ _ hs) hd f1 f2 f3 f4 fun r c1 c2 H2 s2 hr e2 a2 a3 b1 b2=>?_
      have t2:=s1.trans s2
      have hat:∀ x ∈ [c1,c2],x.At H2:=fun x hx=>by
        rcases List.mem_cons.mp hx with rfl | hx
        · exact a2
        · rw [List.mem_singleton.mp hx]; exact a3
      refine ⟨r,rfl,⟨_,SqL.of e2⟩,fun D hD=>z3 (K:=K) (a:=r) (ys:=[c1,c2].map Cell.v) (fun i xs σ' H'=>∃ (v:Option V) (N:List Cell),σ'=[v]∧xs=N.map Cell.v∧H' D=some (.lst xs)∧SameX D H2 H'∧(∀ x ∈ N,x.At H')∧N.length=i∧N.map Cell.b=([c1,c2].take i).map (fun x=>⟨x.b.h,x.b.w⟩)) ⟨none,[],rfl,rfl,zk,fun b o e n=>by rw [zt n]; exact e,fun x hx=>absurd hx (by simp),rfl,rfl⟩ (fun i xs σ' H' _ z=>by obtain ⟨v,N,_,_,_,z,_⟩:=z; exact SqL.of (z _ _ e2 (ze e2 hD))) ?_ ?_⟩
      · rintro i x xs σ' H' hi ⟨v,N,rfl,rfl,eD,sx,hN,hl,hb⟩
        rw [List.getElem?_map] at hi
        obtain ⟨cx,hcx,rfl⟩:=Option.map_eq_some_iff.mp hi
        have hi3:=(List.getElem?_eq_some_iff.mp hcx).1
        have s':Same H2 H':=fun b o e=>sx b o e (ze e hD)
        walk_at "r"
        refine yL ((hat cx (List.mem_of_getElem? hcx)).same s') fun r3 H3 s3 nr3 a3=>?_
        walk_at "r"
        refine zB (s3 _ _ eD) (by rw [List.length_map,hl]; simp only [List.length_cons,List.length_nil] at hi3; omega) fun H4 x4 e4=>?_
        refine yv hi3 ⟨_,N ++ [⟨r3,cx.ph,cx.pw,⟨cx.b.h,cx.b.w⟩⟩],rfl,rfl,by rw [List.map_append]; exact e4,sx.trans ((SameX.of s3).trans x4),fun x hx=>?_,by rw [List.length_append,hl]; rfl,?_⟩
        · rcases List.mem_append.mp hx with hx | hx
          · exact ((hN x hx).same s3).sameX x4 (s3 _ _ eD)
          · rw [List.mem_singleton.mp hx]; exact a3.sameX x4 (s3 _ _ eD)
        · rw [List.take_succ,hcx,List.map_append,List.map_append,hb]
          rfl
      · rintro xs σ' H' ⟨v,N,rfl,rfl,eD,sx,hN,hl,hb⟩
        have s':Same H2 H':=fun b o e=>sx b o e (ze e hD)
        walk_at "r"
        refine q D N H' (t2.trans s') (Same.nn t2 hD) eD hN ?_
        rw [hb]
        show [(⟨c1.b.h,c1.b.w⟩:Bo),⟨c2.b.h,c2.b.w⟩]=_
        rw [b1,b2]
        rfl
  | glue al n m =>
    have h0:=he
    cases al with
    | false =>
      have h0:H p=some (.tup [.str (Str.ofString "beside"),.int n,.int m]):=h0
      have ha:H a=some (.lst [.ref c.p,.ref c'.p]):=ha
      walk_at "r"
      refine if_d (fun c=>absurd c (by decide +kernel)) (fun _=>?_)
      walk_at "r"
      refine if_d (fun c=>absurd c (by decide +kernel)) (fun _=>?_)
      walk_at "r"
      refine if_d (fun _=>?_) (fun c=>absurd rfl c)
      walk_at "r"
      refine xt hc hc' hf.1 hf.2.1 hf.2.2 fun c1 H1 s1 n1 a1 hb=>?_
      walk_at "r"
      refine zA (by simp) fun r HL nr sL eL=>?_
      refine q r [c1] HL (Same.trans s1 sL) (Same.nn s1 nr) eL (fun x hx=>?_) ?_
      · rw [List.mem_singleton.mp hx]
        exact a1.same sL
      · exact congrArg (fun z=>[z]) hb
    | true =>
      have h0:H p=some (.tup [.str (Str.ofString "atop"),.int n,.int m]):=h0
      have ha:H a=some (.lst [.ref c.p,.ref c'.p]):=ha
      walk_at "r"
      refine if_d (fun c=>absurd c (by decide +kernel)) (fun _=>?_)
      walk_at "r"
      refine if_d (fun c=>absurd c (by decide +kernel)) (fun _=>?_)
      walk_at "r"
      refine if_d (fun c=>absurd c (by decide +kernel)) (fun _=>?_)
      walk_at "r"
      refine if_d (fun _=>?_) (fun c=>absurd rfl c)
      walk_at "r"
      refine yL hc fun r1 H1 s1 nr1 a1=>?_
      have ha1:=s1 _ _ ha
      walk_at "r"
      refine yL (hc'.same s1) fun r2 H2 s2 nr2 a2=>?_
      walk_at "r"
      refine xt (a1.same s2) a2 hf.1 hf.2.1 hf.2.2 fun c1 H3 s3 n3 a3 hb=>?_
      walk_at "r"
      refine yL a3 fun r4 H4 s4 nr4 a4=>?_
      replace hb:(⟨c1.b.h,c1.b.w⟩:Bo)=⟨c.b.w,adS c.b.h c'.b.h⟩:=by rw [hb]
      walk_at "r"
      refine zA (by simp) fun r HL nr sL eL=>?_
      refine q r [⟨r4,c1.ph,c1.pw,⟨c1.b.h,c1.b.w⟩⟩] HL (Same.trans (((s1.trans s2).trans s3).trans s4) sL) (Same.nn (((s1.trans s2).trans s3).trans s4) nr) eL (fun x hx=>?_) ?_
      · rw [List.mem_singleton.mp hx]
        exact a4.same sL
      · exact congrArg (fun z=>[z]) hb
  | shift al n k =>
    have h0:=he
    cases al with
    | false =>
      have h0:H p=some (.tup [.str (Str.ofString "stack"),.int n,.int k]):=h0
      have ha:H a=some (.lst [.ref c.p]):=ha
      walk_at "r"
      refine if_d (fun c=>absurd c (by decide +kernel)) (fun _=>?_)
      walk_at "r"
      refine if_d (fun c=>absurd c (by decide +kernel)) (fun _=>?_)
      walk_at "r"
      refine if_d (fun c=>absurd c (by decide +kernel)) (fun _=>?_)
      walk_at "r"
      refine if_d (fun c=>absurd c (by decide +kernel)) (fun _=>?_)
      walk_at "r"
      refine if_d (fun _=>?_) (fun c=>absurd rfl c)
      walk_at "r"
      refine uK hc hf.1 hf.2.1 hf.2.2.1 hf.2.2.2 fun c1 H1 s1 n1 a1 hb=>?_
      walk_at "r"
      refine zA (by simp) fun r HL nr sL eL=>?_
      refine q r [c1] HL (Same.trans s1 sL) (Same.nn s1 nr) eL (fun x hx=>?_) ?_
      · rw [List.mem_singleton.mp hx]
        exact a1.same sL
      · exact congrArg (fun z=>[z]) hb
    | true =>
      have h0:H p=some (.tup [.str (Str.ofString "spread"),.int n,.int k]):=h0
      have ha:H a=some (.lst [.ref c.p]):=ha
      walk_at "r"
      refine if_d (fun c=>absurd c (by decide +kernel)) (fun _=>?_)
      walk_at "r"
      refine if_d (fun c=>absurd c (by decide +kernel)) (fun _=>?_)
      walk_at "r"
      refine if_d (fun c=>absurd c (by decide +kernel)) (fun _=>?_)
      walk_at "r"
      refine if_d (fun c=>absurd c (by decide +kernel)) (fun _=>?_)
      walk_at "r"
      refine if_d (fun c=>absurd c (by decide +kernel)) (fun _=>?_)
      walk_at "r"
      refine if_d (fun _=>?_) (fun c=>absurd rfl c)
      walk_at "r"
      refine yL hc fun r1 H1 s1 nr1 a1=>?_
      have h01:=s1 _ _ h0
      walk_at "r"
      refine uK a1 hf.1 hf.2.1 hf.2.2.2 hf.2.2.1 fun c1 H3 s3 n3 a3 hb=>?_
      walk_at "r"
      refine yL a3 fun r4 H4 s4 nr4 a4=>?_
      replace hb:(⟨c1.b.h,c1.b.w⟩:Bo)=⟨shS c.b.w k 1,shS c.b.h 1 k⟩:=by rw [hb]
      walk_at "r"
      refine zA (by simp) fun r HL nr sL eL=>?_
      refine q r [⟨r4,c1.ph,c1.pw,⟨c1.b.h,c1.b.w⟩⟩] HL (Same.trans ((s1.trans s3).trans s4) sL) (Same.nn ((s1.trans s3).trans s4) nr) eL (fun x hx=>?_) ?_
      · rw [List.mem_singleton.mp hx]
        exact a4.same sL
      · exact congrArg (fun z=>[z]) hb
  | turn n =>
    have h0:=he
    have h0:H p=some (.tup [.str (Str.ofString "turn"),.int n]):=h0
    have ha:H a=some (.lst [.ref c.p]):=ha
    walk_at "r"
    refine if_d (fun c=>absurd c (by decide +kernel)) (fun _=>?_)
    walk_at "r"
    refine if_d (fun c=>absurd c (by decide +kernel)) (fun _=>?_)
    walk_at "r"
    refine if_d (fun c=>absurd c (by decide +kernel)) (fun _=>?_)
    walk_at "r"
    refine if_d (fun c=>absurd c (by decide +kernel)) (fun _=>?_)
    walk_at "r"
    refine if_d (fun c=>absurd c (by decide +kernel)) (fun _=>?_)
    walk_at "r"
    refine if_d (fun c=>absurd c (by decide +kernel)) (fun _=>?_)
    walk_at "r"
    refine yL hc fun r1 H1 s1 nr1 a1=>?_
    have hb:(⟨c.b.h,c.b.w⟩:Bo)=⟨c.b.h,c.b.w⟩:=rfl
    walk_at "r"
    refine zA (by simp) fun r HL nr sL eL=>?_
    refine q r [⟨r1,c.ph,c.pw,⟨c.b.h,c.b.w⟩⟩] HL (Same.trans s1 sL) (Same.nn s1 nr) eL (fun x hx=>?_) ?_
    · rw [List.mem_singleton.mp hx]
      exact a1.same sL
    · exact congrArg (fun z=>[z]) hb
theorem ok__law_deed {f:Addr} {fd:FuncData} (F:Fun K "_law_deed" "_law_deed" s__law_deed f fd) (B:Bl mg)  (o__law_digits:Own P w K mg base 2 "_law_digits" ["_law_cell_here","_law_many"] [] sp__law_digits) (o__law_at:Own P w K mg base 5 "_law_at" ["_law_d","_law_digits_here","_law_side_here","_law_pool"] [] sp__law_at):FnOk P w K mg base CX0 6 f fd ["_law_d","_law_cell_here","_law_lying","_law_pool"] (sp__law_deed K):=by
  refine F.ok (k:=5) sc__law_deed (fun vs H Q E h=>?_) (fun cdv A outer s H vs Q E hr h=>?_)
  · obtain ⟨d,c,a,qa,ns,f,P,D,M,K',rfl,hc,hL,up,nl,ne,ob,hP,oP,zz,hR,q⟩:=h
    rfl
  obtain ⟨d,c,a,qa,ns,f,P,D,M,K',rfl,hc,hL,up,nl,ne,ob,hP,oP,zz,hR,q⟩:=h
  refine ⟨_,(zc (zv (i:=4) sc__law_deed.nd rfl (Or.inl rfl) (zi o__law_digits hr rfl (za (pv 1) (za zb zd)))) (zc (zv (i:=5) sc__law_deed.nd rfl (Or.inl rfl) (zu (wg rfl) rfl B.sorted xj (za (pv 2) zd))) (zc (zv (i:=6) sc__law_deed.nd rfl (Or.inr rfl) (zh zo (pv 5) (zr zQ (zh zo (pv 4) zb (fun _ _=>rfl)) (zu zy rfl B.len PySem.boot_len (za (pv 5) zd))) (fun _ _=>rfl))) (zc (zv (i:=7) sc__law_deed.nd rfl (Or.inl rfl) (zr zQ (zh zo (pv 4) zb (fun _ _=>rfl)) zb)) (zc (zE (zj vO (pv 7) zb (zp _)) (zf (zm (zK (za (zh zo (zU (za zG (za zG zd))) (pv 7) (fun _ _=>rfl)) (za (pv 6) (za (zi o__law_at hr rfl (za (pv 0) (za (pv 4) (za (zh zg (yu (yO hr) (pv 2) (pv 6) (fun _ _=>rfl)) (pv 7) (fun _ _=>rfl)) (za (pv 3) zd))))) zd)))))) zn) (zc (wM (zE (zj vO (pv 7) zb (zp _)) (zc (zv (i:=8) sc__law_deed.nd rfl (Or.inr rfl) (zr xn zb (pv 7))) (zc (tK (i:=9) sc__law_deed.nd rfl rfl ["_law_other"] [2,6,8] rfl (zW (pv 5)) (fun _ _ _ _ _=>(zw (i:=0) (show List.Nodup (α:=Str) ["_law_other","_law_lying","_law_name","_law_side_here"] by decide +kernel) rfl (Or.inl rfl))) (fun _ _ _ _ _=>(vY (PW.pt (yH (zj uq (pv 0) (pv 2) (zp _)) (yn (zj (r:=rEq3 K) (FV hr.units rfl) (zh (r:=rIxT K) zg (yu (yO hr) (pv 1) (pv 0) (fun _ _=>rfl)) (pv 3) (fun _ _=>rfl)) (zh (r:=rIxT K) zg (yu (yO hr) (pv 1) (pv 2) (fun _ _=>rfl)) (pv 3) (fun _ _=>rfl)) (zp _))))))) (fun _ _ _ _ _=>(pv 0))) (zf (zE (zj (DF hr.units) (pv 9) (zU zd) (zp _)) (zf (zm (zK (za (zh zo (zU (za zG (za zG zd))) (zr xn (pv 7) zb) (fun _ _=>rfl)) (za (pv 6) (za (zh zo (pv 9) (zr zQ (zh zo (pv 4) zb (fun _ _=>rfl)) (zu zy rfl B.len PySem.boot_len (za (pv 9) zd))) (fun _ _=>rfl)) zd)))))) zn)))) zn)) (zf (zm (zK (za (zh zo (zU (za zG (za zG zd))) (zr zQ (pv 7) zb) (fun _ _=>rfl)) (za (pv 6) (za (zr zZ zb (zr zQ (zh zo (pv 4) zb (fun _ _=>rfl)) (zh zo (zU (za (zr xi zb zb) (za zb zd))) (zr zQ (pv 1) zb) (fun _ _=>rfl)))) zd)))))))))))),?_⟩
  rw [show zJ ["_law_d","_law_cell_here","_law_lying","_law_pool","_law_digits_here","_law_names","_law_name","_law_way","_law_side_here","_law_others"] [.int d,.int c,.ref a,.ref qa]=[some (.int d),some (.int c),some (.ref a),some (.ref qa),none,none,none,none,none,none] from rfl]
  have hpos:0 < ns.length:=List.length_pos_iff.mpr ne
  walk_at "r"
  refine yj hc (by decide) (by decide) fun l H1 ds s1 e1 hl hds=>?_
  obtain ⟨x0,k0,a0,b0⟩:=dig hl hds 0 (by decide) (by decide)
  obtain ⟨x1,k1,a1,b1⟩:=dig hl hds 1 (by decide) (by decide)
  obtain ⟨x2,k2,a2,b2⟩:=dig hl hds 2 (by decide) (by decide)
  obtain ⟨x7,k7,a7,b7⟩:=dig hl hds 7 (by decide) (by decide)
  walk_at "r"
  refine tH (s1 _ _ hL.l) up nl fun p2 H2 np2 s2 e2=>?_
  have e1':=s2 _ _ e1
  have hpm:(0:Int) < (((ns.map fun n:Nat=>(n:Int)).map V.int).length:Nat):=by simp only [List.length_map]; omega
  obtain ⟨n,hn,gn⟩:=Bb (ns:=ns) (i:=x0) ne
  repeat (first | walk_at "rd" | refine zD e1' k0 ?_ | refine zD e1' k1 ?_ | refine zD e2 gn ?_)
  have w6:0 ≤ x1 % 6∧x1 % 6 < 6:=by omega
  generalize hway:x1 % 6=way at w6 ⊢
  by_cases w2:way < 2
  · have hw:way=0 ∨ way=1:=by omega
    rcases hw with hw | hw
    · rw [hw]
      refine if_d (fun _=>?_) (fun c=>absurd (by decide) c)
      walk_at "r"
      refine zA (by simp) fun q3 H3 n3 s3 e3=>?_
      have e1:=s3 _ _ (s2 _ _ e1)
      have hL3:=hL.same ((s1.trans s2).trans s3)
      have hc3:=hL3.at' n hn
      have ct3:=hc3.t
      have hP3:=hP.same ((s1.trans s2).trans s3)
      repeat (first | walk_at "rd" | refine zD e3 (zI (j:=0) rfl) ?_)
      refine ⟨a,_,rfl,DGet.k (k:=.inl (n:Int)) hL3.l |> (fun z=>by rw [zF hn] at z; exact z),?_⟩
      walk_at "r"
      refine xg ct3 (zI (j:=0) rfl) ?_
      walk_at "r"
      refine uH e1 hl hds hc3.w (ob n hn).1 hP3 oP zz hR fun r H4 g k s4 e4 k1 bk og ug=>?_
      walk_at "r"
      refine zC (by simp) fun p5 H5 n5 s5 e5=>?_
      exact q p5 (.cut false n g) n n H5 ((((s1.trans s2).trans s3).trans s4).trans s5) ⟨r,e5,s5 _ _ e4⟩ (Ad hR zz hn (ob n hn) k1 bk og ug) rfl
    · rw [hw]
      refine if_d (fun _=>?_) (fun c=>absurd (by decide) c)
      walk_at "r"
      refine zA (by simp) fun q3 H3 n3 s3 e3=>?_
      have e1:=s3 _ _ (s2 _ _ e1)
      have hL3:=hL.same ((s1.trans s2).trans s3)
      have hc3:=hL3.at' n hn
      have ct3:=hc3.t
      have hP3:=hP.same ((s1.trans s2).trans s3)
      repeat (first | walk_at "rd" | refine zD e3 (zI (j:=1) rfl) ?_)
      refine ⟨a,_,rfl,DGet.k (k:=.inl (n:Int)) hL3.l |> (fun z=>by rw [zF hn] at z; exact z),?_⟩
      walk_at "r"
      refine xg ct3 (zI (j:=1) rfl) ?_
      walk_at "r"
      refine uH e1 hl hds hc3.h (ob n hn).2 hP3 oP zz hR fun r H4 g k s4 e4 k1 bk og ug=>?_
      walk_at "r"
      refine zC (by simp) fun p5 H5 n5 s5 e5=>?_
      exact q p5 (.cut true n g) n n H5 ((((s1.trans s2).trans s3).trans s4).trans s5) ⟨r,e5,s5 _ _ e4⟩ (Ad hR zz hn (ob n hn) k1 bk og ug) rfl
  refine if_d (fun c=>absurd c w2) (fun _=>?_)
  walk_at "r"
  refine tN (T:=fun σ' H3=>∃ v v':Option V,σ'=[some (.int d),some (.int c),some (.ref a),some (.ref qa),some (.ref l),some (.ref p2),some (.int (n:Int)),some (.int way),v,v']∧Same H2 H3) ?_ ?_
  · walk_at "r"
    by_cases w4:way < 4
    · have hw:way=2 ∨ way=3:=by omega
      rcases hw with hw | hw
      · rw [hw]
        refine if_d (fun _=>?_) (fun c=>absurd (by decide) c)
        walk_at "r"
        refine yt ?_
        walk_at "r"
        refine ⟨p2,rfl,⟨_,SqL.of e2⟩,fun O hO=>z3 (K:=K) (a:=p2) (ys:=(ns.map fun n:Nat=>(n:Int)).map V.int) (fun i xs σ' H'=>∃ (v:Option V) (os:List Nat),σ'=[v,some (.ref a),some (.int (n:Int)),some (.int 1)]∧xs=(os.map fun n:Nat=>(n:Int)).map V.int∧os.length ≤ i∧H' O=some (.lst xs)∧SameX O H2 H'∧∀ m ∈ os,m ∈ ns∧n ≠ m∧(f n).b.h=(f m).b.h) ⟨none,[],rfl,rfl,Nat.le_refl _,zk,fun b o e n=>by rw [zt n]; exact e,fun m hm=>absurd hm (by simp)⟩ (fun i xs σ' H' _ z=>by obtain ⟨v,os,_,_,_,_,z,_⟩:=z; exact SqL.of (z _ _ e2 (ze e2 hO))) ?_ ?_⟩
        · rintro i x xs σ' H' hi ⟨v,os,rfl,rfl,hol,eO,sx,hos⟩
          have hi':=(List.getElem?_eq_some_iff.mp hi).1
          have hil:i < ns.length:=by simpa using hi'
          obtain ⟨m,hm,rfl⟩:∃ m ∈ ns,x=.int (m:Int):=by
            obtain ⟨y,hy,rfl⟩:=List.mem_map.mp (List.mem_of_getElem? hi)
            obtain ⟨m,hm,rfl⟩:=List.mem_map.mp hy
            exact ⟨m,hm,rfl⟩
          have s':Same H2 H':=fun b o e=>sx b o e (ze e hO)
          have hL':=hL.same ((s1.trans s2).trans s')
          have cm:=hL'.at' m hm
          have cn:=hL'.at' n hn
          have ctm:=cm.t
          have ctn:=cn.t
          walk_at "r"
          refine AG (fun c1=>?_) (fun c1=>?_)
          · walk_at "r"
            refine ⟨a,_,rfl,DGet.k (k:=.inl (m:Int)) hL'.l |> (fun z=>by rw [zF hm] at z; exact z),?_⟩
            walk_at "r"
            refine xg ctm (zI (j:=1) rfl) ?_
            walk_at "r"
            refine ⟨a,_,rfl,DGet.k (k:=.inl (n:Int)) hL'.l |> (fun z=>by rw [zF hn] at z; exact z),?_⟩
            walk_at "r"
            refine xg ctn (zI (j:=1) rfl) ?_
            walk_at "r"
            refine ⟨_,_,_,_,_,_,_,_,rfl,rfl,SqT.of cm.h,SqT.of cn.h,?_⟩
            walk_at "r"
            refine if_d (fun c2=>?_) (fun c2=>?_)
            · walk_at "r"
              refine zB eO (by simp only [List.length_map]; omega) fun H3 x3 e3=>?_
              refine yv hi' ⟨_,os ++ [m],rfl,rfl,by rw [List.length_append]; simp only [List.length_cons,List.length_nil]; omega,by rw [List.map_append,List.map_append]; exact e3,sx.trans x3,fun k hk=>?_⟩
              rcases List.mem_append.mp hk with hk | hk
              · exact hos k hk
              · rw [List.mem_singleton.mp hk]
                refine ⟨hm,fun z=>c1 (by rw [z]),?_⟩
                have z1:(f m).b.h=⟨(f m).b.h.x,(f m).b.h.y,(f m).b.h.z⟩:=rfl
                rw [z1,c2.1,c2.2.1,c2.2.2]
            · walk_at "r"
              exact yv hi' ⟨_,os,rfl,rfl,Nat.le_succ_of_le hol,eO,sx,hos⟩
          · walk_at "r"
            exact yv hi' ⟨_,os,rfl,rfl,Nat.le_succ_of_le hol,eO,sx,hos⟩
        rintro xs σ' H3 ⟨v,os,rfl,rfl,hol,eO,sx,hos⟩
        have s3:Same H2 H3:=fun b o e=>sx b o e (ze e hO)
        have e1:=s3 _ _ (s2 _ _ e1)
        walk_at "r"
        refine zA (by simp) fun q4 H4 n4 s4 e4=>?_
        have e1:=s4 _ _ e1
        have eO:=s4 _ _ eO
        refine ⟨O,q4,_,rfl,rfl,SqL.of eO,SqL.of e4,?_⟩
        cases os with
        | nil =>
          walk_at "r"
          exact ⟨_,_,rfl,s3.trans s4⟩
        | cons o os =>
          rw [show (!(List.map V.int (List.map (fun n:Nat=>(n:Int)) (o :: os))).isEmpty)=true from rfl]
          walk_at "r"
          refine zA (by simp) fun q5 H5 n5 s5 e5=>?_
          have e1:=s5 _ _ e1
          have eO:=s5 _ _ eO
          have hp2:(0:Int) < ((List.map V.int (List.map (fun n:Nat=>(n:Int)) (o :: os))).length:Nat):=by simp only [List.length_map,List.length_cons]; omega
          repeat (first | walk_at "rd" | refine zD e5 (zI (j:=0) rfl) ?_ | refine zD e1 k2 ?_)
          repeat (first | walk_at "rd" | refine zD e5 (zI (j:=0) rfl) ?_ | refine zD e1 k2 ?_)
          obtain ⟨m,hm,gm⟩:=Bb (ns:=o :: os) (i:=x2) (by simp)
          refine zD eO gm ?_
          walk_at "r"
          refine zC (by simp) fun p6 H6 n6 s6 e6=>?_
          obtain ⟨h1,h2,h3⟩:=hos m hm
          exact q p6 (.glue false n m) n m H6 (((((s1.trans s2).trans s3).trans s4).trans s5).trans s6) e6 (uh hR zz hn h1 h2 (ob n hn) (ob m h1) h3) rfl
      · rw [hw]
        refine if_d (fun _=>?_) (fun c=>absurd (by decide) c)
        walk_at "r"
        refine yt ?_
        walk_at "r"
        refine ⟨p2,rfl,⟨_,SqL.of e2⟩,fun O hO=>z3 (K:=K) (a:=p2) (ys:=(ns.map fun n:Nat=>(n:Int)).map V.int) (fun i xs σ' H'=>∃ (v:Option V) (os:List Nat),σ'=[v,some (.ref a),some (.int (n:Int)),some (.int 0)]∧xs=(os.map fun n:Nat=>(n:Int)).map V.int∧os.length ≤ i∧H' O=some (.lst xs)∧SameX O H2 H'∧∀ m ∈ os,m ∈ ns∧n ≠ m∧(f n).b.w=(f m).b.w) ⟨none,[],rfl,rfl,Nat.le_refl _,zk,fun b o e n=>by rw [zt n]; exact e,fun m hm=>absurd hm (by simp)⟩ (fun i xs σ' H' _ z=>by obtain ⟨v,os,_,_,_,_,z,_⟩:=z; exact SqL.of (z _ _ e2 (ze e2 hO))) ?_ ?_⟩
        · rintro i x xs σ' H' hi ⟨v,os,rfl,rfl,hol,eO,sx,hos⟩
          have hi':=(List.getElem?_eq_some_iff.mp hi).1
          have hil:i < ns.length:=by simpa using hi'
          obtain ⟨m,hm,rfl⟩:∃ m ∈ ns,x=.int (m:Int):=by
            obtain ⟨y,hy,rfl⟩:=List.mem_map.mp (List.mem_of_getElem? hi)
            obtain ⟨m,hm,rfl⟩:=List.mem_map.mp hy
            exact ⟨m,hm,rfl⟩
          have s':Same H2 H':=fun b o e=>sx b o e (ze e hO)
          have hL':=hL.same ((s1.trans s2).trans s')
          have cm:=hL'.at' m hm
          have cn:=hL'.at' n hn
          have ctm:=cm.t
          have ctn:=cn.t
          walk_at "r"
          refine AG (fun c1=>?_) (fun c1=>?_)
          · walk_at "r"
            refine ⟨a,_,rfl,DGet.k (k:=.inl (m:Int)) hL'.l |> (fun z=>by rw [zF hm] at z; exact z),?_⟩
            walk_at "r"
            refine xg ctm (zI (j:=0) rfl) ?_
            walk_at "r"
            refine ⟨a,_,rfl,DGet.k (k:=.inl (n:Int)) hL'.l |> (fun z=>by rw [zF hn] at z; exact z),?_⟩
            walk_at "r"
            refine xg ctn (zI (j:=0) rfl) ?_
            walk_at "r"
            refine ⟨_,_,_,_,_,_,_,_,rfl,rfl,SqT.of cm.w,SqT.of cn.w,?_⟩
            walk_at "r"
            refine if_d (fun c2=>?_) (fun c2=>?_)
            · walk_at "r"
              refine zB eO (by simp only [List.length_map]; omega) fun H3 x3 e3=>?_
              refine yv hi' ⟨_,os ++ [m],rfl,rfl,by rw [List.length_append]; simp only [List.length_cons,List.length_nil]; omega,by rw [List.map_append,List.map_append]; exact e3,sx.trans x3,fun k hk=>?_⟩
              rcases List.mem_append.mp hk with hk | hk
              · exact hos k hk
              · rw [List.mem_singleton.mp hk]
                refine ⟨hm,fun z=>c1 (by rw [z]),?_⟩
                have z1:(f m).b.w=⟨(f m).b.w.x,(f m).b.w.y,(f m).b.w.z⟩:=rfl
                rw [z1,c2.1,c2.2.1,c2.2.2]
            · walk_at "r"
              exact yv hi' ⟨_,os,rfl,rfl,Nat.le_succ_of_le hol,eO,sx,hos⟩
          · walk_at "r"
            exact yv hi' ⟨_,os,rfl,rfl,Nat.le_succ_of_le hol,eO,sx,hos⟩
        rintro xs σ' H3 ⟨v,os,rfl,rfl,hol,eO,sx,hos⟩
        have s3:Same H2 H3:=fun b o e=>sx b o e (ze e hO)
        have e1:=s3 _ _ (s2 _ _ e1)
        walk_at "r"
        refine zA (by simp) fun q4 H4 n4 s4 e4=>?_
        have e1:=s4 _ _ e1
        have eO:=s4 _ _ eO
        refine ⟨O,q4,_,rfl,rfl,SqL.of eO,SqL.of e4,?_⟩
        cases os with
        | nil =>
          walk_at "r"
          exact ⟨_,_,rfl,s3.trans s4⟩
        | cons o os =>
          rw [show (!(List.map V.int (List.map (fun n:Nat=>(n:Int)) (o :: os))).isEmpty)=true from rfl]
          walk_at "r"
          refine zA (by simp) fun q5 H5 n5 s5 e5=>?_
          have e1:=s5 _ _ e1
          have eO:=s5 _ _ eO
          have hp2:(0:Int) < ((List.map V.int (List.map (fun n:Nat=>(n:Int)) (o :: os))).length:Nat):=by simp only [List.length_map,List.length_cons]; omega
          repeat (first | walk_at "rd" | refine zD e5 (zI (j:=1) rfl) ?_ | refine zD e1 k2 ?_)
          repeat (first | walk_at "rd" | refine zD e5 (zI (j:=1) rfl) ?_ | refine zD e1 k2 ?_)
          obtain ⟨m,hm,gm⟩:=Bb (ns:=o :: os) (i:=x2) (by simp)
          refine zD eO gm ?_
          walk_at "r"
          refine zC (by simp) fun p6 H6 n6 s6 e6=>?_
          obtain ⟨h1,h2,h3⟩:=hos m hm
          exact q p6 (.glue true n m) n m H6 (((((s1.trans s2).trans s3).trans s4).trans s5).trans s6) e6 (uh hR zz hn h1 h2 (ob n hn) (ob m h1) h3) rfl
    · refine if_d (fun c=>absurd c w4) (fun _=>?_)
      walk_at "r"
      exact ⟨_,_,rfl,Same.refl _⟩
  rintro σ' H3 ⟨v,v',rfl,s3⟩
  have e1':=s3 _ _ e1'
  walk_at "r"
  refine zA (by simp) fun q4 H4 n4 s4 e4=>?_
  have e1':=s4 _ _ e1'
  walk_at "r"
  obtain ⟨al,gal⟩:∃ al:Bool,atI [V.str (Str.ofString "stack"),V.str (Str.ofString "spread")] (way % 2)=some (.str (Dd.shift al n 1).wd):=by
    have:way % 2=0 ∨ way % 2=1:=by omega
    rcases this with h | h
    · exact ⟨false,by rw [h]; rfl⟩
    · exact ⟨true,by rw [h]; rfl⟩
  refine zD e4 gal ?_
  repeat (first | walk_at "rd" | refine zD e1' k7 ?_)
  refine zA (by simp) fun q5 H5 n5 s5 e5=>?_
  walk_at "r"
  obtain ⟨t,gt,t1,t2⟩:∃ t:Int,atI [V.int ((10:Int) ^ (4:Int).toNat),V.int 6] (c % 2)=some (.int t)∧1 ≤ t∧t ≤ 10000:=by
    have:c % 2=0 ∨ c % 2=1:=by omega
    rcases this with h | h
    · exact ⟨(10:Int) ^ (4:Int).toNat,by rw [h]; rfl,by decide,by decide⟩
    · exact ⟨6,by rw [h]; rfl,by decide,by decide⟩
  refine zD e5 gt ?_
  have h4:=Int.emod_nonneg x7 (show t ≠ 0 by omega)
  have h5:=Int.emod_lt_of_pos x7 (show 0 < t by omega)
  walk_at "r"
  refine zC (by simp) fun p6 H6 n6 s6 e6=>?_
  exact q p6 (.shift al n (1 + x7 % t)) n n H6 (((((s1.trans s2).trans s3).trans s4).trans s5).trans s6) e6 (AJ hR zz hn (ob n hn) (by omega) (zS (B:=10000) (by omega) (by omega) (by decide))) rfl
theorem ok__law_walked {f:Addr} {fd:FuncData} (F:Fun K "_law_walked" "_law_walked" s__law_walked f fd) (B:Bl mg)  (o__law_begin:Own P w K mg base 1 "_law_begin" ["_law_heap_here"] [] sp__law_begin) (o__law_done:Own P w K mg base 5 "_law_done" ["_law_lying","_law_used","_law_deed_here"] [] sp__law_done) (o__law_fits:Own P w K mg base 5 "_law_fits" ["_law_d","_law_deed_here","_law_lying","_law_turning"] [] sp__law_fits):FnOk P w K mg base CX0 6 f fd ["_law_d","_law_heap_here","_law_plan_here","_law_turning"] sp__law_walked:=by
  refine F.ok (k:=5) sc__law_walked (fun vs H Q E h=>?_) (fun cdv A outer s H vs Q E hr h=>?_)
  · obtain ⟨d,hp,pl,tn,L,ps,es,D,M,K',rfl,hh,hA,l1,l30,hpl,el,hR,hr',hw,z,bs,q⟩:=h
    rfl
  obtain ⟨d,hp,pl,tn,L,ps,es,D,M,K',rfl,hh,hA,l1,l30,hpl,el,hR,hr',hw,z,bs,q⟩:=h
  refine ⟨_,(zc (wp (zi o__law_begin hr rfl (za (pv 1) zd)) (xv (n:=2) rfl (zM (zw (i:=4) sc__law_walked.nd rfl (Or.inr rfl)) (zM (zw (i:=5) sc__law_walked.nd rfl (Or.inl rfl)) yN)))) (zc (yE PassesOwn.never rfl (zW (pv 2)) (zw (i:=6) sc__law_walked.nd rfl (Or.inl rfl)) (zc (zE (z8 (zT (zi o__law_fits hr rfl (za (pv 0) (za (pv 6) (za (pv 4) (za (pv 3) zd))))))) (zf (zm Dx)) zn) (zf (wp (zi o__law_done hr rfl (za (pv 4) (za (pv 5) (za (pv 6) zd)))) (xv (n:=2) rfl (zM (zw (i:=4) sc__law_walked.nd rfl (Or.inr rfl)) (zM (zw (i:=5) sc__law_walked.nd rfl (Or.inl rfl)) yN))))))) (zf (zm (yi ["_law_name"] [4] rfl (zW (zu (wg rfl) rfl B.sorted xj (za (pv 4) zd))) (fun _ _ _ _ _=>(zw (i:=0) (show List.Nodup (α:=Str) ["_law_name","_law_lying"] by decide +kernel) rfl (Or.inl rfl))) (fun _ _ _ _ _=>zR) (fun _ _ _ _ _=>(yu (yO hr) (pv 1) (pv 0) (fun _ _=>rfl)))))))),?_⟩
  rw [show zJ ["_law_d","_law_heap_here","_law_plan_here","_law_turning","_law_lying","_law_used","_law_deed_here"] [.int d,.ref hp,.ref pl,.bl tn]=[some (.int d),some (.ref hp),some (.ref pl),some (.bl tn),none,none,none] from rfl]
  have dlo:=hR.lo
  have hd64:Bd 64 d:=zS (B:=99) (by omega) hR.hi (by decide +kernel)
  have ok0:As.Ok 30 (As.st L) 0:=by rw [AK]; exact AN (by rw [List.length_map]; exact l1) (by rw [List.length_map]; exact l30)
  have oks:=wa ok0 hw
  walk_at "r"
  refine wx hh hA (by omega) fun r1 A0 H1 s1 nA e1 hLy=>?_
  walk_at "r"
  refine wn ?_
  walk_at "r"
  refine ⟨pl,rfl,⟨_,SqL.of (s1 _ _ hpl)⟩,yM (K:=K) (a:=pl) (xs:=ps.map V.ref) (fun i σ H'=>∃ (v:Option V) (A:Addr) (f:Nat→Cell),σ=[some (.int d),some (.ref hp),some (.ref pl),some (.bl tn),some (.ref A),some (.int ((ends (As.st L) (es.take i)).k:Int)),v]∧Ly H' A (ends (As.st L) (es.take i)).ns f∧(∀ n ∈ (ends (As.st L) (es.take i)).ns,(f n).b=(ends (As.st L) (es.take i)).g n)∧Same H H') ⟨none,A0,fL L,rfl,hLy,fun n hn=>rfl,s1⟩ (fun i σ H' _ ⟨_,_,_,_,_,_,s⟩=>SqL.of (s _ _ hpl)) ?_ ?_⟩
  · rintro i x σ H' hi ⟨v,A,f,rfl,hL,hfb,s'⟩
    rw [List.getElem?_map] at hi
    obtain ⟨p,hp',rfl⟩:=Option.map_eq_some_iff.mp hi
    have hie:i < es.length:=by rw [← hr'.1]; exact (List.getElem?_eq_some_iff.mp hp').1
    obtain ⟨e,n,m,hx⟩:∃ e n m,es[i]?=some (e,n,m):=⟨_,_,_,List.getElem?_eq_getElem hie⟩
    have st:=hw i _ hx
    have he:=(hr'.2 i p _ hp' hx).same s'
    have hok:=oks i (Nat.le_of_lt hie)
    have hsn:=xP (s:=As.st L) hx
    have b1:=bs (i + 1) hie
    rw [hsn] at b1
    rw [hsn]
    have hnl:=hok.nl
    generalize hs:ends (As.st L) (es.take i)=s at *
    have hgn:(f n).b=s.g n:=hfb n st.nms.hn
    have hgm:(f m).b=s.g m:=hfb m st.nms.hm
    have ft:e.Fit d (f n).b (f m).b:=by rw [hgn,hgm]; exact st.fit
    walk_at "r"
    refine tj (n:=n) (m:=m) he hL st.nms.hn st.nms.hm st.nms.nm st.nms.ne st.nms.eq st.ok ft st.tn hd64 hR fun G1 t1=>?_
    have gd:e.Good d D M s.ns f n m:=⟨st.nms.nm,st.nms.hn,st.nms.hm,st.nms.ne,st.nms.eq,st.ok,ft,1,by decide,by decide,fun b hb=>by
      rw [hgn,hgm] at hb
      rw [Int.mul_one]
      obtain ⟨j,hj⟩:=List.getElem?_of_mem hb
      have hl:=(List.getElem?_eq_some_iff.mp hj).1
      rw [Dd.puts_new] at hl
      have:=b1 (s.k + j) (mem_next.mpr (.inr ⟨by omega,by show _ < s.k + e.puts; omega⟩))
      rw [show (s.next (e,n,m)).g (s.k + j)=b from yS hj] at this
      exact this.mono (by omega)⟩
    walk_at "r"
    refine wU (hL.same t1) hok.lt (by omega) (he.same t1) gd fun r4 A' N' G4 t4 nA' e4 hN' hL4=>?_
    rw [hgn,hgm] at hN'
    have hNl:N'.length=(e.new (s.g n) (s.g m)).length:=by rw [← hN',List.length_map]
    have hL4:Ly G4 A' (s.next (e,n,m)).ns (fN f s.k N'):=by rw [hNl] at hL4; exact hL4
    have hfb':=Fb (x:=(e,n,m)) hfb hok.lt hN'
    have hk':((s.k + N'.length:Nat):Int)=((s.next (e,n,m)).k:Int):=by rw [hNl]; rfl
    rw [hk'] at e4
    walk_at "r"
    exact ⟨_,A',fN f s.k N',rfl,hL4,hfb',(s'.trans t1).trans t4⟩
  rintro σ H5 ⟨v,A,f,rfl,hL,hfb,s'⟩
  rw [List.length_map,hr'.1,List.take_length] at hL hfb
  have hok:=oks es.length (Nat.le_refl _)
  rw [List.take_length] at hok
  have hnl:=hok.nl
  generalize hs:ends (As.st L) es=s at *
  walk_at "r"
  refine yt ?_
  walk_at "r"
  refine tH hL.l hok.up (by omega) fun p4 J4 n4 s4 e4=>?_
  have hLy4:=hL.same s4
  walk_at "r"
  refine ⟨p4,rfl,⟨_,SqL.of e4⟩,fun du hO=>z3 (K:=K) (a:=p4) (ys:=(s.ns.map fun n:Nat=>(n:Int)).map V.int) (fun i xs σ' Hc=>∃ v:Option V,σ'=[v,some (.ref A)]∧xs=((s.ns.take i).map f).map Cell.v∧Hc du=some (.lst xs)∧SameX du J4 Hc) ⟨none,rfl,rfl,zk,(fun b o e n=>by rw [zt n]; exact e)⟩ (fun i xs σ' Hc _ z=>by obtain ⟨v,_,_,_,z⟩:=z; exact SqL.of (z _ _ e4 (ze e4 hO))) ?_ ?_⟩
  · rintro i x xs σ' Hc hi ⟨v,rfl,rfl,eO,sx⟩
    have hi':=(List.getElem?_eq_some_iff.mp hi).1
    rw [List.getElem?_map,List.getElem?_map] at hi
    obtain ⟨z,hz,rfl⟩:=Option.map_eq_some_iff.mp hi
    obtain ⟨n,hn,rfl⟩:=Option.map_eq_some_iff.mp hz
    have s':Same J4 Hc:=fun b o e=>sx b o e (ze e hO)
    have hL':=hLy4.same s'
    have hn':=List.mem_of_getElem? hn
    walk_at "r"
    refine ⟨A,_,rfl,DGet.k (k:=.inl (n:Int)) hL'.l |> (fun z=>by rw [zF hn'] at z; exact z),?_⟩
    walk_at "r"
    refine zB eO (by simp only [List.length_map,List.length_take] at hi' ⊢; omega) fun H5 x5 e5=>?_
    refine yv hi' ⟨_,rfl,rfl,?_,sx.trans x5⟩
    rw [List.take_succ,hn,List.map_append,List.map_append]
    exact e5
  rintro xs σ' J5 ⟨v,rfl,rfl,edu,sx⟩
  have s5:Same J4 J5:=fun b o e=>sx b o e (ze e hO)
  rw [List.length_map,List.length_map,List.take_length] at edu
  have z35:=s4.trans s5
  have hAdu:∀ c ∈ s.ns.map f,c.At J5:=fun c hc=>by
    obtain ⟨n,hn,rfl⟩:=List.mem_map.mp hc
    exact (hL.at' n hn).same z35
  have bdu:(s.ns.map f).map Cell.b=s.ns.map s.g:=Fn hfb
  clear sx
  exact q du (s.ns.map f) J5 (s'.trans z35) edu hAdu bdu
theorem ok_Yard_do {f:Addr} {fd:FuncData} (F:Fun K "do" "Yard.do" s_Yard_do f fd) (B:Bl mg) (X:Xs K mg cs) (g_TURN:TopS mg "TURN" (Str.ofString "turn")) (o_names_taken:Own P w K mg base 1 "names_taken" ["deed"] [] sp_names_taken) (o_Yard_check_names:OwnM P w K mg base CX0 cs.Yard 2 "check_names" ["self","names"] [] (sp_Yard_check_names cs)) (o_Yard_put_by:OwnM P w K mg base CX0 cs.Yard 5 "put_by" ["self","deed","boards"] [] (sp_Yard_put_by cs)) (o_is_deed:Own P w K mg base 4 "is_deed" ["thing"] [] sp_is_deed):FnOk P w K mg base CX0 6 f fd ["self","deed"] (sp_Yard_do cs):=by
  obtain ⟨u_TURN,m_TURN,r_TURN⟩:=g_TURN
  refine F.ok (k:=5) sc_Yard_do (fun vs H Q E h=>?_) (fun cdv A outer s H vs Q E hr h=>?_)
  · obtain ⟨y,d,tn,cl,ns,lg,p,e,c,c',rfl,hy,he,ok,hm,hn,ht,hc,hf,hd,l1,l2,q⟩:=h
    rfl
  obtain ⟨y,d,tn,cl,ns,lg,p,e,c,c',rfl,hy,he,ok,hm,hn,ht,hc,hf,hd,l1,l2,q⟩:=h
  refine ⟨_,(zc (zE (z8 (zT (zi o_is_deed hr rfl (za (pv 1) zd)))) (zf yK) zn) (zc (zv (i:=2) sc_Yard_do.nd rfl (Or.inl rfl) (zi o_names_taken hr rfl (za (pv 1) zd))) (zc (yh (wQ o_Yard_check_names vZ hr (pv 0) (za (pv 2) zd))) (zc (zE (PW.pt (yH (zj zY (zh zg (pv 1) zb (fun _ _=>rfl)) (yY (v:=.str (Str.ofString "turn")) rfl m_TURN r_TURN) (zp _)) (yn (z8 (zT (yd (K:=K) rfl (pv 0) rfl)))))) (zf yK) zn) (zc (zv (i:=3) sc_Yard_do.nd rfl (Or.inl rfl) (wQ o_Yard_put_by vZ hr (pv 0) (za (pv 1) (za (yi ["name"] [0] rfl (zW (pv 2)) (fun _ _ _ _ _=>(zw (i:=0) (show List.Nodup (α:=Str) ["name","self"] by decide +kernel) rfl (Or.inl rfl))) (fun _ _ _ _ _=>zR) (fun _ _ _ _ _=>(zh (r:=rIxL K) zo (yd (K:=K) rfl (pv 1) rfl) (pv 0) (fun _ _=>rfl)))) zd)))) (zc (yE PassesOwn.never rfl (zW (pv 2)) (zw (i:=4) sc_Yard_do.nd rfl (Or.inl rfl)) (zf (yh (Ai (yd (K:=K) rfl (pv 0) rfl) (pv 4) ⟨rfl,rfl,rfl,rfl⟩)))) (zc (yE PassesOwn.never rfl (zW (pv 3)) (zw (i:=5) sc_Yard_do.nd rfl (Or.inl rfl)) (zc (xY (yO hr) (yd (K:=K) rfl (pv 0) rfl) (zu zy rfl B.len PySem.boot_len (za (yd (K:=K) rfl (pv 0) rfl) zd)) yT rfl) (zf (yh (uw PySem.F.plainAttrs_list PySem.F.slot_list_append PySem.F.type_list_append ym (yd (K:=K) rfl (pv 0) rfl) (za (pv 5) zd)))))) (zf (yh (uw PySem.F.plainAttrs_list PySem.F.slot_list_append PySem.F.type_list_append ym (yd (K:=K) rfl (pv 0) rfl) (za (pv 1) zd))))))))))),?_⟩
  rw [show zJ ["self","deed","names","fresh","name","one"] [.ref y.p,.ref p]=[some (.ref y.p),some (.ref p),none,none,none,none] from rfl]
  walk_at "r"
  refine Cy he ok fun H1 s1=>?_
  walk_at "r"
  refine xQ (he.same s1) fun a H2 s2 na ea=>?_
  have t2:=s1.trans s2
  walk_at "r"
  have hy2:=hy.same t2
  have he2:=he.same t2
  refine ⟨_,_,_,rfl,hy2.o,rfl,?_⟩
  walk_at "r"
  refine xF hy2 ea hm hn e.names_len ?_
  walk_at "r"
  obtain ⟨rs,hp⟩:=he2.tup
  refine xg hp (zI (j:=0) rfl) ?_
  walk_at "r"
  refine GF ?_ (fun ct hB=>?_)
  rotate_left
  · walk_at "r"
    refine ⟨_,_,_,_,_,rfl,hy2.o,X.c_Yard,X.n_Yard_turning,rfl,?_⟩
    rw [ht (BD ct)]
    walk_at "rd"
    exact Fe hB
  walk_at "r"
  refine ⟨_,_,_,rfl,hy2.o,rfl,?_⟩
  walk_at "r"
  refine yt ?_
  walk_at "r"
  refine ⟨a,rfl,⟨_,SqL.of ea⟩,fun D hD=>z3 (K:=K) (a:=a) (ys:=e.names.map V.int) (fun i xs σ' H'=>∃ v:Option V,σ'=[v,some (.ref y.p)]∧xs=((e.cells c c').take i).map Cell.v∧H' D=some (.lst xs)∧SameX D H2 H') ⟨none,rfl,rfl,zk,fun b o e n=>by rw [zt n]; exact e⟩ (fun i xs σ' H' _ z=>by obtain ⟨v,_,_,_,z⟩:=z; exact SqL.of (z _ _ ea (ze ea hD))) ?_ ?_⟩
  · rintro i x xs σ' H' hi ⟨v,rfl,rfl,eD,sx⟩
    rw [List.getElem?_map] at hi
    obtain ⟨m,hm',rfl⟩:=Option.map_eq_some_iff.mp hi
    obtain ⟨n,x,rfl,hx,hcx⟩:=tQ hc hm'
    have hi3:=(List.getElem?_eq_some_iff.mp hm').1
    have hn2:=e.names_len
    have s':Same H2 H':=fun b o e=>sx b o e (ze e hD)
    have hy':=hy2.same s'
    walk_at "r"
    refine ⟨_,_,_,_,_,rfl,hy'.o,X.c_Yard,X.n_Yard_known,rfl,?_⟩
    walk_at "r"
    refine zD hy'.k (v:=x.v) (zI (by rw [List.getElem?_map,hx]; rfl)) ?_
    walk_at "r"
    refine zB eD (by rw [List.length_map,List.length_take]; omega) fun H3 x3 e3=>?_
    refine yv (by rw [List.length_map]; exact hi3) ⟨_,rfl,rfl,?_,sx.trans x3⟩
    rw [List.take_succ,hcx,List.map_append]
    exact e3
  rintro xs σ' H3 ⟨v,rfl,rfl,eD,sx⟩
  have s3:Same H2 H3:=fun b o e=>sx b o e (ze e hD)
  have t3:=t2.trans s3
  have hy3:=hy.same t3
  rw [List.length_map,← e.cells_len c c',List.take_length] at eD
  walk_at "r"
  refine v0 hy3 (he.same t3) (by rw [eD]; unfold Dd.cells; cases e.two <;> rfl) (hy3.at' c hc.mem.1) (hy3.at' c' hc.mem.2) hd hf fun r N H4 s4 nr er hN hNb=>?_
  have t4:=t3.trans s4
  have hy4:=hy.same t4
  have ea4:=s4 _ _ (s3 _ _ ea)
  have kl:y.k ≠ y.l:=yf hy4.k hy4.l (fun z=>nomatch z)
  have tl:y.t ≠ y.l:=yf hy4.t hy4.l (fun z=>nomatch z)
  have ol:y.p ≠ y.l:=yf hy4.o hy4.l (fun z=>nomatch z)
  have ok':y.p ≠ y.k:=yf hy4.o hy4.k (fun z=>nomatch z)
  have ot:y.p ≠ y.t:=yf hy4.o hy4.t (fun z=>nomatch z)
  have al:a ≠ y.l:=yf ea4 hy4.l (fun z=>nomatch z)
  have rl:r ≠ y.l:=yf er hy4.l (fun z=>nomatch z)
  have rk:r ≠ y.k:=Ne.symm (ze hy3.k nr)
  walk_at "r"
  refine wn ?_
  walk_at "r"
  refine ⟨a,rfl,⟨_,SqL.of ea4⟩,yM (K:=K) (a:=a) (xs:=e.names.map V.int) (fun i σ H'=>∃ v,σ=[some (.ref y.p),some (.ref p),some (.ref a),some (.ref r),v,none]∧H' y.l=some (.dK (nmK (yx ns (e.names.take i))))∧SameX y.l H4 H') ⟨_,rfl,hy4.l,fun b o e _=>e⟩ (fun i σ H' _ ⟨_,_,_,x⟩=>SqL.of (x _ _ ea4 al)) ?_ ?_⟩
  · rintro i x σ H' hi ⟨v,rfl,el,sx5⟩
    rw [List.getElem?_map] at hi
    obtain ⟨m,hm',rfl⟩:=Option.map_eq_some_iff.mp hi
    obtain ⟨n,hn',rfl⟩:=hm m (List.mem_of_getElem? hm')
    have hni:(n:Int) ∉ e.names.take i:=by
      intro hh
      obtain ⟨j,hj⟩:=List.getElem?_of_mem hh
      have hj1:=(List.getElem?_eq_some_iff.mp hj).1
      rw [List.length_take] at hj1
      rw [List.getElem?_take_of_lt (by omega)] at hj
      have:=(List.getElem?_inj (i:=j) (by omega) hn).mp (hj.trans hm'.symm)
      omega
    have eo:=sx5 _ _ hy4.o ol
    walk_at "r"
    refine ⟨_,_,_,_,_,rfl,eo,X.c_Yard,X.n_Yard_lying,rfl,?_⟩
    refine ⟨y.l,rfl,.inl ⟨_,.inl el⟩,?_⟩
    walk_at "r"
    refine ⟨_,.inl (n:Int),_,el,rfl,vM (mem_ndrop.mpr ⟨hn',hni⟩),?_⟩
    refine ⟨_,rfl,?_,fun b o e n=>by rw [zt n]; exact sx5 b o e n⟩
    rw [zk,uJ,List.take_succ,hm',show ((some (n:Int)).toList)=[(n:Int)] from rfl,wl]
  rintro σ H5 ⟨v,rfl,el5,sx5⟩
  rw [List.length_map,List.take_length] at el5
  have er5:=sx5 _ _ er rl
  have ek5:=sx5 _ _ hy4.k kl
  have hN2:N.length ≤ 2:=by rw [← List.length_map (f:=Cell.b),hNb]; exact vT e _ _
  have dl:=Bt (xH (ms:=e.names) hy.up) (fun n h=>hy.lt n (mem_ndrop.mp h).1)
  walk_at "r"
  refine wn ?_
  walk_at "r"
  refine ⟨r,rfl,⟨_,SqL.of er5⟩,yM (K:=K) (a:=r) (xs:=N.map Cell.v) (fun i σ H'=>∃ v v',σ=[some (.ref y.p),some (.ref p),some (.ref a),some (.ref r),v,v']∧H' y.l=some (.dK (nmK (yx ns e.names ++ List.range' cl.length i)))∧H' y.k=some (.lst ((cl ++ N.take i).map Cell.v))∧∀ b o,H5 b=some o→b ≠ y.k→b ≠ y.l→H' b=some o) ⟨_,_,rfl,by simpa using el5,by simpa using ek5,fun b o e _ _=>e⟩ (fun i σ H' _ ⟨_,_,_,_,_,x⟩=>SqL.of (x _ _ er5 rk rl)) ?_ ?_⟩
  · rintro i x σ H' hi ⟨v1,v2,rfl,el,ek,sx6⟩
    rw [List.getElem?_map] at hi
    obtain ⟨cx,hcx,rfl⟩:=Option.map_eq_some_iff.mp hi
    have hi3:=(List.getElem?_eq_some_iff.mp hcx).1
    have eo:=sx6 _ _ (sx5 _ _ hy4.o ol) ok' ol
    have lk:((cl ++ N.take i).map Cell.v).length=cl.length + i:=by rw [List.length_map,List.length_append,List.length_take]; omega
    walk_at "r"
    refine ⟨_,_,_,_,_,rfl,eo,X.c_Yard,X.n_Yard_lying,rfl,?_⟩
    walk_at "r"
    refine ⟨_,_,_,_,_,rfl,eo,X.c_Yard,X.n_Yard_known,rfl,?_⟩
    walk_at "r"
    rw [lk]
    refine ⟨y.l,_,rfl,DPut.k (k:=.inl ((cl.length + i:Nat):Int)) el (by simp only [nmK,List.length_map,List.length_append,List.length_range']; exact Nat.lt_of_lt_of_le (show _ < 1000 by omega) (by decide +kernel)),?_⟩
    have ek':upd H' y.l (.dK (putK (nmK (yx ns e.names ++ List.range' cl.length i)) (.inl ((cl.length + i:Nat):Int)) (.bl true))) y.k=some (.lst ((cl ++ N.take i).map Cell.v)):=by rw [zt kl]; exact ek
    walk_at "r"
    refine ⟨_,_,_,_,_,rfl,by rw [zt ol]; exact eo,X.c_Yard,X.n_Yard_known,rfl,?_⟩
    walk_at "r"
    refine zB ek' (by rw [lk]; omega) fun H7 x7 e7=>?_
    refine ⟨_,_,rfl,?_,?_,fun b o e n1 n2=>x7 _ _ (by rw [zt n2]; exact sx6 b o e n1 n2) n1⟩
    · rw [x7 _ _ zk (Ne.symm kl)]
      rw [v7 _ (vx (fun n hn=>?_))]
      · rw [List.range'_concat,← List.append_assoc]
        simp [nmK]
      · rcases List.mem_append.mp hn with hn | hn
        · have:=hy.lt n (mem_ndrop.mp hn).1
          omega
        · have:=List.mem_range'_1.mp hn
          omega
    · rw [List.take_succ,hcx,← List.append_assoc,List.map_append]
      exact e7
  rintro σ H6 ⟨v1,v2,rfl,el6,ek6,sx6⟩
  rw [List.length_map] at el6 ek6
  rw [List.take_length] at ek6
  have eo6:=sx6 _ _ (sx5 _ _ hy4.o ol) ok' ol
  have et6:=sx6 _ _ (sx5 _ _ hy4.t tl) (Ne.symm hy.kt) tl
  walk_at "r"
  refine ⟨_,_,_,_,_,rfl,eo6,X.c_Yard,X.n_Yard_done,rfl,?_⟩
  walk_at "r"
  refine zB et6 (by omega) fun H7 x7 e7=>?_
  walk_at "r"
  have keep:∀ x:Cell,x.At H4→x.At H7:=fun x hx=>by
    have f:∀ {b:Addr} {ys:List V},H4 b=some (.tup ys)→H7 b=some (.tup ys):=fun {b ys} e=>x7 _ _ (sx6 _ _ (sx5 _ _ e (yf e hy4.l (fun z=>nomatch z))) (yf e hy4.k (fun z=>nomatch z)) (yf e hy4.l (fun z=>nomatch z))) (yf e hy4.t (fun z=>nomatch z))
    exact ⟨f hx.t,f hx.w,f hx.h⟩
  refine q N H7 ⟨x7 _ _ eo6 ot,x7 _ _ ek6 hy.kt,x7 _ _ el6 (Ne.symm tl),e7,hy.kt,fun x hx=>?_,?_,fun n hn=>?_,by rw [List.length_append]; omega,by rw [List.length_append]; simp only [List.length_cons,List.length_nil]; omega⟩ hNb (fun b o e n1 n2 n3=>x7 _ _ (sx6 _ _ (sx5 _ _ (t4 _ _ e) n2) n1 n2) n3)
  · rcases List.mem_append.mp hx with hx | hx
    · exact keep x (hy4.at' x hx)
    · exact keep x (hN x hx)
  · refine List.pairwise_append.mpr ⟨xH hy.up,List.pairwise_lt_range' ..,fun n1 h1 n2 h2=>?_⟩
    have:=hy.lt n1 (mem_ndrop.mp h1).1
    have:=List.mem_range'_1.mp h2
    omega
  · rw [List.length_append]
    rcases List.mem_append.mp hn with hn | hn
    · have:=hy.lt n (mem_ndrop.mp hn).1
      omega
    · have:=List.mem_range'_1.mp hn
      omega
theorem ok_yard_behind {f:Addr} {fd:FuncData} (F:Fun K "yard_behind" "yard_behind" s_yard_behind f fd) (B:Bl mg) (X:Xs K mg cs) (o_Yard___init__:OwnI P w K mg base CX0 cs.Yard 1 "Yard" ["self","d","heap","turning"] [] (sp_Yard___init__ cs)) (o_Yard_do:OwnM P w K mg base CX0 cs.Yard 6 "do" ["self","deed"] [] (sp_Yard_do cs)):FnOk P w K mg base CX0 7 f fd ["d","heap","plan","turning"] (sp_yard_behind cs):=by
  refine F.ok (k:=6) sc_yard_behind (fun vs H Q E h=>?_) (fun cdv A outer s H vs Q E hr h=>?_)
  · obtain ⟨hp,pl,d,tn,L,ps,es,rfl,hh,hA,l30,hpl,plen,hd,hr',hw,q⟩:=h
    rfl
  obtain ⟨hp,pl,d,tn,L,ps,es,rfl,hh,hA,l30,hpl,plen,hd,hr',hw,q⟩:=h
  refine ⟨_,(zc (zv (i:=4) sc_yard_behind.nd rfl (Or.inl rfl) (Eg o_Yard___init__ vZ hr rfl (za (pv 0) (za (pv 1) (za (pv 3) zd))))) (zc (yE PassesOwn.never rfl (zW (pv 2)) (zw (i:=5) sc_yard_behind.nd rfl (Or.inl rfl)) (zf (yh (wQ o_Yard_do vZ hr (pv 4) (za (pv 5) zd))))) (zf (zm (pv 4))))),?_⟩
  rw [show zJ ["d","heap","plan","turning","yard","deed"] [.int d,.ref hp,.ref pl,.bl tn]=[some (.int d),some (.ref hp),some (.ref pl),some (.bl tn),none,none] from rfl]
  walk_at "r"
  refine E5 ?_
  walk_at "r"
  intro x dx nx ndx ndxx
  refine wT (tn:=tn) rfl nx ndx hh hA (by omega) fun y H1 ep s1 hy1 k1 l1 t1=>?_
  subst ep
  refine ⟨rfl,?_⟩
  have hpl1:=s1 _ _ hpl
  have plk:pl ≠ y.k:=ze hpl k1
  have plt:pl ≠ y.t:=ze hpl t1
  have hel:es.length ≤ 24:=by rw [← hr'.1]; exact plen
  have st0:YdS cs.Yard H1 y d tn (As.st L) []:=⟨L,hy1,rfl,fun n hn=>by
    have hn:n < L.length:=hn
    exact ⟨_,List.getElem?_eq_getElem hn,by show _=(fL L n).b; rw [wm (List.getElem?_eq_getElem hn)]⟩⟩
  walk_at "r"
  refine wn ?_
  walk_at "r"
  refine ⟨pl,rfl,⟨_,SqL.of hpl1⟩,yM (K:=K) (a:=pl) (xs:=ps.map V.ref) (fun i σ H'=>∃ v,σ=[some (.int d),some (.ref hp),some (.ref pl),some (.bl tn),some (.ref y.p),v]∧Same H H'∧YdS cs.Yard H' y d tn (ends (As.st L) (es.take i)) ((ps.take i).map V.ref)) ⟨_,rfl,s1,st0⟩ (fun i σ H' _ ⟨_,_,s,_⟩=>SqL.of (s _ _ hpl)) ?_ ?_⟩
  · rintro i x σ H' hi ⟨v,rfl,s',⟨cl,hyc,hk,hrel⟩⟩
    rw [List.getElem?_map] at hi
    obtain ⟨p,hp',rfl⟩:=Option.map_eq_some_iff.mp hi
    have ci:=(List.getElem?_eq_some_iff.mp hp').1
    have hkk:=Ff (s:=As.st L) (es:=es.take i)
    have hk0:(As.st L).k=L.length:=rfl
    rw [List.length_take] at hkk
    have hlg:((ps.take i).map V.ref).length ≤ 24:=by rw [List.length_map,List.length_take]; omega
    have hie:i < es.length:=by rw [← hr'.1]; exact ci
    obtain ⟨e,n,m,hx⟩:∃ e n m,es[i]?=some (e,n,m):=⟨_,_,_,List.getElem?_eq_getElem hie⟩
    have st:=hw i _ hx
    have he:=(hr'.2 i p _ hp' hx).same s'
    obtain ⟨cn,hcn,hbn⟩:=hrel n (hk ▸ hyc.lt n st.nms.hn)
    obtain ⟨cm,hcm,hbm⟩:=hrel m (hk ▸ hyc.lt m st.nms.hm)
    walk_at "r"
    refine ⟨_,_,_,rfl,hyc.o,rfl,?_⟩
    walk_at "r"
    refine Cv (c:=cn) (c':=cm) hyc he st.ok st.nms.names_in st.nms.nodup st.tn (st.nms.cells hcn hcm) (by rw [hbn,hbm]; exact st.fit) hd (by omega) (by omega) fun N H2 hy2 hN fr2=>?_
    rw [hbn,hbm] at hN
    walk_at "r"
    refine ⟨_,rfl,fun b o e=>fr2 _ _ (s' _ _ e) (ze e k1) (ze e l1) (ze e t1),?_⟩
    rw [xP hx,List.take_succ,hp',List.map_append]
    exact YdS.next hk hrel hy2 hN
  rintro σ H' ⟨v,rfl,s',st⟩
  rw [List.length_map,List.take_length,hr'.1,List.take_length] at st
  walk_at "r"
  exact q y H' s' st
theorem ok__law_plan {f:Addr} {fd:FuncData} (F:Fun K "_law_plan" "_law_plan" s__law_plan f fd) (B:Bl mg)  (o__law_begin:Own P w K mg base 1 "_law_begin" ["_law_heap_here"] [] sp__law_begin) (o__law_deed:Own P w K mg base 6 "_law_deed" ["_law_d","_law_cell_here","_law_lying","_law_pool"] [] (sp__law_deed K)) (o__law_done:Own P w K mg base 5 "_law_done" ["_law_lying","_law_used","_law_deed_here"] [] sp__law_done) (o__law_digits:Own P w K mg base 2 "_law_digits" ["_law_cell_here","_law_many"] [] sp__law_digits):FnOk P w K mg base CX0 7 f fd ["_law_d","_law_script","_law_heap_here","_law_pool","_law_turning"] (sp__law_plan K):=by
  refine F.ok (k:=6) sc__law_plan (fun vs H Q E h=>?_) (fun cdv A outer s H vs Q E hr h=>?_)
  · obtain ⟨d,sc,l,qa,tn,zs0,L,P,D0,rfl,hS,hb,hl,hA,l1,l6,hP,hD,oL,oP,hR,q⟩:=h
    rfl
  obtain ⟨d,sc,l,qa,tn,zs0,L,P,D0,rfl,hS,hb,hl,hA,l1,l6,hP,hD,oL,oP,hR,q⟩:=h
  refine ⟨_,(zc (wp (zi o__law_begin hr rfl (za (pv 2) zd)) (xv (n:=2) rfl (zM (zw (i:=5) sc__law_plan.nd rfl (Or.inr rfl)) (zM (zw (i:=6) sc__law_plan.nd rfl (Or.inl rfl)) yN)))) (zc (zv (i:=7) sc__law_plan.nd rfl (Or.inl rfl) (zU zd)) (zc (yE PassesOwn.never rfl (zW (vA BJ (pv 1) (vX zb) (vX zb))) (zw (i:=8) sc__law_plan.nd rfl (Or.inl rfl)) (zc (zv (i:=9) sc__law_plan.nd rfl (Or.inl rfl) (zi o__law_deed hr rfl (za (pv 0) (za (pv 8) (za (pv 5) (za (pv 3) zd)))))) (zc (wM (zE (PW.pt (yH (zT (pv 4)) (yn (zj zY (zr zQ (zh zo (zi o__law_digits hr rfl (za (pv 8) (za zb zd))) zb (fun _ _=>rfl)) zb) zb (zp _))))) (zf (zv (i:=9) sc__law_plan.nd rfl (Or.inl rfl) (zK (za zG (za (zh zg (pv 9) zb (fun _ _=>rfl)) zd))))) zn)) (zc (yh (uw PySem.F.plainAttrs_list PySem.F.slot_list_append PySem.F.type_list_append ym (pv 7) (za (pv 9) zd))) (zf (wp (zi o__law_done hr rfl (za (pv 5) (za (pv 6) (za (pv 9) zd)))) (xv (n:=2) rfl (zM (zw (i:=5) sc__law_plan.nd rfl (Or.inr rfl)) (zM (zw (i:=6) sc__law_plan.nd rfl (Or.inl rfl)) yN))))))))) (zf (zm (zK (za (pv 7) (za (yi ["_law_name"] [5] rfl (zW (zu (wg rfl) rfl B.sorted xj (za (pv 5) zd))) (fun _ _ _ _ _=>(zw (i:=0) (show List.Nodup (α:=Str) ["_law_name","_law_lying"] by decide +kernel) rfl (Or.inl rfl))) (fun _ _ _ _ _=>zR) (fun _ _ _ _ _=>(yu (yO hr) (pv 1) (pv 0) (fun _ _=>rfl)))) zd)))))))),?_⟩
  rw [show zJ ["_law_d","_law_script","_law_heap_here","_law_pool","_law_turning","_law_lying","_law_used","_law_plan_here","_law_cell_here","_law_deed_here"] [.int d,.ref sc,.ref l,.ref qa,.bl tn]=[some (.int d),some (.ref sc),some (.ref l),some (.ref qa),some (.bl tn),none,none,none,none,none] from rfl]
  walk_at "r"
  refine wx hl hA (by omega) fun r1 A0 H1 s1 nA e1 hLy=>?_
  walk_at "r"
  refine zA (by simp) fun pl H2 npl s2 epl=>?_
  have hLy2:=hLy.same s2
  have z2:=s1.trans s2
  have rel0:∀ n ∈ (As.st L).ns,(fL L n).b=(As.st L).g n:=fun n hn=>rfl
  have ok0:As.Ok 6 (As.st L) 0:=by rw [AK]; exact AN (by rw [List.length_map]; exact l1) (by rw [List.length_map]; exact l6)
  have ob0:Ever d D0 341 (As.st L):=fun n hn=>by
    have hn:n < L.length:=hn
    show BoD d D0 341 (fL L n).b
    rw [wm (List.getElem?_eq_getElem hn)]
    exact oL _ (List.getElem_mem hn)
  walk_at "r"
  refine wn ?_
  walk_at "r"
  refine EA (i:=12) (j:=36) (z2.seq hS) fun zl H4 nzl s4 ezl=>?_
  obtain ⟨zs,hzs⟩:∃ zs,(zs0.drop 12).take (36 - 12)=zs:=⟨_,rfl⟩
  have hz24:zs.length ≤ 24:=by rw [← hzs,List.length_take]; omega
  have hzb:∀ x ∈ zs,Bd 1048576 x:=fun x hx=>by rw [← hzs] at hx; exact hb x (List.mem_of_mem_drop (List.mem_of_mem_take hx))
  rw [hzs] at ezl
  have zpl:zl ≠ pl:=Ne.symm (ze epl nzl)
  have qpl:qa ≠ pl:=ze (s1 _ _ hP.l) npl
  refine ⟨zl,rfl,⟨_,SqL.of ezl⟩,yM (K:=K) (a:=zl) (xs:=zs.map V.int) (fun i σ H'=>∃ (vc vd:Option V) (A:Addr) (f:Nat→Cell) (ps:List Addr) (es:DL) (D:Int),σ=[some (.int d),some (.ref sc),some (.ref l),some (.ref qa),some (.bl tn),some (.ref A),some (.int ((ends (As.st L) es).k:Int)),some (.ref pl),vc,vd]∧(es.length=i∧Ly H' A (ends (As.st L) es).ns f∧(∀ n ∈ (ends (As.st L) es).ns,(f n).b=(ends (As.st L) es).g n)∧As.Ok 6 (ends (As.st L) es) i)∧(1 ≤ D∧Bd (301 + 14 * i) D∧Ever d D (341 + 28 * i) (ends (As.st L) es)∧∀ x ∈ P,So d D (341 + 28 * i) x.2)∧(H' pl=some (.lst (ps.map V.ref))∧Runs H' ps es∧Walk d tn (As.st L) es)∧∀ b o,H4 b=some o→b ≠ pl→H' b=some o) ⟨none,none,A0,fL L,[],[],D0,rfl,⟨rfl,hLy2.same s4,rel0,ok0⟩,⟨hD.1,hD.2,ob0,oP⟩,⟨s4 _ _ epl,⟨rfl,fun i p x h=>by simp at h⟩,fun i x h=>by simp at h⟩,fun b o e n1=>e⟩ (fun i σ H' _ z=>by obtain ⟨_,_,_,_,_,_,_,_,_,_,_,z⟩:=z; exact SqL.of (z _ _ ezl zpl)) ?_ ?_⟩
  · rintro i x σ H' hi ⟨vc,vd,A,f,ps,es,D,rfl,⟨hel,hL,hfb,hok⟩,⟨D1,bD,ob,oP⟩,⟨epl',hrun,hwalk⟩,fr⟩
    have hi':=(List.getElem?_eq_some_iff.mp hi).1
    have hi24:i < 24:=by rw [List.length_map] at hi'; omega
    obtain ⟨cz,rfl,hcz⟩:=D8 hi
    have hczb:=hzb cz hcz
    have zz:Sz D (301 + 14 * i) (341 + 28 * i):=⟨D1,bD,by omega,by omega⟩
    have hP':Pl H' qa P:=⟨fr _ _ (s4 _ _ (z2 _ _ hP.l)) qpl,fun x hx=>fr _ _ (s4 _ _ (z2 _ _ (hP.at' x hx))) (yf (s4 _ _ (z2 _ _ (hP.at' x hx))) (s4 _ _ epl) (fun z=>nomatch z)),hP.n⟩
    have hnl:=hok.nl
    have hkl:=hok.kl
    generalize hs:ends (As.st L) es=s at *
    have obf:∀ n ∈ s.ns,BoD d D (341 + 28 * i) (f n).b:=fun n hn=>by rw [hfb n hn]; exact ob n (hok.lt n hn)
    walk_at "r"
    refine tJ hczb hL hok.up (by omega) hok.ne obf hP' oP zz hR fun p e n m G1 t1 he gd hnt=>?_
    walk_at "r"
    refine tN (T:=fun σ' G2=>∃ (p:Addr) (e:Dd) (n m:Nat),σ'=[some (.int d),some (.ref sc),some (.ref l),some (.ref qa),some (.bl tn),some (.ref A),some (.int (s.k:Int)),some (.ref pl),some (.int cz),some (.ref p)]∧Same H' G2∧DdAt G2 p e∧e.Good d D (341 + 28 * i) s.ns f n m∧(e.isT=true→tn=true)) ?_ ?_
    · walk_at "r"
      cases htn2:tn with
      | false =>
        walk_at "r"
        exact ⟨p,e,n,m,rfl,t1,he,gd,fun h=>by simp [hnt] at h⟩
      | true =>
        walk_at "r"
        refine yj hczb (by decide) (by decide) fun l2 G2 ds t2 e2 hl2 hds=>?_
        obtain ⟨x8,k8,a8,b8⟩:=dig hl2 hds 8 (by decide) (by decide)
        repeat (first | walk_at "rd" | refine zD e2 k8 ?_)
        refine if_d (fun c8=>?_) (fun c8=>?_)
        · obtain ⟨rs,hpt⟩:=(he.same t2).tup
          walk_at "r"
          refine xg hpt (zI (j:=1) rfl) ?_
          walk_at "r"
          refine zC (by simp) fun p3 G3 n3 t3 e3=>?_
          walk_at "r"
          refine ⟨p3,.turn n,n,n,rfl,(t1.trans t2).trans t3,?_,BB gd.hn (obf n gd.hn),fun _=>rfl⟩
          rw [gd.en] at e3
          exact e3
        · walk_at "r"
          exact ⟨p,e,n,m,rfl,t1.trans t2,he.same t2,gd,fun h=>by simp [hnt] at h⟩
    clear he gd hnt t1 p e n m
    rintro σ' G2 ⟨p,e,n,m,rfl,t2,he,gd,hturn⟩
    have epl2:=t2 _ _ epl'
    walk_at "r"
    refine zB epl2 (by rw [List.length_map,hrun.1]; omega) fun G3 x3 e3=>?_
    have hL3:=(hL.same t2).sameX x3 epl2
    have he3:=he.sameX x3 epl2
    walk_at "r"
    refine wU hL3 hok.lt (by omega) he3 gd fun r4 A' N' G4 t4 nA' e4 hN' hL4=>?_
    have hgn:(f n).b=s.g n:=hfb n gd.hn
    have hgm:(f m).b=s.g m:=hfb m gd.hm
    rw [hgn,hgm] at hN'
    have hNl:N'.length=(e.new (s.g n) (s.g m)).length:=by rw [← hN',List.length_map]
    have hL4:Ly G4 A' (s.next (e,n,m)).ns (fN f s.k N'):=by rw [hNl] at hL4; exact hL4
    have hfb':=Fb (x:=(e,n,m)) hfb hok.lt hN'
    have hok':=hok.next (x:=(e,n,m)) (Ax gd)
    have hk':((s.k + N'.length:Nat):Int)=((s.next (e,n,m)).k:Int):=by rw [hNl]; rfl
    rw [hk'] at e4
    obtain ⟨k,k1,bk,onew⟩:=gd.new
    rw [hgn,hgm] at onew
    have D1':1 ≤ D * k:=Int.mul_pos (by omega) (by omega)
    have bD':Bd (301 + 14 * (i + 1)) (D * k):=(bD.mul bk).mono (by omega)
    have ob':Ever d (D * k) (341 + 28 * (i + 1)) (s.next (e,n,m)):=fun j hj=>by
      rw [vy,← Dd.puts_new _ (s.g n) (s.g m)] at hj
      have hj:j < s.k + (e.new (s.g n) (s.g m)).length:=hj
      by_cases cj:j < s.k
      · rw [show (s.next (e,n,m)).g j=s.g j from CL cj]
        exact ((ob j cj).up bk).mono (by omega)
      · obtain ⟨t,rfl⟩:∃ t,j=s.k + t:=⟨j - s.k,by omega⟩
        have ht':t < (e.new (s.g n) (s.g m)).length:=by omega
        rw [show (s.next (e,n,m)).g (s.k + t)=_ from yS (List.getElem?_eq_getElem ht')]
        exact (onew _ (List.getElem_mem ht')).mono (by omega)
    have hsnext:ends (As.st L) (es ++ [(e,n,m)])=s.next (e,n,m):=by rw [Ar,hs]
    walk_at "r"
    refine ⟨some (.int cz),some (.ref p),A',fN f s.k N',ps ++ [p],es ++ [(e,n,m)],D * k,?_,?_,?_,?_,?_⟩
    · rw [hsnext]
    · rw [hsnext]
      exact ⟨by rw [List.length_append,hel]; rfl,hL4,hfb',hok'⟩
    · rw [hsnext]
      exact ⟨D1',bD',ob',fun x hx=>((oP x hx).scale bk).mono (by omega)⟩
    · exact ⟨t4 _ _ (by rw [List.map_append]; exact e3),uC (((hrun.same t2).sameX x3 epl2).same t4) (he3.same t4),uM hwalk (by rw [hs]; exact ⟨Ax gd,gd.ok,by rw [← hgn,← hgm]; exact gd.fit,hturn⟩)⟩
    · exact fun b o e n1=>t4 _ _ (x3 _ _ (t2 _ _ (fr _ _ e n1)) n1)
  rintro σ H5 ⟨vc,vd,A,f,ps,es,D,rfl,⟨hel,hL,hfb,hok⟩,⟨D1,bD,ob,oP⟩,⟨epl',hrun,hwalk⟩,fr⟩
  have hel24:es.length ≤ 24:=by rw [hel,List.length_map]; exact hz24
  rw [← hel] at bD ob hok
  have hnl:=hok.nl
  have s50:Same H H5:=fun b o e=>fr _ _ (s4 _ _ (z2 _ _ e)) (ze (s1 _ _ e) npl)
  have szz:Sz D 637 1013:=⟨D1,bD.mono (by omega),by decide,by decide⟩
  have evv:Ever d D 1013 (ends (As.st L) es):=fun n hn=>(ob n hn).mono (by omega)
  generalize hs:ends (As.st L) es=s at *
  clear s4
  walk_at "r"
  refine yt ?_
  walk_at "r"
  refine tH hL.l hok.up (by omega) fun p4 J4 n4 s4 e4=>?_
  have hLy4:=hL.same s4
  walk_at "r"
  refine ⟨p4,rfl,⟨_,SqL.of e4⟩,fun du hO=>z3 (K:=K) (a:=p4) (ys:=(s.ns.map fun n:Nat=>(n:Int)).map V.int) (fun i xs σ' Hc=>∃ v:Option V,σ'=[v,some (.ref A)]∧xs=((s.ns.take i).map f).map Cell.v∧Hc du=some (.lst xs)∧SameX du J4 Hc) ⟨none,rfl,rfl,zk,(fun b o e n=>by rw [zt n]; exact e)⟩ (fun i xs σ' Hc _ z=>by obtain ⟨v,_,_,_,z⟩:=z; exact SqL.of (z _ _ e4 (ze e4 hO))) ?_ ?_⟩
  · rintro i x xs σ' Hc hi ⟨v,rfl,rfl,eO,sx⟩
    have hi':=(List.getElem?_eq_some_iff.mp hi).1
    rw [List.getElem?_map,List.getElem?_map] at hi
    obtain ⟨z,hz,rfl⟩:=Option.map_eq_some_iff.mp hi
    obtain ⟨n,hn,rfl⟩:=Option.map_eq_some_iff.mp hz
    have s':Same J4 Hc:=fun b o e=>sx b o e (ze e hO)
    have hL':=hLy4.same s'
    have hn':=List.mem_of_getElem? hn
    walk_at "r"
    refine ⟨A,_,rfl,DGet.k (k:=.inl (n:Int)) hL'.l |> (fun z=>by rw [zF hn'] at z; exact z),?_⟩
    walk_at "r"
    refine zB eO (by simp only [List.length_map,List.length_take] at hi' ⊢; omega) fun H5 x5 e5=>?_
    refine yv hi' ⟨_,rfl,rfl,?_,sx.trans x5⟩
    rw [List.take_succ,hn,List.map_append,List.map_append]
    exact e5
  rintro xs σ' J5 ⟨v,rfl,rfl,edu,sx⟩
  have s5:Same J4 J5:=fun b o e=>sx b o e (ze e hO)
  rw [List.length_map,List.length_map,List.take_length] at edu
  have z35:=s4.trans s5
  have hAdu:∀ c ∈ s.ns.map f,c.At J5:=fun c hc=>by
    obtain ⟨n,hn,rfl⟩:=List.mem_map.mp hc
    exact (hL.at' n hn).same z35
  have bdu:(s.ns.map f).map Cell.b=s.ns.map s.g:=Fn hfb
  clear sx
  walk_at "r"
  refine zC (by simp) fun r6 J6 nr6 s6 e6=>?_
  have z56:=z35.trans s6
  exact q r6 pl du ps (s.ns.map f) es D J6 (s50.trans z56) e6 (z56 _ _ epl') (s6 _ _ edu) (fun c hc=>(hAdu c hc).same s6) (by rw [hs]; exact bdu) (hrun.same z56) hwalk hel24 szz (by rw [hs]; exact evv)
theorem DY {cl:List Cell} {g:Nat→Bo}:∀ {ns:List Nat},(∀ n ∈ ns,∃ c,cl[n]?=some c∧c.b=g n)→(pick cl ns).map Cell.b=ns.map g
  | [],_=>rfl
  | n :: ns,h=>by
    obtain ⟨c,h1,h2⟩:=h n List.mem_cons_self
    have ih:=DY (ns:=ns) fun m hm=>h m (List.mem_cons_of_mem _ hm)
    simp only [pick,List.filterMap_cons,h1,List.map_cons,h2] at ih ⊢
    rw [ih]
theorem ok_walked {f:Addr} {fd:FuncData} {its:List Value} (F:FunD K "walked" "walked" s_walked f fd its) (B:Bl mg)  (o_Yard_heap:OwnM P w K mg base CX0 cs.Yard 1 "heap" ["self"] [] (sp_Yard_heap cs)) (o_yard_behind:Own P w K mg base 7 "yard_behind" ["d","heap","plan","turning"] [] (sp_yard_behind cs)):FnOk P w K mg base CX0 8 f fd ["d","heap","plan","turning"] (sp_walked cs):=by
  refine F.ok (k:=7) B6 (fun vs H Q E h=>?_) (fun cdv A outer s H vs Q E hr h=>?_)
  · obtain ⟨hp,pl,d,tn,L,ps,es,rfl,hh,hA,l30,hpl,plen,hd,hr',hw,q⟩:=h
    rfl
  obtain ⟨hp,pl,d,tn,L,ps,es,rfl,hh,hA,l30,hpl,plen,hd,hr',hw,q⟩:=h
  refine ⟨_,(zf (zm (Aq o_Yard_heap vZ hr (zi o_yard_behind hr rfl (za (pv 0) (za (pv 1) (za (pv 2) (za (pv 3) zd)))))))),?_⟩
  rw [show zJ ["d","heap","plan","turning"] [.int d,.ref hp,.ref pl,.bl tn]=[some (.int d),some (.ref hp),some (.ref pl),some (.bl tn)] from rfl]
  walk_at "r"
  refine xE hh hA l30 hpl plen hd hr' hw fun y H1 s1 st=>?_
  obtain ⟨cl,hyc,hk,hrel⟩:=st
  refine ⟨_,_,_,rfl,hyc.o,rfl,?_⟩
  walk_at "r"
  refine tX hyc fun r H2 s2 nr e2=>?_
  exact q r _ H2 (s1.trans s2) (Same.nn s1 nr) e2 (fun c hc=>(hyc.at' c (Dk hc)).same s2) (DY fun n hn=>hrel n (hk ▸ hyc.lt n hn))
theorem ok_back {f:Addr} {fd:FuncData} (F:Fun K "back" "back" s_back f fd) (B:Bl mg)  (o_yard_behind:Own P w K mg base 7 "yard_behind" ["d","heap","plan","turning"] [] (sp_yard_behind cs)) (o_Yard_boards:OwnM P w K mg base CX0 cs.Yard 1 "boards" ["self"] [] (sp_Yard_boards cs)) (o_names_taken:Own P w K mg base 1 "names_taken" ["deed"] [] sp_names_taken) (o_places_of:Own P w K mg base 1 "places_of" ["names"] [] sp_places_of) (o_count_put:Own P w K mg base 1 "count_put" ["deed"] [] sp_count_put) (o_undoing:Own P w K mg base 2 "undoing" ["yard","deed","names"] [] (sp_undoing cs)):FnOk P w K mg base CX0 8 f fd ["d","heap","plan"] (sp_back cs):=by
  refine F.ok (k:=7) sc_back (fun vs H Q E h=>?_) (fun cdv A outer s H vs Q E hr h=>?_)
  · obtain ⟨hp,pl,d,tn,L,ps,es,D0,K',M,rfl,hh,hA,l1,l6,hpl,plen,hR,hr',hw,z,ev,q⟩:=h
    rfl
  obtain ⟨hp,pl,d,tn,L,ps,es,D0,K',M,rfl,hh,hA,l1,l6,hpl,plen,hR,hr',hw,z,ev,q⟩:=h
  refine ⟨_,(zc (zv (i:=3) sc_back.nd rfl (Or.inl rfl) (zi o_yard_behind hr rfl (za (pv 0) (za (pv 1) (za (pv 2) (za yT zd)))))) (zc (zv (i:=4) sc_back.nd rfl (Or.inl rfl) (Aq o_Yard_boards vZ hr (pv 3))) (zc (zv (i:=5) sc_back.nd rfl (Or.inr rfl) vJ) (zc (yE PassesOwn.never rfl (Be rfl B.enumerate (za (pv 4) zd)) (xv (n:=2) rfl (zM (zw (i:=6) sc_back.nd rfl (Or.inl rfl)) (zM (zw (i:=7) sc_back.nd rfl (Or.inl rfl)) yN))) (zf (xY (yO hr) (pv 5) (zh zg (pv 7) zb (fun _ _=>rfl)) (pv 6) rfl))) (zc (zv (i:=8) sc_back.nd rfl (Or.inl rfl) (zu zy rfl B.len PySem.boot_len (za (pv 4) zd))) (zc (zv (i:=9) sc_back.nd rfl (Or.inl rfl) (zr zZ (zu zy rfl B.len PySem.boot_len (za (pv 1) zd)) (zu (Bq rfl) rfl B.sum Fd (za (yi ["deed"] [] rfl (zW (pv 2)) (fun _ _ _ _ _=>(zw (i:=0) (show List.Nodup (α:=Str) ["deed"] by decide +kernel) rfl (Or.inl rfl))) (fun _ _ _ _ _=>zR) (fun _ _ _ _ _=>(zi o_count_put hr rfl (za (pv 0) zd)))) zd)))) (zc (zv (i:=10) sc_back.nd rfl (Or.inl rfl) (zU zd)) (zc (yE PassesOwn.never rfl (EI rfl B.reversed (za (pv 2) zd)) (zw (i:=11) sc_back.nd rfl (Or.inl rfl)) (zc (zv (i:=12) sc_back.nd rfl (Or.inl rfl) (zr xn (pv 9) (zi o_count_put hr rfl (za (pv 11) zd)))) (zc (yh (uw PySem.F.plainAttrs_list PySem.F.slot_list_append PySem.F.type_list_append ym (pv 10) (za (zi o_undoing hr rfl (za (pv 3) (za (pv 11) (za (yi ["name"] [5] rfl (ul rfl B.range (za (pv 12) (za (pv 9) zd))) (fun _ _ _ _ _=>(zw (i:=0) (show List.Nodup (α:=Str) ["name","renamed"] by decide +kernel) rfl (Or.inl rfl))) (fun _ _ _ _ _=>zR) (fun _ _ _ _ _=>(yu (yO hr) (pv 1) (pv 0) (fun _ _=>rfl)))) zd)))) zd))) (zc (yE PassesOwn.never rfl (zW (zi o_names_taken hr rfl (za (pv 11) zd))) (zw (i:=13) sc_back.nd rfl (Or.inl rfl)) (zc (xY (yO hr) (pv 5) (pv 13) (pv 8) rfl) (zf (zv (i:=8) sc_back.nd rfl (Or.inl rfl) (zr zZ (pv 8) zb))))) (zf (zv (i:=9) sc_back.nd rfl (Or.inl rfl) (pv 12))))))) (zf (zm (zK (za (pv 10) (za (zi o_places_of hr rfl (za (yi ["name"] [5] rfl (yF rfl B.range (za (zu zy rfl B.len PySem.boot_len (za (pv 1) zd)) zd)) (fun _ _ _ _ _=>(zw (i:=0) (show List.Nodup (α:=Str) ["name","renamed"] by decide +kernel) rfl (Or.inl rfl))) (fun _ _ _ _ _=>zR) (fun _ _ _ _ _=>(yu (yO hr) (pv 1) (pv 0) (fun _ _=>rfl)))) zd)) zd))))))))))))),?_⟩
  rw [show zJ ["d","heap","plan","yard","ends","renamed","place","named","unused","behind","deeds","deed","ahead","name"] [.int d,.ref hp,.ref pl]=[some (.int d),some (.ref hp),some (.ref pl),none,none,none,none,none,none,none,none,none,none,none] from rfl]
  have hel:es.length ≤ 24:=by rw [← hr'.1]; exact plen
  have dlo:=hR.lo
  have hd64:Bd 64 d:=zS (B:=99) (by omega) hR.hi (by decide +kernel)
  have ok0:As.Ok 6 (As.st L) 0:=by rw [AK]; exact AN (by rw [List.length_map]; exact l1) (by rw [List.length_map]; exact l6)
  have oks:=wa ok0 hw
  have okN:=oks es.length (Nat.le_refl _)
  rw [List.take_length] at okN
  have nlN:=okN.nl
  have klN:=okN.kl
  have ndN:=wE okN.up
  walk_at "r"
  refine xE hh hA (by omega) hpl plen hd64 hr' (BZ hw) fun y H1 s1 st=>?_
  obtain ⟨cl,hyc,hk,hrel⟩:=st
  walk_at "r"
  refine ⟨_,_,_,rfl,hyc.o,rfl,?_⟩
  walk_at "r"
  refine v8 hyc fun r2 H2 prs s2 nr2 e2 hprs=>?_
  walk_at "r"
  refine u9 fun D H3 nD s3 e3=>?_
  have e23:=s3 _ _ e2
  have r2D:r2 ≠ D:=ze e2 nD
  walk_at "r"
  refine DH ?_
  walk_at "r"
  refine ⟨r2,_,rfl,SqL.of e23,Ae (K:=K) (a:=r2) (xs:=prs.map V.ref) (fun i σ H'=>∃ v1 v2 kvs,σ=[some (.int d),some (.ref hp),some (.ref pl),some (.ref y.p),some (.ref r2),some (.ref D),v1,v2,none,none,none,none,none,none]∧H' D=some (.dK kvs)∧kvs.length ≤ i∧Rn kvs ((ends (As.st L) es).ns.take i) (rk (ends (As.st L) es).ns)∧∀ b o,H3 b=some o→b ≠ D→H' b=some o) ⟨_,_,[],rfl,e3,Nat.le_refl _,fun n hn=>by simp at hn,fun b o e _=>e⟩ (fun i σ H' _ ⟨_,_,_,_,_,_,_,z⟩=>SqL.of (z _ _ e23 r2D)) ?_ ?_⟩
  · rintro i x T σ H' hi hT ⟨v1,v2,kvs,rfl,eD,hkl,hRn,fr⟩
    have hi':=(List.getElem?_eq_some_iff.mp hi).1
    rw [List.length_map,hprs.1] at hi'
    rw [List.getElem?_map] at hi
    obtain ⟨p,hp',rfl⟩:=Option.map_eq_some_iff.mp hi
    obtain ⟨n,c,hn,hc,hpt⟩:=hprs.2 i p hp'
    have hpt3:=fr _ _ (s3 _ _ hpt) (yf (s3 _ _ hpt) e3 (fun z=>nomatch z))
    have eD':(upd H' T (.tup [.int (i:Int),.ref p])) D=some (.dK kvs):=by rw [zt (ze eD hT)]; exact eD
    have eT:(upd H' T (.tup [.int (i:Int),.ref p])) T=some (.tup [.int (i:Int),.ref p]):=zk
    have hpt4:(upd H' T (.tup [.int (i:Int),.ref p])) p=some (.tup [.int (n:Int),.ref c.p]):=by rw [zt (ze hpt3 hT)]; exact hpt3
    have frT:∀ b o,H3 b=some o→b ≠ D→(upd H' T (.tup [.int (i:Int),.ref p])) b=some o:=fun b o e n=>by rw [zt (ze (fr b o e n) hT)]; exact fr b o e n
    generalize upd H' T (.tup [.int (i:Int),.ref p])=G at eT eD' frT hpt4 ⊢
    walk_at "r"
    refine ⟨D,_,rfl,DPut.k (k:=.inl (n:Int)) eD' (Nat.lt_of_lt_of_le (show _ < 1000 by omega) (by decide +kernel)),?_⟩
    refine ⟨_,_,_,rfl,zk,Nat.le_trans (yB ..) (by omega),fun j hj=>?_,fun b o e n=>by rw [zt n]; exact frT b o e n⟩
    rw [xO]
    rw [List.take_succ,hn] at hj
    by_cases c:j=n
    · subst c
      rw [if_pos rfl,CF ndN hn]
    · rw [if_neg (Aj c)]
      refine hRn j ?_
      rcases List.mem_append.mp hj with h | h
      · exact h
      · exact absurd (by simpa using h) c
  rintro σ H4 ⟨w1,w2,kvs0,rfl,eD4,hkl4,hR4,fr4⟩
  rw [List.length_map,hprs.1] at hkl4 hR4
  rw [List.take_length] at hR4
  have s4:Same H2 H4:=fun b o e=>fr4 _ _ (s3 _ _ e) (ze e nD)
  have s04:=(s1.trans s2).trans s4
  have e24:=s4 _ _ e2
  have hh4:=s04 _ _ hh
  walk_at "r"
  refine yt ?_
  walk_at "r"
  have hpl4:=s04 _ _ hpl
  refine ⟨pl,rfl,⟨_,SqL.of hpl4⟩,fun O hO=>z3 (K:=K) (a:=pl) (ys:=ps.map V.ref) (fun i xs σ' H'=>∃ v:Option V,σ'=[v]∧xs=((es.take i).map fun x=>((x.1.puts:Nat):Int)).map V.int∧H' O=some (.lst xs)∧SameX O H4 H') ⟨none,rfl,rfl,zk,fun b o e n=>by rw [zt n]; exact e⟩ (fun i xs σ' H' _ z=>by obtain ⟨v,_,_,_,z⟩:=z; exact SqL.of (z _ _ hpl4 (ze hpl4 hO))) ?_ ?_⟩
  · rintro i x xs σ' H' hi ⟨v,rfl,rfl,eO,sx⟩
    have hi':=(List.getElem?_eq_some_iff.mp hi).1
    rw [List.getElem?_map] at hi
    obtain ⟨p,hp',rfl⟩:=Option.map_eq_some_iff.mp hi
    have hie:i < es.length:=by rw [← hr'.1]; exact (List.getElem?_eq_some_iff.mp hp').1
    have hx:=List.getElem?_eq_getElem hie
    have he:=((hr'.2 i p _ hp' hx).same s04).same (fun b o e=>sx b o e (ze e hO))
    walk_at "r"
    refine wW he ?_
    walk_at "r"
    refine zB eO (by simp only [List.length_map,List.length_take]; omega) fun H5 x5 e5=>?_
    refine yv hi' ⟨_,rfl,rfl,?_,sx.trans x5⟩
    rw [List.take_succ,hx,List.map_append,List.map_append]
    exact e5
  rintro xs σ' H5 ⟨v,rfl,rfl,eO5,sx5⟩
  have s5:Same H4 H5:=fun b o e=>sx5 b o e (ze e hO)
  rw [List.length_map,hr'.1,List.take_length] at eO5
  walk_at "r"
  refine G0 (SqL.of eO5) ?_
  have hsum:((L.map Cell.v).length:Int) + (es.map fun x=>((x.1.puts:Nat):Int)).sum=((ends (As.st L) es).k:Nat):=by
    rw [CV,uj,List.length_map]
    show _=((L.length + _:Nat):Int)
    omega
  walk_at "r"
  rw [hsum]
  refine zA (by simp) fun a H6 na s6 e6=>?_
  have s46:=s5.trans s6
  have s06:=s04.trans s46
  have eD6:=s46 _ _ eD4
  have Da:D ≠ a:=ze (s5 _ _ eD4) na
  have hy6:=((hyc.same s2).same s4).same s46
  have hD0:H D=none:=Same.nn (s1.trans s2) nD
  have ha0:H a=none:=Same.nn (s04.trans s5) na
  have hpl6:=s06 _ _ hpl
  have plD:pl ≠ D:=ze hpl hD0
  have pla:pl ≠ a:=ze hpl ha0
  walk_at "r"
  refine Fh ?_
  walk_at "r"
  have hplen2:(prs.map V.ref).length=(ends (As.st L) es).ns.length:=by rw [List.length_map,hprs.1]
  rw [hplen2]
  refine ⟨pl,_,rfl,SqL.of hpl6,De (K:=K) (a:=pl) (xs:=ps.map V.ref) (fun j σ H'=>∃ (v1 v2 v3 v4 v5:Option V) (kvs:List (Key × V)) (r:Nat→Nat) (ps':List Addr) (es':DL),σ=[some (.int d),some (.ref hp),some (.ref pl),some (.ref y.p),some (.ref r2),some (.ref D),v1,v2,some (.int ((ends (As.sb ((ends (As.st L) es).ns.map (ends (As.st L) es).g)) es').k:Nat)),some (.int ((ends (As.st L) (es.take (es.length - j))).k:Nat)),some (.ref a),v3,v4,v5]∧(H' D=some (.dK kvs)∧kvs.length ≤ 60 + 2 * j∧Rn kvs (ends (As.st L) (es.take (es.length - j))).ns r)∧(H' a=some (.lst (ps'.map V.ref))∧Runs H' ps' es'∧ps'.length=j)∧(Walk d tn (As.sb ((ends (As.st L) es).ns.map (ends (As.st L) es).g)) es'∧es'.length=j∧Sim r (ends (As.st L) (es.take (es.length - j))) (ends (As.sb ((ends (As.st L) es).ns.map (ends (As.st L) es).g)) es')∧∀ i,i ≤ j→∀ n ∈ (ends (As.sb ((ends (As.st L) es).ns.map (ends (As.st L) es).g)) (es'.take i)).ns,BoD d D0 M ((ends (As.sb ((ends (As.st L) es).ns.map (ends (As.st L) es).g)) (es'.take i)).g n))∧∀ b o,H6 b=some o→b ≠ D→b ≠ a→H' b=some o) ⟨w1,w2,none,none,none,kvs0,rk (ends (As.st L) es).ns,[],[],?_,⟨eD6,by omega,?_⟩,⟨e6,⟨rfl,fun i p x h=>by simp at h⟩,rfl⟩,⟨fun i x h=>by simp at h,rfl,?_,fun i hi n hn=>?_⟩,fun b o e _ _=>e⟩ (fun j σ H' _ z=>by obtain ⟨_,_,_,_,_,_,_,_,_,_,_,_,_,z⟩:=z; exact SqL.of (z _ _ hpl6 plD pla)) ?_ ?_⟩
  · rw [Nat.sub_zero,List.take_length]
    show _=[some (.int d),some (.ref hp),some (.ref pl),some (.ref y.p),some (.ref r2),some (.ref D),w1,w2,some (.int ((((ends (As.st L) es).ns.map (ends (As.st L) es).g).length:Nat):Int)),some (.int ((ends (As.st L) es).k:Nat)),some (.ref a),none,none,none]
    rw [List.length_map]
  · rw [Nat.sub_zero,List.take_length]
    exact hR4
  · rw [Nat.sub_zero,List.take_length]
    exact sim0 ndN
  · have hi:i=0:=by omega
    subst hi
    obtain ⟨n0,h0,rfl⟩:=(sim0 ndN).on n hn
    show BoD d D0 M ((As.sb ((ends (As.st L) es).ns.map (ends (As.st L) es).g)).g (rk (ends (As.st L) es).ns n0))
    rw [(sim0 ndN).g n0 h0]
    exact ev n0 (okN.lt n0 h0)
  · rintro j x σ H' hj hi ⟨v1,v2,v3,v4,v5,kvs,r,ps',es',rfl,⟨eD,hkl,hRn⟩,⟨ea,hrun,hpsl⟩,⟨hwk,hesl,sim,hbs⟩,fr⟩
    rw [List.length_map,hr'.1] at hj hi
    rw [List.getElem?_map] at hi
    obtain ⟨p,hp',rfl⟩:=Option.map_eq_some_iff.mp hi
    have hie:es.length - 1 - j < es.length:=by omega
    have hx:=List.getElem?_eq_getElem hie
    generalize es[es.length - 1 - j]=xd at hx
    have st:=hw _ _ hx
    have hen:=xP (s:=As.st L) hx
    rw [DN hj,hen] at hRn sim
    rw [DN hj,hen]
    have oki:=oks (es.length - 1 - j) (by omega)
    have ev1:=wR ev (es.length - 1 - j + 1)
    rw [hen] at ev1
    have ev0:=wR ev (es.length - 1 - j)
    have gk:∀ n,n < (ends (As.st L) (es.take (es.length - 1 - j))).k→(ends (As.st L) es).g n=(ends (As.st L) (es.take (es.length - 1 - j))).g n:=fun n hn=>by
      conv=>lhs; rw [wJ (es:=es) (i:=es.length - 1 - j)]
      exact DA hn
    have kN:(ends (As.st L) (es.take (es.length - 1 - j))).k ≤ (ends (As.st L) es).k:=uI
    have e0:es.length - (j + 1)=es.length - 1 - j:=by omega
    have t0ok:As.Ok 30 (As.sb ((ends (As.st L) es).ns.map (ends (As.st L) es).g)) 0:=AN (by
      rw [List.length_map]
      have:=List.length_pos_iff.mpr okN.ne
      omega) (by rw [List.length_map]; omega)
    have okt:=wa t0ok hwk j (by omega)
    rw [show es'.take j=es' by rw [← hesl,List.take_length]] at okt
    generalize hs:ends (As.st L) (es.take (es.length - 1 - j))=s at *
    generalize ht0:(As.sb ((ends (As.st L) es).ns.map (ends (As.st L) es).g))=t0 at *
    generalize ht:ends t0 es'=t at *
    have kls:=oki.kl
    have so:∀ n ∈ s.ns,BoD d D0 M (s.g n):=fun n hn=>ev0 n (oki.lt n hn)
    have sn:=Dc ev1
    have us:=Dj hR z st so sn sim
    have um:=Dp z.d1 st so sn sim oki.lt okt.lt
    have nk:=vy s xd
    have pl2:=puts_le xd.1
    have s0':Same H H':=fun b o e=>fr _ _ (s06 _ _ e) (ze e hD0) (ze e ha0)
    have s6':∀ b o,H6 b=some o→(∀ kv,o ≠ .dK kv)→b ≠ a→H' b=some o:=fun b o e h n=>fr _ _ e (fun c=>by rw [c,eD6] at e; exact h _ (Option.some.inj e).symm) n
    have he:=(hr'.2 _ p _ hp' hx).same s0'
    have yka:y.k ≠ a:=ze ((s2.trans (s4.trans s5)) _ _ hyc.k) na
    have yta:y.t ≠ a:=ze ((s2.trans (s4.trans s5)) _ _ hyc.t) na
    have ypa:y.p ≠ a:=ze ((s2.trans (s4.trans s5)) _ _ hyc.o) na
    have yla:y.l ≠ a:=ze ((s2.trans (s4.trans s5)) _ _ hyc.l) na
    have ylD:y.l ≠ D:=ze (s2 _ _ hyc.l) nD
    have hy':YdAt cs.Yard H' y d true cl (ends (As.st L) es).ns (ps.map V.ref):=hy6.mv fun b o e h=>by
      rcases h with ⟨xs,rfl⟩ | rfl | rfl | rfl | rfl
      · exact s6' _ _ e (fun _ z=>nomatch z) (yf e e6 (fun z=>nomatch z))
      · rw [hy6.o] at e; exact s6' _ _ hy6.o (fun _ z=>nomatch z) ypa |>.trans e
      · rw [hy6.k] at e; exact s6' _ _ hy6.k (fun _ z=>nomatch z) yka |>.trans e
      · rw [hy6.l] at e; exact (fr _ _ hy6.l ylD yla).trans e
      · rw [hy6.t] at e; exact s6' _ _ hy6.t (fun _ z=>nomatch z) yta |>.trans e
    walk_at "r"
    refine wW he ?_
    walk_at "r"
    rw [show (((s.next xd).k:Nat):Int) - (xd.1.puts:Nat)=(s.k:Int) by omega]
    rw [nk]
    walk_at "r"
    refine t9 ?_
    walk_at "r"
    refine ⟨(s.k:Int),((s.k + xd.1.puts:Nat):Int),rfl,⟨by omega,by omega,by omega,by omega⟩,fun O hO=>yW (lo:=(s.k:Int)) (n:=(((s.k + xd.1.puts:Nat):Int) - (s.k:Int)).toNat) (fun i xs σ' Hc=>∃ v:Option V,σ'=[v,some (.ref D)]∧xs=(((List.range i).map fun q=>r (s.k + q)).map fun n:Nat=>(n:Int)).map V.int∧Hc O=some (.lst xs)∧SameX O H' Hc) ⟨none,rfl,rfl,zk,fun b o e n=>by rw [zt n]; exact e⟩ ?_ ?_⟩
    · rintro i xs σ' H9 hi ⟨v,rfl,rfl,eO,sx⟩
      have hi2:i < xd.1.puts:=by omega
      have hD9:=sx _ _ eD (ze eD hO)
      walk_at "r"
      rw [show (s.k:Int) + (i:Int)=((s.k + i:Nat):Int) by omega]
      refine ⟨D,_,rfl,DGet.k (k:=.inl ((s.k + i:Nat):Int)) hD9 |> (fun z=>by rw [hRn (s.k + i) (mem_next.mpr (.inr ⟨by omega,by omega⟩))] at z; exact z),?_⟩
      walk_at "r"
      refine zB eO (by simp only [List.length_map,List.length_range]; omega) fun G5 x5 e5=>?_
      refine yv hi ⟨_,rfl,rfl,?_,sx.trans x5⟩
      rw [List.range_succ,List.map_append,List.map_append,List.map_append]
      exact e5
    rintro xs σ' G2 ⟨v,rfl,rfl,eO,sx⟩
    have sO:Same H' G2:=fun b o e=>sx b o e (ze e hO)
    rw [show (((s.k + xd.1.puts:Nat):Int) - (s.k:Int)).toNat=xd.1.puts by omega] at eO
    have eO':G2 O=some (.lst (if xd.1.puts=2 then [.int ((r s.k:Nat):Int),.int ((r (s.k + 1):Nat):Int)] else [.int ((r s.k:Nat):Int)])):=by
      rcases pl2 with h | h
      · rw [h,if_neg (by decide)]; rw [h] at eO; exact eO
      · rw [h,if_pos rfl]; rw [h] at eO; exact eO
    obtain ⟨c,hc,hcb⟩:=hrel xd.2.1 (Nat.lt_of_lt_of_le (oki.lt _ st.nms.hn) kN)
    rw [gk _ (oki.lt _ st.nms.hn)] at hcb
    walk_at "r"
    refine BC (hy'.same sO) (he.same sO) eO' st.nms.en hc fun pr G3 s3' npr epr=>?_
    rw [hcb] at epr
    have sG3:=sO.trans s3'
    have ea3:=sG3 _ _ ea
    walk_at "r"
    refine zB ea3 (by rw [List.length_map]; omega) fun G4 x4 e4=>?_
    have eD4':=x4 _ _ (sG3 _ _ eD) Da
    have he4:DdAt G4 p xd.1:=(he.same sG3).sameX x4 ea3
    walk_at "r"
    refine wn ?_
    walk_at "r"
    refine xQ he4 fun nl G5 s5' nnl enl=>?_
    have eD5:=s5' _ _ eD4'
    have nlD:nl ≠ D:=Ne.symm (ze eD4' nnl)
    have enn:((t.k:Nat):Int)=((t.k + 0:Nat):Int):=rfl
    have nml:=names_len st.nms
    have hdl:=wC
    refine ⟨nl,rfl,⟨_,SqL.of enl⟩,yM (K:=K) (a:=nl) (xs:=xd.1.names.map V.int) (fun i σ H'=>∃ v,σ=[some (.int d),some (.ref hp),some (.ref pl),some (.ref y.p),some (.ref r2),some (.ref D),v1,v2,some (.int ((t.k + i:Nat):Int)),some (.int ((s.k + xd.1.puts:Nat):Int)),some (.ref a),some (.ref p),some (.int (s.k:Nat)),v]∧H' D=some (.dK (deal kvs (xd.1.names.take i) t.k))∧∀ b o,G5 b=some o→b ≠ D→H' b=some o) ⟨_,rfl,eD5,fun b o e _=>e⟩ (fun i σ H' _ ⟨_,_,_,z⟩=>SqL.of (z _ _ enl nlD)) ?_ ?_⟩
    · rintro i x σ G6 hi6 ⟨v,rfl,eD6',fr6⟩
      have hi7:=(List.getElem?_eq_some_iff.mp hi6).1
      rw [List.length_map] at hi7
      rw [List.getElem?_map] at hi6
      obtain ⟨m,hm,rfl⟩:=Option.map_eq_some_iff.mp hi6
      have hn2:xd.1.names.length ≤ 2:=xd.1.names_len
      have hd1:=wC (xd.1.names.take i) kvs t.k
      rw [List.length_take] at hd1
      walk_at "r"
      refine ⟨D,_,rfl,DPut.k (k:=.inl m) eD6' (Nat.lt_of_lt_of_le (show _ < 1000 by omega) (by decide +kernel)),?_⟩
      walk_at "r"
      refine ⟨_,by rw [show ((t.k + i:Nat):Int) + 1=((t.k + (i + 1):Nat):Int) by omega],?_,fun b o e n=>by rw [zt n]; exact fr6 b o e n⟩
      rw [zk,List.take_succ,hm]
      show _=some (HO.dK (deal kvs (xd.1.names.take i ++ [m]) t.k))
      rw [uN,List.length_take,Nat.min_eq_left (by omega)]
    rintro σ G7 ⟨v,rfl,eD7,fr7⟩
    rw [List.length_map,List.take_length] at eD7
    have hd2:=wC xd.1.names kvs t.k
    have tk7:TupK H' G7:=fun b xs e=>fr7 _ _ (s5' _ _ (x4.tup (sG3 _ _ e) ea3)) (yf e eD (fun z=>nomatch z))
    have tk3:TupK G3 G7:=fun b xs e=>fr7 _ _ (s5' _ _ (x4.tup e ea3)) (yf e (sG3 _ _ eD) (fun z=>nomatch z))
    walk_at "r"
    have eap:ends t0 (es' ++ [undo s xd r])=t.next (undo s xd r):=by rw [Ar,ht]
    have kap:t.k + xd.1.names.length=(t.next (undo s xd r)).k:=by
      rw [vy,nml]
      congr 1
      exact (t7 _ _ _ _).symm
    rw [e0,hs]
    refine ⟨v1,v2,some (.ref p),some (.int (s.k:Nat)),v,deal kvs xd.1.names t.k,ren r xd t.k,ps' ++ [pr],es' ++ [undo s xd r],?_,⟨eD7,?_,Et hRn st.nms⟩,⟨?_,uC (hrun.tk tk7) (epr.tk tk3),?_⟩,⟨?_,?_,?_,?_⟩,fun b o e n1 n2=>?_⟩
    · rw [eap,← kap]
      rw [List.length_map]
    · have:xd.1.names.length ≤ 2:=xd.1.names_len
      omega
    · rw [List.map_append]
      exact fr7 _ _ (s5' _ _ e4) (Ne.symm Da)
    · rw [List.length_append,hpsl]; rfl
    · exact uM hwk (by rw [ht]; exact us)
    · rw [List.length_append,hesl]; rfl
    · rw [eap]; exact um
    · intro i hi n hn
      by_cases ci:i ≤ j
      · rw [List.take_append_of_le_length (by omega)] at hn ⊢
        exact hbs i ci n hn
      · have:i=j + 1:=by omega
        subst this
        rw [show (es' ++ [undo s xd r]).take (j + 1)=es' ++ [undo s xd r] by rw [List.take_of_length_le]; rw [List.length_append,hesl]; exact Nat.le_refl _,eap] at hn ⊢
        obtain ⟨n0,h0,rfl⟩:=um.on n hn
        rw [um.g n0 h0]
        exact so n0 h0
    · exact fr7 _ _ (s5' _ _ (x4 _ _ (sG3 _ _ (fr _ _ e n1 n2)) n2)) n1
  rintro σ H7 ⟨v1,v2,v3,v4,v5,kvs,r,ps',es',rfl,⟨eD,hkl,hRn⟩,⟨ea,hrun,hpsl⟩,⟨hwk,hesl,sim,hbs⟩,fr⟩
  rw [List.length_map,hr'.1] at hesl
  rw [List.length_map,hr'.1,Nat.sub_self] at hRn sim
  have s07:Same H H7:=fun b o e=>fr _ _ (s06 _ _ e) (ze e hD0) (ze e ha0)
  have hh7:=s07 _ _ hh
  have t0ok:As.Ok 30 (As.sb ((ends (As.st L) es).ns.map (ends (As.st L) es).g)) 0:=AN (by
    rw [List.length_map]
    have:=List.length_pos_iff.mpr okN.ne
    omega) (by rw [List.length_map]; omega)
  have okt:=wa t0ok hwk es'.length (Nat.le_refl _)
  rw [List.take_length] at okt
  have tnl:=okt.nl
  walk_at "r"
  refine vH ?_
  walk_at "r"
  refine ⟨((L.length:Nat):Int),by rw [List.length_map],by omega,by omega,fun O hO=>yW (lo:=0) (n:=((L.length:Nat):Int).toNat) (fun i xs σ' Hc=>∃ v:Option V,σ'=[v,some (.ref D)]∧xs=(((List.range i).map fun q=>r (0 + q)).map fun n:Nat=>(n:Int)).map V.int∧Hc O=some (.lst xs)∧SameX O H7 Hc) ⟨none,rfl,rfl,zk,fun b o e n=>by rw [zt n]; exact e⟩ ?_ ?_⟩
  · rintro i xs σ' H9 hi ⟨v,rfl,rfl,eO,sx⟩
    have hi2:i < L.length:=by omega
    have hD9:=sx _ _ eD (ze eD hO)
    walk_at "r"
    rw [show (0:Int) + (i:Int)=((0 + i:Nat):Int) by omega]
    refine ⟨D,_,rfl,DGet.k (k:=.inl ((0 + i:Nat):Int)) hD9 |> (fun z=>by rw [hRn (0 + i) (List.mem_range.mpr (by omega))] at z; exact z),?_⟩
    walk_at "r"
    refine zB eO (by simp only [List.length_map,List.length_range]; omega) fun G5 x5 e5=>?_
    refine yv hi ⟨_,rfl,rfl,?_,sx.trans x5⟩
    rw [List.range_succ,List.map_append,List.map_append,List.map_append]
    exact e5
  rintro xs σ' G2 ⟨v,rfl,rfl,eO,sx⟩
  have sO:Same H7 G2:=fun b o e=>sx b o e (ze e hO)
  rw [show ((L.length:Nat):Int).toNat=L.length by omega,show (fun q=>r (0 + q))=r from funext fun q=>by rw [Nat.zero_add]] at eO
  have sim:Sim r (As.sb (L.map Cell.b)) (ends (As.sb ((ends (As.st L) es).ns.map (ends (As.st L) es).g)) es'):=by rw [← AK]; exact sim
  have hpm:((List.range L.length).map r).Perm (ends (As.sb ((ends (As.st L) es).ns.map (ends (As.st L) es).g)) es').ns:=by
    have h:=AA sim (List.nodup_range (n:=(L.map Cell.b).length)) (wE okt.up)
    have e:(As.sb (L.map Cell.b)).ns=List.range L.length:=by
      show List.range _=_
      rw [List.length_map]
    rwa [e] at h
  walk_at "r"
  refine tO eO hpm okt.up (by omega) fun qa G3 s3' nqa eqa=>?_
  walk_at "r"
  refine zC (by simp) fun r9 G4 nr9 s4' e4=>?_
  have s79:=(sO.trans s3').trans s4'
  have tof:=Cn hwk (fun i hi n hn=>hbs i (by have:=hrun.1; omega) n hn) sim (wE okt.up)
  rw [List.length_map] at tof
  have naq:a ≠ qa:=ze ((sO) _ _ ea) nqa
  exact q r9 a qa ps' es' _ G4 (s07.trans s79) e4 ha0 (Same.nn s07 (Same.nn sO nqa)) naq (s79 _ _ ea) (s4' _ _ eqa) (hrun.same s79) hesl tof
theorem ok__law_right {f:Addr} {fd:FuncData} (F:Fun K "_law_right" "_law_right" s__law_right f fd) (B:Bl mg)  (o__law_walked:Own P w K mg base 6 "_law_walked" ["_law_d","_law_heap_here","_law_plan_here","_law_turning"] [] sp__law_walked) (o_walked:Own P w K mg base 8 "walked" ["d","heap","plan","turning"] [] (sp_walked cs)) (o__law_whole:Own P w K mg base 1 "_law_whole" ["_law_found"] [] sp__law_whole):FnOk P w K mg base CX0 9 f fd ["_law_d","_law_heap_here","_law_end","_law_found","_law_turning"] (sp__law_right cs):=by
  refine F.ok (k:=8) sc__law_right (fun vs H Q E h=>?_) (fun cdv A outer s H vs Q E hr h=>?_)
  · obtain ⟨d,hp,ep,fo,a,b,tn,L,E',ps,es,qs,D,M,K',rfl,hh,hA,l6,hE,hAE,e1,e30,hf,ha,hb,hr',el,hR,z,tu,q⟩:=h
    rfl
  obtain ⟨d,hp,ep,fo,a,b,tn,L,E',ps,es,qs,D,M,K',rfl,hh,hA,l6,hE,hAE,e1,e30,hf,ha,hb,hr',el,hR,z,tu,q⟩:=h
  refine ⟨_,(zc (zE (PW.pt (yZ (z8 (zT (zu zN rfl B.isinstance zH (za (pv 3) (za (yw (v:=.ty "tuple") rfl B.tuple xV rfl) zd))))) (yZ (zj uq (zu zy rfl B.len PySem.boot_len (za (pv 3) zd)) zb (zp _)) (y8 (z8 (zT (zu zN rfl B.isinstance zH (za (zh zg (pv 3) zb (fun _ _=>rfl)) (za (yw (v:=.ty "list") rfl B.list we rfl) zd))))))))) (zf (zm yT)) zn) (zc (wp (pv 3) (xv (n:=2) rfl (zM (zw (i:=5) sc__law_right.nd rfl (Or.inl rfl)) (zM (zw (i:=6) sc__law_right.nd rfl (Or.inl rfl)) yN)))) (zc (zE (PW.pt (yZ (z8 (zT (zu zN rfl B.isinstance zH (za (pv 6) (za (yw (v:=.ty "list") rfl B.list we rfl) zd))))) (y8 (zj (Cp hr.units) (zu vt rfl B.sorted xj (za (pv 6) zd)) (Cj rfl rfl B.list we rfl B.range (zu zy rfl B.len PySem.boot_len (za (pv 1) zd))) (zp _))))) (zf (zm yT)) zn) (zc (zE (zj (DF hr.units) (yi ["_law_place"] [] rfl (zW (pv 6)) (fun _ _ _ _ _=>(zw (i:=0) (show List.Nodup (α:=Str) ["_law_place"] by decide +kernel) rfl (Or.inl rfl))) (fun _ _ _ _ _=>(vY (z8 (zT (zi o__law_whole hr rfl (za (pv 0) zd)))))) (fun _ _ _ _ _=>(pv 0))) (zU zd) (zp _)) (zf (zm yT)) zn) (zc (zv (i:=7) sc__law_right.nd rfl (Or.inr rfl) (zi o__law_walked hr rfl (za (pv 0) (za (pv 2) (za (pv 5) (za (pv 4) zd)))))) (zc (zE (PW.pt (yZ (zj EY (pv 7) Dx (zp _)) (yZ (zj uq (zu zy rfl B.len PySem.boot_len (za (pv 7) zd)) (zu zy rfl B.len PySem.boot_len (za (pv 1) zd)) (zp _)) (y8 (zj (Cp hr.units) (zi o_walked hr rfl (za (pv 0) (za (pv 2) (za (pv 5) (za (pv 4) zd))))) (pv 7) (zp _)))))) (zf (zm yT)) zn) (zf (zm (zO (Fr hr.units) (yi ["_law_place"] [7] rfl (zW (pv 6)) (fun _ _ _ _ _=>(zw (i:=0) (show List.Nodup (α:=Str) ["_law_place","_law_ended"] by decide +kernel) rfl (Or.inl rfl))) (fun _ _ _ _ _=>zR) (fun _ _ _ _ _=>(zh (r:=rIxL K) zo (pv 1) (pv 0) (fun _ _=>rfl)))) (pv 1) (zp _)))))))))),?_⟩
  rw [show zJ ["_law_d","_law_heap_here","_law_end","_law_found","_law_turning","_law_plan_here","_law_places","_law_ended"] [.int d,.ref hp,.ref ep,.ref fo,.bl tn]=[some (.int d),some (.ref hp),some (.ref ep),some (.ref fo),some (.bl tn),none,none,none] from rfl]
  have dlo:=hR.lo
  have hd64:Bd 64 d:=zS (B:=99) (by omega) hR.hi (by decide +kernel)
  have tw:=tu.w
  have tb:=tu.b
  have tl:=tu.l
  have tg:=tu.g
  have tp:=tu.p
  rw [← AK] at tw tb tl tg
  rw [List.length_map] at tl tp
  have qlen:qs.length=L.length:=by have:=tp.length_eq; rwa [List.length_range] at this
  have plen:ps.length ≤ 24:=by rw [hr'.1]; exact el
  walk_at "r"
  refine xr (by rfl) ?_
  walk_at "r"
  refine FH (.lst ha) rfl ?_
  walk_at "r"
  refine FH (.lst hb) rfl ?_
  walk_at "r"
  refine Bs hb (uf tp) (Cc List.pairwise_lt_range) (by rw [List.length_map]; omega) fun so H1 n1 s1 eso=>?_
  have hh1:=s1 _ _ hh
  walk_at "r"
  refine Ds ?_
  walk_at "r"
  refine ⟨L.length,by rw [List.length_map],by omega,fun lr nlr=>?_⟩
  have s2:Same H1 (upd H1 lr (.lst (((List.range L.length).map fun k:Nat=>(k:Int)).map V.int))):=z4 nlr _
  have elr:(upd H1 lr (.lst (((List.range L.length).map fun k:Nat=>(k:Int)).map V.int))) lr=some (.lst (((List.range L.length).map fun k:Nat=>(k:Int)).map V.int)):=zk
  generalize upd H1 lr (.lst (((List.range L.length).map fun k:Nat=>(k:Int)).map V.int))=H2 at s2 elr ⊢
  refine Gk (s2 _ _ eso) elr ?_
  have s02:=s1.trans s2
  have hb2:=s02 _ _ hb
  walk_at "r"
  refine yt ?_
  walk_at "r"
  refine ⟨b,rfl,⟨_,SqL.of hb2⟩,fun O hO=>z3 (K:=K) (a:=b) (ys:=(qs.map fun n:Nat=>(n:Int)).map V.int) (fun i xs σ' Hc=>∃ v:Option V,σ'=[v]∧xs=[]∧Hc O=some (.lst xs)∧SameX O H2 Hc) ⟨none,rfl,rfl,zk,fun b o e n=>by rw [zt n]; exact e⟩ (fun i xs σ' Hc _ z=>by obtain ⟨v,_,_,_,z⟩:=z; exact SqL.of (z _ _ hb2 (ze hb2 hO))) ?_ ?_⟩
  · rintro i x xs σ' Hc hi ⟨v,rfl,rfl,eO,sx⟩
    have hi':=(List.getElem?_eq_some_iff.mp hi).1
    rw [List.getElem?_map] at hi
    obtain ⟨zq,hz,rfl⟩:=Option.map_eq_some_iff.mp hi
    walk_at "r"
    exact yv hi' ⟨_,rfl,rfl,eO,sx⟩
  rintro xs σ' H3 ⟨v,rfl,rfl,eO,sx⟩
  have s3:Same H2 H3:=fun b o e=>sx b o e (ze e hO)
  walk_at "r"
  refine zA (by simp) fun o4 H4 n4 s4 e4=>?_
  refine ⟨O,o4,[],rfl,rfl,SqL.of (s4 _ _ eO),SqL.of e4,?_⟩
  have s04:=(s02.trans s3).trans s4
  rw [show (!([]:List V).isEmpty)=false from rfl]
  walk_at "r"
  refine vP (s04 _ _ hE) (fun c hc=>(hAE c hc).same s04) e1 e30 (s04 _ _ ha) el hR (hr'.same s04) tw z tb fun r5 C H5 s5 e5 hC bC=>?_
  have s05:=s04.trans s5
  have clen:C.length=L.length:=by
    have:=congrArg List.length bC
    rw [List.length_map,List.length_map] at this
    omega
  have hh5:=s05 _ _ hh
  walk_at "r"
  have hcl:((C.map Cell.v).length:Int)=((L.map Cell.v).length:Int):=by rw [List.length_map,List.length_map,clen]
  refine if_d (fun c=>absurd c (by simp)) (fun _=>?_)
  walk_at "r"
  refine xr hcl ?_
  walk_at "r"
  refine CM (s05 _ _ hE) (fun c hc=>(hAE c hc).same s05) e30 (s05 _ _ ha) plen hd64 (hr'.same s05) tw fun r6 C6 H6 s6 n6 e6 hC6 bC6=>?_
  have e56:=s6 _ _ e5
  have hC':∀ c ∈ C,c.At H6:=fun c hc=>(hC c hc).same s6
  walk_at "r"
  refine FU e6 e56 hC6 hC' (bC6.trans bC.symm) ?_
  have s06:=s05.trans s6
  have hb6:=s06 _ _ hb
  have nsl:(ends (As.st E') es).ns.length=C.length:=by
    have:=congrArg List.length bC
    rw [List.length_map,List.length_map] at this
    exact this.symm
  have atq:∀ k q:Nat,qs[k]?=some q→∃ c,C[q]?=some c∧(L.map Cell.b)[k]?=some c.b:=fun k q hq=>by
    obtain ⟨n,h1,h2⟩:=tg k q hq
    have hq':=(List.getElem?_eq_some_iff.mp h1).1
    have hq2:q < C.length:=by omega
    refine ⟨C[q],List.getElem?_eq_getElem hq2,?_⟩
    have h3:=congrArg (·[q]?) bC
    simp only [List.getElem?_map,List.getElem?_eq_getElem hq2,h1,Option.map_some] at h3
    rw [h2]
    exact h3.symm
  walk_at "r"
  refine yt ?_
  walk_at "r"
  refine ⟨b,rfl,⟨_,SqL.of hb6⟩,fun O2 hO2=>z3 (K:=K) (a:=b) (ys:=(qs.map fun n:Nat=>(n:Int)).map V.int) (fun i xs σ' Hc=>∃ (v:Option V) (F:List Cell),σ'=[v,some (.ref r5)]∧xs=F.map Cell.v∧F.length=i∧(∀ c ∈ F,c ∈ C)∧(∀ k q:Nat,k < i→qs[k]?=some q→C[q]?=F[k]?)∧Hc O2=some (.lst xs)∧SameX O2 H6 Hc) ⟨none,[],rfl,rfl,rfl,fun c hc=>absurd hc (by simp),fun k q hk=>absurd hk (by omega),zk,fun b o e n=>by rw [zt n]; exact e⟩ (fun i xs σ' Hc _ z=>by obtain ⟨v,_,_,_,_,_,_,_,z⟩:=z; exact SqL.of (z _ _ hb6 (ze hb6 hO2))) ?_ ?_⟩
  · rintro i x xs σ' Hc hi ⟨v,F,rfl,rfl,hFl,hFC,hFq,eO,sx⟩
    have hi':=(List.getElem?_eq_some_iff.mp hi).1
    rw [List.getElem?_map,List.getElem?_map] at hi
    obtain ⟨zq,hz,rfl⟩:=Option.map_eq_some_iff.mp hi
    obtain ⟨qn,hq,rfl⟩:=Option.map_eq_some_iff.mp hz
    obtain ⟨c,hc,_⟩:=atq i qn hq
    have e5c:=sx _ _ e56 (ze e56 hO2)
    walk_at "r"
    refine zD e5c (v:=c.v) (zI (by rw [List.getElem?_map,hc]; rfl)) ?_
    walk_at "r"
    refine zB eO (by rw [List.length_map]; simp only [List.length_map] at hi'; omega) fun H7 x7 e7=>?_
    refine yv hi' ⟨_,F ++ [c],rfl,rfl,by rw [List.length_append,hFl]; rfl,fun c' hc'=>?_,fun k q' hk hkq=>?_,by rw [List.map_append]; exact e7,sx.trans x7⟩
    · rcases List.mem_append.mp hc' with h | h
      · exact hFC c' h
      · rw [List.mem_singleton.mp h]; exact List.mem_of_getElem? hc
    · by_cases ck:k < i
      · rw [List.getElem?_append_left (by omega)]
        exact hFq k q' ck hkq
      · have:k=i:=by omega
        subst this
        rw [hq] at hkq
        have:qn=q':=Option.some.inj hkq
        subst this
        rw [hc,List.getElem?_append_right (by omega),hFl,Nat.sub_self]
        rfl
  rintro xs σ' H7 ⟨v,F,rfl,rfl,hFl,hFC,hFq,eO7,sx7⟩
  have s7:Same H6 H7:=fun b o e=>sx7 b o e (ze e hO2)
  rw [List.length_map,List.length_map] at hFl hFq
  have s07:=s06.trans s7
  walk_at "r"
  refine DC eO7 (s07 _ _ hh) (fun c hc=>(hC' c (hFC c hc)).same s7) (fun c hc=>(hA c hc).same s07) (F7 (C:=C) hFl qlen.symm fun k q' hkq=>?_) (q H7 s07)
  obtain ⟨c,hc,hb'⟩:=atq k q' hkq
  have hk:=(List.getElem?_eq_some_iff.mp hkq).1
  have hF:=hFq k q' hk hkq
  rw [hc] at hF
  have hkL:k < L.length:=by omega
  rw [List.getElem?_map,List.getElem?_eq_getElem hkL] at hb'
  exact ⟨c,L[k],hF.symm,List.getElem?_eq_getElem hkL,(Option.some.inj hb').symm⟩
theorem Fm:∀ L:List Cell,(L.flatMap (fun c=>[c.b.w,c.b.h])).length=2 * L.length
  | []=>rfl
  | c :: L=>by
    have:=Fm L
    simp only [List.flatMap_cons,List.length_append,List.length_cons,List.length_nil] at this ⊢
    omega
theorem ok_law {f:Addr} {fd:FuncData} (F:Fun K "law" "law" s_law f fd) (B:Bl mg)  (o__law_root:Own P w K mg base 2 "_law_root" ["_law_cell_here","_law_k"] [] sp__law_root) (o__law_heap:Own P w K mg base 4 "_law_heap" ["_law_script","_law_d","_law_first"] [] (sp__law_heap K)) (o__law_plan:Own P w K mg base 7 "_law_plan" ["_law_d","_law_script","_law_heap_here","_law_pool","_law_turning"] [] (sp__law_plan K)) (o_back:Own P w K mg base 8 "back" ["d","heap","plan"] [] (sp_back cs)) (o__law_right:Own P w K mg base 9 "_law_right" ["_law_d","_law_heap_here","_law_end","_law_found","_law_turning"] [] (sp__law_right cs)) (o__law_cell:Own P w K mg base 1 "_law_cell" ["_law_script","_law_k"] [] (sp__law_cell K)) (o__law_great:Own P w K mg base 1 "_law_great" ["_law_cell_here","_law_k"] [] sp__law_great):FnOk P w K mg base CX0 10 f fd ["_law_script"] (CT K):=by
  refine F.ok (k:=9) sc_law (fun vs H Q E h=>?_) (fun cdv A outer s H vs Q E hr h=>?_)
  · obtain ⟨a,ns,rfl,hS,h63,hbd,q⟩:=h
    rfl
  obtain ⟨a,ns,rfl,hS,h63,hbd,q⟩:=h
  refine ⟨_,(zc (zv (i:=1) sc_law.nd rfl (Or.inl rfl) (zi o__law_root hr rfl (za (zi o__law_cell hr rfl (za (pv 0) (za zb zd))) (za zb zd)))) (zc (wp (zi o__law_heap hr rfl (za (pv 0) (za (pv 1) (za zb zd)))) (xv (n:=2) rfl (zM (zw (i:=2) sc_law.nd rfl (Or.inl rfl)) (zM (zw (i:=3) sc_law.nd rfl (Or.inl rfl)) yN)))) (zc (zv (i:=4) sc_law.nd rfl (Or.inl rfl) (zO zY (zr zQ (zi o__law_great hr rfl (za (zi o__law_cell hr rfl (za (pv 0) (za zb zd))) (za zb zd))) zb) zb (zp _))) (zc (wp (zi o__law_plan hr rfl (za (pv 1) (za (pv 0) (za (pv 3) (za (pv 2) (za (pv 4) zd)))))) (xv (n:=2) rfl (zM (zw (i:=5) sc_law.nd rfl (Or.inl rfl)) (zM (zw (i:=6) sc_law.nd rfl (Or.inl rfl)) yN)))) (zc (zv (i:=7) sc_law.nd rfl (Or.inl rfl) (zO yl zG (yi ["_law_deed_here"] [] rfl (zW (pv 5)) (fun _ _ _ _ _=>(zw (i:=0) (show List.Nodup (α:=Str) ["_law_deed_here"] by decide +kernel) rfl (Or.inl rfl))) (fun _ _ _ _ _=>zR) (fun _ _ _ _ _=>(zh (r:=rIxT K) zg (pv 0) zb (fun _ _=>rfl)))) (by with_unfolding_all rfl))) (zc (zv (i:=8) sc_law.nd rfl (Or.inl rfl) (zU (za (yb wO rfl B.list we (za (pv 3) zd)) (za (yb wO rfl B.list we (za (pv 5) zd)) zd)))) (zc (zv (i:=9) sc_law.nd rfl (Or.inl rfl) (zi o_back hr rfl (za (pv 1) (za (zh zo (pv 8) zb (fun _ _=>rfl)) (za (zh zo (pv 8) zb (fun _ _=>rfl)) zd))))) (zc (zE (PW.pt (yZ (zj (Cp hr.units) (pv 8) (zU (za (pv 3) (za (pv 5) zd))) (zp _)) (y8 (z8 (zT (zi o__law_right hr rfl (za (pv 1) (za (pv 3) (za (pv 6) (za (pv 9) (za (pv 7) zd))))))))))) (zf (zm yT)) zn) (zc (yh (Cb PySem.F.plainAttrs_list PySem.F.slot_list_clear PySem.F.type_list_clear Ay (zh zg (pv 9) zb (fun _ _=>rfl)))) (zc (yh (Cb PySem.F.plainAttrs_list PySem.F.slot_list_clear PySem.F.type_list_clear Ay (zh zg (pv 9) zb (fun _ _=>rfl)))) (zc (zE (z8 (zT (zi o__law_right hr rfl (za (pv 1) (za (pv 3) (za (pv 6) (za (zi o_back hr rfl (za (pv 1) (za (pv 3) (za (pv 5) zd)))) (za (pv 7) zd)))))))) (zf (zm yT)) zn) (zf (zm (zi o__law_right hr rfl (za (pv 1) (za (pv 3) (za (pv 3) (za (zi o_back hr rfl (za (pv 1) (za (pv 3) (za (zU zd) zd)))) (za yT zd))))))))))))))))))),?_⟩
  rw [show zJ ["_law_script","_law_d","_law_pool","_law_heap_here","_law_turning","_law_plan_here","_law_end","_law_has_turns","_law_handed","_law_found"] [.ref a]=[some (.ref a),none,none,none,none,none,none,none,none,none] from rfl]
  walk_at "r"
  refine yG hS (by decide) hbd fun c0 hc0=>?_
  walk_at "r"
  refine tP hc0 (by decide +kernel) fun d H1 hR s1=>?_
  have hS1:=s1.seq hS
  walk_at "r"
  refine tG hS1 hbd hR fun r2 qa l H2 P L s2 e2 hP hl hA hPd hLd l1 l6=>?_
  have hS2:=s2.seq hS1
  have dlo:=hR.lo
  have hd64:Bd 64 d:=zS (B:=99) (by omega) hR.hi (by decide +kernel)
  obtain ⟨sides,hsides⟩:∃ l:List Sd,P.map (·.2) ++ L.flatMap (fun c=>[c.b.w,c.b.h])=l:=⟨_,rfl⟩
  have hsd:∀ s ∈ sides,Dw d s:=fun s hs=>by
    rw [← hsides] at hs
    rcases List.mem_append.mp hs with hs | hs
    · obtain ⟨x,hx,rfl⟩:=List.mem_map.mp hs
      exact hPd x hx
    · obtain ⟨c,hc,hs⟩:=List.mem_flatMap.mp hs
      rcases List.mem_cons.mp hs with rfl | hs
      · exact (hLd c hc).1
      · rw [List.mem_singleton.mp hs]; exact (hLd c hc).2
  have hfl:(L.flatMap (fun c=>[c.b.w,c.b.h])).length=2 * L.length:=Fm L
  have hsl:sides.length ≤ 15:=by rw [← hsides,List.length_append,List.length_map,hfl,hP.n]; omega
  have inP:∀ x ∈ P,x.2 ∈ sides:=fun x hx=>by rw [← hsides]; exact List.mem_append_left _ (List.mem_map_of_mem hx)
  have inW:∀ c ∈ L,c.b.w ∈ sides:=fun c hc=>by rw [← hsides]; exact List.mem_append_right _ (List.mem_flatMap.mpr ⟨c,hc,by simp⟩)
  have inH:∀ c ∈ L,c.b.h ∈ sides:=fun c hc=>by rw [← hsides]; exact List.mem_append_right _ (List.mem_flatMap.mpr ⟨c,hc,by simp⟩)
  have so0:∀ s ∈ sides,So d (pz sides) 341 s:=fun s hs=>(FW hsd s hs).mono (by omega)
  walk_at "r"
  refine yG hS2 (by decide) hbd fun c1 hc1=>?_
  walk_at "r"
  refine yI hc1 (by decide +kernel) fun g g0 g1=>?_
  walk_at "r"
  generalize htn:decide (g % 2=1)=tn
  refine tf (D0:=pz sides) hS2 hbd hl hA l1 l6 hP ⟨D5 hsd,(Em hsd).mono (by omega)⟩ (fun c hc=>⟨so0 _ (inW c hc),so0 _ (inH c hc)⟩) (fun x hx=>so0 _ (inP x hx)) hR fun r3 pl el ps C es D H3 s3 e3 epl eel hAC bC hrun hwalk0 el24 szz evv=>?_
  have hwalk:=EK hwalk0
  generalize hht:(es.any fun x=>x.1.isT)=ht at hwalk
  have hl3:=s3 _ _ hl
  have hA3:∀ c ∈ L,c.At H3:=fun c hc=>(hA c hc).same s3
  have plen:ps.length ≤ 24:=by rw [hrun.1]; exact el24
  have ok0:As.Ok 6 (As.st L) 0:=by rw [AK]; exact AN (by rw [List.length_map]; exact l1) (by rw [List.length_map]; exact l6)
  have okN:=wa ok0 hwalk es.length (Nat.le_refl _)
  rw [List.take_length] at okN
  have nlN:=okN.nl
  have neN:=List.length_pos_iff.mpr okN.ne
  have clen:C.length=(ends (As.st L) es).ns.length:=by
    have:=congrArg List.length bC
    rwa [List.length_map,List.length_map] at this
  walk_at "r"
  refine yt ?_
  walk_at "r"
  refine ⟨pl,rfl,⟨_,SqL.of epl⟩,fun O hO=>z3 (K:=K) (a:=pl) (ys:=ps.map V.ref) (fun i xs σ' Hc=>∃ v:Option V,σ'=[v]∧xs=(es.take i).map (fun x=>V.str x.1.wd)∧Hc O=some (.lst xs)∧SameX O H3 Hc) ⟨none,rfl,rfl,zk,fun b o e n=>by rw [zt n]; exact e⟩ (fun i xs σ' Hc _ z=>by obtain ⟨v,_,_,_,z⟩:=z; exact SqL.of (z _ _ epl (ze epl hO))) ?_ ?_⟩
  · rintro i x xs σ' Hc hi ⟨v,rfl,rfl,eO,sx⟩
    have hi':=(List.getElem?_eq_some_iff.mp hi).1
    rw [List.getElem?_map] at hi
    obtain ⟨p,hp',rfl⟩:=Option.map_eq_some_iff.mp hi
    have hie:i < es.length:=by rw [← hrun.1]; exact (List.getElem?_eq_some_iff.mp hp').1
    have hx:=List.getElem?_eq_getElem hie
    obtain ⟨rs,hpt⟩:=((hrun.2 i p _ hp' hx).same (fun b o e=>sx b o e (ze e hO))).tup
    walk_at "r"
    refine xg hpt (zI (j:=0) rfl) ?_
    walk_at "r"
    refine zB eO (by simp only [List.length_map,List.length_take]; omega) fun H5 x5 e5=>?_
    refine yv hi' ⟨_,rfl,rfl,?_,sx.trans x5⟩
    rw [List.take_succ,hx,List.map_append]
    exact e5
  rintro xs σ' H4 ⟨v,rfl,rfl,eO,sx⟩
  have s4:Same H3 H4:=fun b o e=>sx b o e (ze e hO)
  rw [List.length_map,hrun.1,List.take_length] at eO
  walk_at "r"
  refine GL eO rfl (by rw [List.all_map]; exact List.all_eq_true.mpr fun x _=>rfl) ?_
  rw [ub,hht]
  walk_at "r"
  refine tW (s4 _ _ hl3) fun h0 H6 n6 s6 e6=>?_
  walk_at "r"
  refine tW (s6 _ _ (s4 _ _ epl)) fun h1 H7 n7 s7 e7=>?_
  walk_at "r"
  refine zA (by simp) fun hd H8 n8 s8 e8=>?_
  have z38:=((s4.trans s6).trans s7).trans s8
  have e6:=s8 _ _ (s7 _ _ e6)
  have e7:=s8 _ _ e7
  have hA8:∀ c ∈ L,c.At H8:=fun c hc=>(hA3 c hc).same z38
  have hrun8:=hrun.same z38
  have epl8:=z38 _ _ epl
  have eel8:=z38 _ _ eel
  have hAC8:∀ c ∈ C,c.At H8:=fun c hc=>(hAC c hc).same z38
  have hl8:=z38 _ _ hl3
  have tuC:∀ {es':DL} {qs:List Nat},Turned d ht D 1013 (L.map Cell.b) ((ends (As.st L) es).ns.map (ends (As.st L) es).g) es' qs→Turned d ht D 1013 (L.map Cell.b) (C.map Cell.b) es' qs:=fun h=>by rw [bC]; exact h
  repeat (first | walk_at "rd" | refine zD e8 (v:=.ref h0) (i:=0) rfl ?_ | refine zD e8 (v:=.ref h1) (i:=1) rfl ?_)
  refine Cg (tn:=ht) e6 hA8 l1 l6 e7 plen hR hrun8 hwalk szz evv fun r9 a9 b9 ps9 es9 qs9 H9 s9 e9 na9 nb9 nab ea9 eb9 hrun9 hel9 tu9=>?_
  walk_at "r"
  refine zA (by simp) fun hx Ha na ta ya=>?_
  have T8a:=s9.trans ta
  refine F3 (T8a _ _ e8) ya (T8a _ _ e6) (T8a _ _ hl8) (T8a _ _ e7) (T8a _ _ epl8) (fun v hv=>by
    obtain ⟨c,_,e⟩:=List.mem_map.mp hv
    exact ⟨c.p,e.symm⟩) (fun v hv=>by
    obtain ⟨p,_,e⟩:=List.mem_map.mp hv
    exact ⟨p,e.symm⟩) ?_
  walk_at "r"
  refine xm (T8a _ _ hl8) (fun c hc=>(hA8 c hc).same T8a) l6 (T8a _ _ eel8) (fun c hc=>(hAC8 c hc).same T8a) (by omega) (by omega) (ta _ _ e9) (ta _ _ ea9) (ta _ _ eb9) (hrun9.same ta) (by omega) hR szz (tuC tu9) fun Hb sb=>?_
  have e9b:=sb _ _ (ta _ _ e9)
  have ea9b:=sb _ _ (ta _ _ ea9)
  have eb9b:=sb _ _ (ta _ _ eb9)
  walk_at "r"
  refine Bx ea9b fun Hc xc=>?_
  have e9c:=xc.tup e9b ea9b
  have eb9c:=xc _ _ eb9b (Ne.symm nab)
  walk_at "r"
  refine Bx eb9c fun Hd xd=>?_
  have T8d:Same H8 Hd:=fun b o e=>xd _ _ (xc _ _ (sb _ _ (T8a _ _ e)) (ze e na9)) (ze e nb9)
  walk_at "r"
  refine Cg (tn:=ht) (T8d _ _ hl8) (fun c hc=>(hA8 c hc).same T8d) l1 l6 (T8d _ _ epl8) plen hR (hrun8.same T8d) hwalk szz evv fun re ae be pse ese qse He se ee nae nbe nabe eae ebe hrune hele tue=>?_
  have T8e:=T8d.trans se
  walk_at "r"
  refine xm (T8e _ _ hl8) (fun c hc=>(hA8 c hc).same T8e) l6 (T8e _ _ eel8) (fun c hc=>(hAC8 c hc).same T8e) (by omega) (by omega) ee eae ebe hrune (by omega) hR szz (tuC tue) fun Hf sf=>?_
  have T8f:=T8e.trans sf
  walk_at "r"
  refine zA (by simp) fun nl Hg ng tg yg=>?_
  have T8g:=T8f.trans tg
  have ev0:Ever d D 1013 (ends (As.st L) []):=wR (es:=es) evv 0
  walk_at "r"
  refine Cg (tn:=false) (ps:=[]) (es:=[]) (T8g _ _ hl8) (fun c hc=>(hA8 c hc).same T8g) l1 l6 yg (by simp) hR ⟨rfl,fun i p x h=>by simp at h⟩ (fun i x h=>by simp at h) szz ev0 fun rh ah bh psh esh qsh Hh sh eh nah nbh nabh eah ebh hrunh helh tuh=>?_
  have T8h:=T8g.trans sh
  have tuh:Turned d false D 1013 (L.map Cell.b) (L.map Cell.b) esh qsh:=by
    have e:(ends (As.st L) []).ns.map (ends (As.st L) []).g=L.map Cell.b:=st_b
    rw [e] at tuh
    exact tuh
  have helh:esh.length=0:=helh
  walk_at "r"
  refine xm (T8h _ _ hl8) (fun c hc=>(hA8 c hc).same T8h) l6 (T8h _ _ hl8) (fun c hc=>(hA8 c hc).same T8h) l1 (by omega) eh eah ebh hrunh (by omega) hR szz tuh fun Hi si=>?_
  walk_at "r"
  exact q _
end
end Bk
noncomputable section
set_option linter.all false
namespace Hd
open PySem PySem.W PySem.Calls PyProof.Rows
abbrev lf0:Life:=@PySem.Life.mk (@List.nil.{0} @Nat) (@List.nil.{0} @Nat) (@List.nil.{0} @Nat) (@OfNat.ofNat.{0} @Nat (nat_lit 0) (@instOfNatNat (nat_lit 0))) (@List.nil.{0} (@Prod.{0,0} @Nat @Nat)) (@List.nil.{0} @Nat) @Bool.false (@List.toArray.{0} @Nat (@List.nil.{0} @Nat)) (@List.nil.{0} @Nat) (@OfNat.ofNat.{0} @Nat (nat_lit 0) (@instOfNatNat (nat_lit 0))) @Bool.false @Bool.false @Bool.false (@OfNat.ofNat.{0} @Int (nat_lit 0) (@instOfNat (nat_lit 0))) (@List.cons.{0} @Int (@OfNat.ofNat.{0} @Int (nat_lit 2000) (@instOfNat (nat_lit 2000))) (@List.cons.{0} @Int (@OfNat.ofNat.{0} @Int (nat_lit 10) (@instOfNat (nat_lit 10))) (@List.cons.{0} @Int (@OfNat.ofNat.{0} @Int (nat_lit 10) (@instOfNat (nat_lit 10))) (@List.nil.{0} @Int)))) @Bool.false (@OfNat.ofNat.{0} @Nat (nat_lit 0) (@instOfNatNat (nat_lit 0))) @Bool.true (@List.nil.{0} @Nat) (@List.nil.{0} @Nat) (@OfNat.ofNat.{0} @Nat (nat_lit 0) (@instOfNatNat (nat_lit 0))) @Bool.false
abbrev dr1:Drawn:=@PySem.Drawn.mk (@OfNat.ofNat.{0} @Nat (nat_lit 0) (@instOfNatNat (nat_lit 0))) (@OfNat.ofNat.{0} @Nat (nat_lit 0) (@instOfNatNat (nat_lit 0))) (@OfNat.ofNat.{0} @Nat (nat_lit 0) (@instOfNatNat (nat_lit 0))) (@OfNat.ofNat.{0} @Nat (nat_lit 0) (@instOfNatNat (nat_lit 0)))
abbrev p:Program:=PySem.Challenge.pw_boardglue_k35_whole_plans_turned_about
def top (i:Nat):Stmt:=p.main.body.getD i (.Pass ⟨0,0,0,0⟩)
def sub (s:Stmt) (j:Nat):Stmt:=match s with | .ClassDef (body:=b) ..=>b.getD j (.Pass ⟨0,0,0,0⟩) | _=>s
def fn (x q:Str) (s:Stmt) (g:Addr) (cl:List (Str × Addr)) (dV kV doc pm:Value) (an:Option Addr) (cd ct:Value) (bl:Addr):FuncData:={ name:=x,qualname:=q,params:=L2.defArgs s,body:=.stmts (L2.defBody s),scope:=L2.defScope s,globals:=g,closure:=cl,defaults:=dV,kwdefaults:=kV,doc:=doc,pyModule:=pm,annotations:=an,code:=cd,closureTuple:=ct,builtins:=bl }
def z0:Value:=.int 0 0
def cp (n:Tok):Value:=.str "/claim/cut.py" n
def co (a:Array Value):Obj:=⟨.type "code",none,.fields a,#[]⟩
def fo (f:FuncData):Obj:=⟨.type "function",none,.func f,#[]⟩
def en (P:Params) (x:String) (t:Tok) (v:Value):DictEntry:=⟨PyData.keyHash P x,.str x t,v⟩
def env:Env:={ scope:=p.main.scope,locals:=mainNs,globals:=mainNs,cells:=[],code:=(.ref 13),frame:=some 14 }
abbrev b:List Stmt:=behindTheImports p
abbrev cE:Code:=.body b env
abbrev q:Pos:=⟨0,0,0,0⟩
abbrev B:List Frame:=[topFrame q]
abbrev m0:Nat:=nat_lit 11
abbrev ann:Option Value:=(some (.ref 6))
def o0:Obj:=⟨(.type "tuple"),none,(.seq #[] 0),#[]⟩
def o1:Obj:=⟨.none,none,(.fields #[]),#[]⟩
def o2:Obj:=co #[(.str "<module>" 182),(.str "<module>" 183),(cp 184),(.int (1) 0),z0,z0,z0,z0,(.ref 11),(.bool false),(.int (181) 0),(.ref 12),.none,.none,.none,.none,(.int (185) 0),(.int (1) 0),(cp 186)]
def o3:Obj:=⟨(.type "frame"),none,.plain,#[(some (.ref 13)),(some (.ref 3)),(some (.ref 3)),none,(some (.str "__main__" 164)),none,(some (.ref 0))]⟩
def Ha (P:Params):Heap:=⟨⟨[boot_o_0 P,boot_o_1 P,boot_o_2 P,boot_o_3 P,boot_o_4 P,boot_o_5 P,boot_o_6 P,boot_o_7 P,boot_o_8 P,boot_o_9 P,boot_o_10 P,o0,o1,o2,o3]⟩,lf0⟩
def T0 (P:Params):BT:=(.node (boot_o_0 P) (.node (boot_o_1 P) (.node (boot_o_3 P) (.node (boot_o_7 P) .nil .nil) (.node (o0) .nil .nil)) (.node (boot_o_5 P) (.node (boot_o_9 P) .nil .nil) (.node (o2) .nil .nil))) (.node (boot_o_2 P) (.node (boot_o_4 P) (.node (boot_o_8 P) .nil .nil) (.node (o1) .nil .nil)) (.node (boot_o_6 P) (.node (boot_o_10 P) .nil .nil) (.node (o3) .nil .nil))))
theorem pre' (w:World):(fun os=>PySem.W.Fast.tw15667345088766844465 PySem.W.Fast.tw14364793385576792824 p w m0 ann (nat_lit 12) (⟨boot_heap w.params,⟨[]⟩,boot_drawn,boot_toks,os⟩:Shared) (PySem.W.topStub p))=fun os=>some ((⟨Ha w.params,⟨[]⟩,dr1,nat_lit 187,os⟩:Shared),Thread.mk (PySem.W.Fast.tw11892475500146522536 PySem.W.Fast.tw14364793385576792824 cE) cE ⟨0,0,0,0⟩ B):=by kernel_rfl
theorem pre (w:World) (os:OsState):topGo treeTable p w m0 ann (nat_lit 12) (⟨boot_heap w.params,⟨[]⟩,boot_drawn,boot_toks,os⟩:Shared) (topStub p)=some ((⟨Ha w.params,⟨[]⟩,dr1,nat_lit 187,os⟩:Shared),Thread.mk (denote treeTable cE) cE ⟨0,0,0,0⟩ B):=by
  rw [PySem.W.Fast.te15667345088766844465,PySem.W.Fast.te14364793385576792824,PySem.W.Fast.te11892475500146522536]
  exact congrFun (pre' w) os
theorem blk' (w:World):(fun os=>PySem.W.Fast.tw14374325043358763698 PySem.W.Fast.tw14364793385576792824 p w m0 ann (nat_lit 1) (nat_lit 1) (⟨Ha w.params,⟨[]⟩,dr1,nat_lit 187,os⟩:Shared) (PySem.W.blockOf b env cE ⟨0,0,0,0⟩ B))=fun os=>some (Flow.next,SharedT.abs (⟨T0 w.params,nat_lit 15,lf0,⟨[]⟩,dr1,nat_lit 187,os⟩:SharedT),cE,⟨0,0,0,0⟩):=by kernel_rfl
theorem blk (w:World) (os:OsState):segRun treeTable p w m0 ann (nat_lit 1) (nat_lit 1) (⟨Ha w.params,⟨[]⟩,dr1,nat_lit 187,os⟩:Shared) (blockOf b env cE ⟨0,0,0,0⟩ B)=some (Flow.next,SharedT.abs (⟨T0 w.params,nat_lit 15,lf0,⟨[]⟩,dr1,nat_lit 187,os⟩:SharedT),cE,⟨0,0,0,0⟩):=by
  rw [PySem.W.Fast.te14374325043358763698,PySem.W.Fast.te14364793385576792824]
  exact congrFun (blk' w) os
def o4 (P:Params):Obj:=⟨(.type "dict"),none,(.dict #[en P "__name__" 165 (.str "law_boardglue_k35_whole_plans_turned_about" 605),en P "__doc__" 166 .none,en P "__package__" 167 .none,en P "__loader__" 168 (.builtin "__main__.__loader__#opaque"),en P "__spec__" 169 .none,en P "__annotations__" 170 (.ref 6),en P "__builtins__" 171 (.ref 4),en P "__file__" 173 (cp 172),en P "__cached__" 174 .none,en P "_wall" 193 (.ref 21),en P "YardError" 213 (.ref 31),en P "NoLength" 229 (.ref 44),en P "NoDeed" 245 (.ref 56),en P "NoName" 261 (.ref 68),en P "Grain" 277 (.ref 80),en P "Unfit" 293 (.ref 92),en P "NOUGHT" 299 (.ref 95),en P "GREAT_BITS" 301 (.int (8192) 300),en P "HEAD_BITS" 303 (.int (64) 302),en P "is_whole" 310 (.ref 102),en P "common_divisor" 320 (.ref 109),en P "far_rests" 330 (.ref 116),en P "sure_steps" 343 (.ref 123),en P "with_sign_of" 351 (.ref 130),en P "length" 363 (.ref 138),en P "added" 377 (.ref 145),en P "taken" 385 (.ref 152),en P "is_above_nought" 394 (.ref 159),en P "under" 403 (.ref 166),en P "is_length" 411 (.ref 171),en P "CUTS" 416 (.ref 172),en P "GLUINGS" 419 (.ref 173),en P "SHIFTS" 422 (.ref 174),en P "TURN" 424 (.str "turn" 423),en P "is_deed" 431 (.ref 181),en P "names_taken" 438 (.ref 188),en P "count_put" 445 (.ref 195),en P "turned" 452 (.ref 202),en P "cut_across" 461 (.ref 209),en P "glued_beside" 469 (.ref 216),en P "stacked" 479 (.ref 223),en P "Yard" 558 (.ref 280),en P "yard_behind" 572 (.ref 291),en P "walked" 582 (.ref 299),en P "undoing" 592 (.ref 306),en P "places_of" 598 (.ref 311),en P "back" 604 (.ref 316),en P "_law_cell" 614 (.ref 323),en P "_law_whole" 621 (.ref 330),en P "_law_great" 630 (.ref 337),en P "_law_digits" 641 (.ref 344),en P "_law_divisor" 649 (.ref 351),en P "_law_lowest" 659 (.ref 358),en P "_law_sign" 668 (.ref 365),en P "_law_plus" 679 (.ref 372),en P "_law_share" 688 (.ref 379),en P "_law_below" 698 (.ref 386),en P "_law_root" 704 (.ref 391),en P "_law_side" 718 (.ref 398),en P "_law_heap" 724 (.ref 403),en P "_law_new" 734 (.ref 410),en P "_law_at" 746 (.ref 417),en P "_law_deed" 752 (.ref 422),en P "_law_done" 758 (.ref 427),en P "_law_begin" 767 (.ref 434),en P "_law_is_length" 774 (.ref 441),en P "_law_plan" 780 (.ref 446),en P "_law_fits" 791 (.ref 453),en P "_law_walked" 797 (.ref 458),en P "_law_right" 803 (.ref 463),en P "law" 809 (.ref 468)] 71),#[]⟩
def o5:Obj:=⟨.none,none,(.fields #[(.int (1) 0),z0,(.ref 20),(.int (5) 0),z0,(.ref 27),(.int (7) 0),z0,(.ref 40),(.int (9) 0),z0,(.ref 52),(.int (11) 0),z0,(.ref 64),(.int (13) 0),z0,(.ref 76),(.int (15) 0),z0,(.ref 88),(.int (21) 0),z0,(.ref 101),(.int (23) 0),z0,(.ref 108),(.int (35) 0),z0,(.ref 115),(.int (41) 0),z0,(.ref 122),(.int (55) 0),z0,(.ref 129),(.int (57) 0),z0,(.ref 137),(.int (64) 0),z0,(.ref 144),(.int (72) 0),z0,(.ref 151),(.int (74) 0),z0,(.ref 158),(.int (82) 0),z0,(.ref 165),(.int (85) 0),z0,(.ref 170),(.int (96) 0),z0,(.ref 180),(.int (108) 0),z0,(.ref 187),(.int (110) 0),z0,(.ref 194),(.int (112) 0),z0,(.ref 201),(.int (114) 0),z0,(.ref 208),(.int (118) 0),z0,(.ref 215),(.int (122) 0),z0,(.ref 222),(.int (126) 0),z0,(.ref 229),(.int (185) 0),z0,(.ref 290),(.int (190) 0),z0,(.ref 298),(.int (192) 0),z0,(.ref 305),(.int (207) 0),z0,(.ref 310),(.int (212) 0),z0,(.ref 315),(.int (230) 0),z0,(.ref 322),(.int (234) 0),z0,(.ref 329),(.int (236) 0),z0,(.ref 336),(.int (240) 0),z0,(.ref 343),(.int (250) 0),z0,(.ref 350),(.int (256) 0),z0,(.ref 357),(.int (261) 0),z0,(.ref 364),(.int (269) 0),z0,(.ref 371),(.int (273) 0),z0,(.ref 378),(.int (275) 0),z0,(.ref 385),(.int (278) 0),z0,(.ref 390),(.int (281) 0),z0,(.ref 397),(.int (294) 0),z0,(.ref 402),(.int (308) 0),z0,(.ref 409),(.int (323) 0),z0,(.ref 416),(.int (329) 0),z0,(.ref 421),(.int (342) 0),z0,(.ref 426),(.int (353) 0),z0,(.ref 433),(.int (358) 0),z0,(.ref 440),(.int (362) 0),z0,(.ref 445),(.int (372) 0),z0,(.ref 452),(.int (390) 0),z0,(.ref 457),(.int (397) 0),z0,(.ref 462),(.int (409) 0),z0,(.ref 467)]),#[]⟩
def o6:Obj:=⟨(.type "tuple"),none,(.seq #[(.str "k" 190)] 0),#[]⟩
def o7:Obj:=⟨.none,none,(.func (fn "_wall" "_wall" (top 0) 0 [] .none .none .none .none none .none .none 0)),#[]⟩
def o8:Obj:=co #[(.str "_wall" 187),(.str "_wall" 188),(cp 189),(.int (1) 0),(.int (1) 0),z0,z0,(.int (3) 0),(.ref 15),(.bool true),(.int (181) 0),(.ref 16),.none,(.ref 17),(.ref 18),(.ref 19),(.int (191) 0),(.int (1) 0),(cp 192)]
def o9:Obj:=fo (fn "_wall" "_wall" (top 0) 3 [] .none .none .none (.str "__main__" 164) none (.ref 20) .none 0)
def o10:Obj:=⟨(.type "tuple"),none,(.seq #[(.type "ValueError")] 0),#[]⟩
def o11:Obj:=⟨(.type "builtin_function_or_method"),none,(.fields #[(.builtin "type.__prepare__"),(.type "type")]),#[]⟩
def o12 (P:Params):Obj:=⟨(.type "dict"),none,(.dict #[en P "__module__" 203 (.str "boardglue.errors" 194),en P "__qualname__" 205 (.str "YardError" 204),en P "__firstlineno__" 207 (.int (5) 206),en P "__static_attributes__" 208 (.ref 29)] 4),#[]⟩
def o13:Obj:=co #[(.str "YardError" 198),(.str "YardError" 199),(cp 200),(.int (5) 0),z0,z0,z0,z0,(.ref 25),(.bool false),(.int (181) 0),(.ref 26),.none,.none,.none,.none,(.int (201) 0),(.int (5) 0),(cp 202)]
def o14:Obj:=⟨(.type "frame"),none,.plain,#[(some (.ref 27)),(some (.ref 3)),(some (.ref 24)),none,(some (.str "boardglue.errors" 194)),none,(some (.ref 0))]⟩
def o15 (P:Params):Obj:=⟨(.type "dict"),none,(.dict #[en P "__module__" 203 (.str "boardglue.errors" 194),en P "__firstlineno__" 207 (.int (5) 206),en P "__static_attributes__" 208 (.ref 29),en P "__weakref__" 210 (.ref 32),en P "__doc__" 211 .none] 3),#[]⟩
def o16:Obj:=⟨(.type "type"),none,(.cls ⟨"YardError",[(.type "ValueError")],[(.ref 31),(.type "ValueError"),(.type "Exception"),(.type "BaseException"),(.type "object")],30,"YardError",true,[],[(.ref 44),(.ref 56),(.ref 68),(.ref 80),(.ref 92)],false,none,false⟩),#[(some (.ref 22)),none,(some (.str "YardError" 196)),(some (.str "YardError" 204)),(some (.builtin "ValueError.__new__")),(some (.bool true))]⟩
def o17:Obj:=⟨(.type "getset_descriptor"),none,(.fields #[(.str "__weakref__" 209),(.ref 31),(.builtin "ExceptionGroup.__weakref__"),.none]),#[]⟩
def o18:Obj:=⟨(.type "super"),none,(.fields #[(.ref 31),(.ref 31),(.ref 31)]),#[]⟩
def o19:Obj:=⟨(.type "builtin_function_or_method"),none,(.fields #[(.builtin "object.__init_subclass__"),(.ref 31)]),#[]⟩
def o20:Obj:=⟨(.type "tuple"),none,(.seq #[(.ref 31)] 0),#[]⟩
def o21 (P:Params):Obj:=⟨(.type "dict"),none,(.dict #[en P "__module__" 221 (.str "boardglue.errors" 194),en P "__qualname__" 223 (.str "NoLength" 222),en P "__firstlineno__" 225 (.int (7) 224),en P "__static_attributes__" 226 (.ref 42)] 4),#[]⟩
def o22:Obj:=co #[(.str "NoLength" 216),(.str "NoLength" 217),(cp 218),(.int (7) 0),z0,z0,z0,z0,(.ref 38),(.bool false),(.int (181) 0),(.ref 39),.none,.none,.none,.none,(.int (219) 0),(.int (7) 0),(cp 220)]
def o23:Obj:=⟨(.type "frame"),none,.plain,#[(some (.ref 40)),(some (.ref 3)),(some (.ref 37)),none,(some (.str "boardglue.errors" 194)),none,(some (.ref 0))]⟩
def o24 (P:Params):Obj:=⟨(.type "dict"),none,(.dict #[en P "__module__" 221 (.str "boardglue.errors" 194),en P "__firstlineno__" 225 (.int (7) 224),en P "__static_attributes__" 226 (.ref 42),en P "__doc__" 227 .none] 2),#[]⟩
def o25:Obj:=⟨(.type "type"),none,(.cls ⟨"NoLength",[(.ref 31)],[(.ref 44),(.ref 31),(.type "ValueError"),(.type "Exception"),(.type "BaseException"),(.type "object")],43,"NoLength",true,[],[],false,none,false⟩),#[(some (.ref 35)),none,(some (.str "NoLength" 214)),(some (.str "NoLength" 222)),(some (.builtin "ValueError.__new__")),(some (.bool true))]⟩
def o26:Obj:=⟨(.type "super"),none,(.fields #[(.ref 44),(.ref 44),(.ref 44)]),#[]⟩
def o27:Obj:=⟨(.type "builtin_function_or_method"),none,(.fields #[(.builtin "object.__init_subclass__"),(.ref 44)]),#[]⟩
def o28 (P:Params):Obj:=⟨(.type "dict"),none,(.dict #[en P "__module__" 237 (.str "boardglue.errors" 194),en P "__qualname__" 239 (.str "NoDeed" 238),en P "__firstlineno__" 241 (.int (9) 240),en P "__static_attributes__" 242 (.ref 54)] 4),#[]⟩
def o29:Obj:=co #[(.str "NoDeed" 232),(.str "NoDeed" 233),(cp 234),(.int (9) 0),z0,z0,z0,z0,(.ref 50),(.bool false),(.int (181) 0),(.ref 51),.none,.none,.none,.none,(.int (235) 0),(.int (9) 0),(cp 236)]
def o30:Obj:=⟨(.type "frame"),none,.plain,#[(some (.ref 52)),(some (.ref 3)),(some (.ref 49)),none,(some (.str "boardglue.errors" 194)),none,(some (.ref 0))]⟩
def o31 (P:Params):Obj:=⟨(.type "dict"),none,(.dict #[en P "__module__" 237 (.str "boardglue.errors" 194),en P "__firstlineno__" 241 (.int (9) 240),en P "__static_attributes__" 242 (.ref 54),en P "__doc__" 243 .none] 2),#[]⟩
def o32:Obj:=⟨(.type "type"),none,(.cls ⟨"NoDeed",[(.ref 31)],[(.ref 56),(.ref 31),(.type "ValueError"),(.type "Exception"),(.type "BaseException"),(.type "object")],55,"NoDeed",true,[],[],false,none,false⟩),#[(some (.ref 47)),none,(some (.str "NoDeed" 230)),(some (.str "NoDeed" 238)),(some (.builtin "ValueError.__new__")),(some (.bool true))]⟩
def o33:Obj:=⟨(.type "super"),none,(.fields #[(.ref 56),(.ref 56),(.ref 56)]),#[]⟩
def o34:Obj:=⟨(.type "builtin_function_or_method"),none,(.fields #[(.builtin "object.__init_subclass__"),(.ref 56)]),#[]⟩
def o35 (P:Params):Obj:=⟨(.type "dict"),none,(.dict #[en P "__module__" 253 (.str "boardglue.errors" 194),en P "__qualname__" 255 (.str "NoName" 254),en P "__firstlineno__" 257 (.int (11) 256),en P "__static_attributes__" 258 (.ref 66)] 4),#[]⟩
def o36:Obj:=co #[(.str "NoName" 248),(.str "NoName" 249),(cp 250),(.int (11) 0),z0,z0,z0,z0,(.ref 62),(.bool false),(.int (181) 0),(.ref 63),.none,.none,.none,.none,(.int (251) 0),(.int (11) 0),(cp 252)]
def o37:Obj:=⟨(.type "frame"),none,.plain,#[(some (.ref 64)),(some (.ref 3)),(some (.ref 61)),none,(some (.str "boardglue.errors" 194)),none,(some (.ref 0))]⟩
def o38 (P:Params):Obj:=⟨(.type "dict"),none,(.dict #[en P "__module__" 253 (.str "boardglue.errors" 194),en P "__firstlineno__" 257 (.int (11) 256),en P "__static_attributes__" 258 (.ref 66),en P "__doc__" 259 .none] 2),#[]⟩
def o39:Obj:=⟨(.type "type"),none,(.cls ⟨"NoName",[(.ref 31)],[(.ref 68),(.ref 31),(.type "ValueError"),(.type "Exception"),(.type "BaseException"),(.type "object")],67,"NoName",true,[],[],false,none,false⟩),#[(some (.ref 59)),none,(some (.str "NoName" 246)),(some (.str "NoName" 254)),(some (.builtin "ValueError.__new__")),(some (.bool true))]⟩
def o40:Obj:=⟨(.type "super"),none,(.fields #[(.ref 68),(.ref 68),(.ref 68)]),#[]⟩
def o41:Obj:=⟨(.type "builtin_function_or_method"),none,(.fields #[(.builtin "object.__init_subclass__"),(.ref 68)]),#[]⟩
def o42 (P:Params):Obj:=⟨(.type "dict"),none,(.dict #[en P "__module__" 269 (.str "boardglue.errors" 194),en P "__qualname__" 271 (.str "Grain" 270),en P "__firstlineno__" 273 (.int (13) 272),en P "__static_attributes__" 274 (.ref 78)] 4),#[]⟩
def o43:Obj:=co #[(.str "Grain" 264),(.str "Grain" 265),(cp 266),(.int (13) 0),z0,z0,z0,z0,(.ref 74),(.bool false),(.int (181) 0),(.ref 75),.none,.none,.none,.none,(.int (267) 0),(.int (13) 0),(cp 268)]
def o44:Obj:=⟨(.type "frame"),none,.plain,#[(some (.ref 76)),(some (.ref 3)),(some (.ref 73)),none,(some (.str "boardglue.errors" 194)),none,(some (.ref 0))]⟩
def o45 (P:Params):Obj:=⟨(.type "dict"),none,(.dict #[en P "__module__" 269 (.str "boardglue.errors" 194),en P "__firstlineno__" 273 (.int (13) 272),en P "__static_attributes__" 274 (.ref 78),en P "__doc__" 275 .none] 2),#[]⟩
def o46:Obj:=⟨(.type "type"),none,(.cls ⟨"Grain",[(.ref 31)],[(.ref 80),(.ref 31),(.type "ValueError"),(.type "Exception"),(.type "BaseException"),(.type "object")],79,"Grain",true,[],[],false,none,false⟩),#[(some (.ref 71)),none,(some (.str "Grain" 262)),(some (.str "Grain" 270)),(some (.builtin "ValueError.__new__")),(some (.bool true))]⟩
def o47:Obj:=⟨(.type "super"),none,(.fields #[(.ref 80),(.ref 80),(.ref 80)]),#[]⟩
def o48:Obj:=⟨(.type "builtin_function_or_method"),none,(.fields #[(.builtin "object.__init_subclass__"),(.ref 80)]),#[]⟩
def o49 (P:Params):Obj:=⟨(.type "dict"),none,(.dict #[en P "__module__" 285 (.str "boardglue.errors" 194),en P "__qualname__" 287 (.str "Unfit" 286),en P "__firstlineno__" 289 (.int (15) 288),en P "__static_attributes__" 290 (.ref 90)] 4),#[]⟩
def o50:Obj:=co #[(.str "Unfit" 280),(.str "Unfit" 281),(cp 282),(.int (15) 0),z0,z0,z0,z0,(.ref 86),(.bool false),(.int (181) 0),(.ref 87),.none,.none,.none,.none,(.int (283) 0),(.int (15) 0),(cp 284)]
def o51:Obj:=⟨(.type "frame"),none,.plain,#[(some (.ref 88)),(some (.ref 3)),(some (.ref 85)),none,(some (.str "boardglue.errors" 194)),none,(some (.ref 0))]⟩
def o52 (P:Params):Obj:=⟨(.type "dict"),none,(.dict #[en P "__module__" 285 (.str "boardglue.errors" 194),en P "__firstlineno__" 289 (.int (15) 288),en P "__static_attributes__" 290 (.ref 90),en P "__doc__" 291 .none] 2),#[]⟩
def o53:Obj:=⟨(.type "type"),none,(.cls ⟨"Unfit",[(.ref 31)],[(.ref 92),(.ref 31),(.type "ValueError"),(.type "Exception"),(.type "BaseException"),(.type "object")],91,"Unfit",true,[],[],false,none,false⟩),#[(some (.ref 83)),none,(some (.str "Unfit" 278)),(some (.str "Unfit" 286)),(some (.builtin "ValueError.__new__")),(some (.bool true))]⟩
def o54:Obj:=⟨(.type "super"),none,(.fields #[(.ref 92),(.ref 92),(.ref 92)]),#[]⟩
def o55:Obj:=⟨(.type "builtin_function_or_method"),none,(.fields #[(.builtin "object.__init_subclass__"),(.ref 92)]),#[]⟩
def o56:Obj:=⟨(.type "tuple"),none,(.seq #[(.int (0) 296),(.int (0) 297),(.int (1) 298)] 0),#[]⟩
def o57:Obj:=⟨(.type "tuple"),none,(.seq #[(.str "thing" 307)] 0),#[]⟩
def o58:Obj:=⟨.none,none,(.func (fn "is_whole" "is_whole" (top 12) 0 [] .none .none .none .none none .none .none 0)),#[]⟩
def o59:Obj:=co #[(.str "is_whole" 304),(.str "is_whole" 305),(cp 306),(.int (21) 0),(.int (1) 0),z0,z0,(.int (3) 0),(.ref 96),(.bool true),(.int (181) 0),(.ref 97),.none,(.ref 98),(.ref 99),(.ref 100),(.int (308) 0),(.int (21) 0),(cp 309)]
def o60:Obj:=fo (fn "is_whole" "is_whole" (top 12) 3 [] .none .none .none (.str "boardglue.lengths" 294) none (.ref 101) .none 0)
def o61:Obj:=⟨(.type "tuple"),none,(.seq #[(.str "one" 314),(.str "other" 315),(.str "pair" 316),(.str "rest" 317)] 0),#[]⟩
def o62:Obj:=⟨.none,none,(.func (fn "common_divisor" "common_divisor" (top 13) 0 [] .none .none .none .none none .none .none 0)),#[]⟩
def o63:Obj:=co #[(.str "common_divisor" 311),(.str "common_divisor" 312),(cp 313),(.int (23) 0),(.int (2) 0),z0,z0,(.int (3) 0),(.ref 103),(.bool true),(.int (181) 0),(.ref 104),.none,(.ref 105),(.ref 106),(.ref 107),(.int (318) 0),(.int (23) 0),(cp 319)]
def o64:Obj:=fo (fn "common_divisor" "common_divisor" (top 13) 3 [] .none .none .none (.str "boardglue.lengths" 294) none (.ref 108) .none 0)
def o65:Obj:=⟨(.type "tuple"),none,(.seq #[(.str "one" 324),(.str "other" 325),(.str "beyond" 326),(.str "steps" 327)] 0),#[]⟩
def o66:Obj:=⟨.none,none,(.func (fn "far_rests" "far_rests" (top 14) 0 [] .none .none .none .none none .none .none 0)),#[]⟩
def o67:Obj:=co #[(.str "far_rests" 321),(.str "far_rests" 322),(cp 323),(.int (35) 0),(.int (2) 0),z0,z0,(.int (3) 0),(.ref 110),(.bool true),(.int (181) 0),(.ref 111),.none,(.ref 112),(.ref 113),(.ref 114),(.int (328) 0),(.int (35) 0),(cp 329)]
def o68:Obj:=fo (fn "far_rests" "far_rests" (top 14) 3 [] .none .none .none (.str "boardglue.lengths" 294) none (.ref 115) .none 0)
def o69:Obj:=⟨(.type "tuple"),none,(.seq #[(.str "one" 334),(.str "other" 335),(.str "ahead" 336),(.str "last" 337),(.str "many" 338),(.str "rest" 339),(.str "left" 340)] 0),#[]⟩
def o70:Obj:=⟨.none,none,(.func (fn "sure_steps" "sure_steps" (top 15) 0 [] .none .none .none .none none .none .none 0)),#[]⟩
def o71:Obj:=co #[(.str "sure_steps" 331),(.str "sure_steps" 332),(cp 333),(.int (41) 0),(.int (2) 0),z0,z0,(.int (3) 0),(.ref 117),(.bool true),(.int (181) 0),(.ref 118),.none,(.ref 119),(.ref 120),(.ref 121),(.int (341) 0),(.int (41) 0),(cp 342)]
def o72:Obj:=fo (fn "sure_steps" "sure_steps" (top 15) 3 [] .none .none .none (.str "boardglue.lengths" 294) none (.ref 122) .none 0)
def o73:Obj:=⟨(.type "tuple"),none,(.seq #[(.str "divisor" 347),(.str "bottom" 348)] 0),#[]⟩
def o74:Obj:=⟨.none,none,(.func (fn "with_sign_of" "with_sign_of" (top 16) 0 [] .none .none .none .none none .none .none 0)),#[]⟩
def o75:Obj:=co #[(.str "with_sign_of" 344),(.str "with_sign_of" 345),(cp 346),(.int (55) 0),(.int (2) 0),z0,z0,(.int (3) 0),(.ref 124),(.bool true),(.int (181) 0),(.ref 125),.none,(.ref 126),(.ref 127),(.ref 128),(.int (349) 0),(.int (55) 0),(cp 350)]
def o76:Obj:=fo (fn "with_sign_of" "with_sign_of" (top 16) 3 [] .none .none .none (.str "boardglue.lengths" 294) none (.ref 129) .none 0)
def o77:Obj:=⟨(.type "tuple"),none,(.seq #[(.int (0) 352),(.int (1) 353)] 0),#[]⟩
def o78:Obj:=⟨(.type "tuple"),none,(.seq #[(.str "a" 357),(.str "b" 358),(.str "n" 359),(.str "divisor" 360)] 0),#[]⟩
def o79:Obj:=⟨.none,none,(.func (fn "length" "length" (top 17) 0 [] .none .none .none .none none .none .none 0)),#[]⟩
def o80:Obj:=co #[(.str "length" 354),(.str "length" 355),(cp 356),(.int (57) 0),(.int (3) 0),z0,z0,(.int (3) 0),(.ref 132),(.bool true),(.int (181) 0),(.ref 133),.none,(.ref 134),(.ref 135),(.ref 136),(.int (361) 0),(.int (57) 0),(cp 362)]
def o81:Obj:=fo (fn "length" "length" (top 17) 3 [] (.ref 131) .none .none (.str "boardglue.lengths" 294) none (.ref 137) .none 0)
def o82:Obj:=⟨(.type "tuple"),none,(.seq #[(.str "one" 367),(.str "other" 368),(.str "shared" 369),(.str "ahead" 370),(.str "behind" 371),(.str "a" 372),(.str "b" 373),(.str "left" 374)] 0),#[]⟩
def o83:Obj:=⟨.none,none,(.func (fn "added" "added" (top 18) 0 [] .none .none .none .none none .none .none 0)),#[]⟩
def o84:Obj:=co #[(.str "added" 364),(.str "added" 365),(cp 366),(.int (64) 0),(.int (2) 0),z0,z0,(.int (3) 0),(.ref 139),(.bool true),(.int (181) 0),(.ref 140),.none,(.ref 141),(.ref 142),(.ref 143),(.int (375) 0),(.int (64) 0),(cp 376)]
def o85:Obj:=fo (fn "added" "added" (top 18) 3 [] .none .none .none (.str "boardglue.lengths" 294) none (.ref 144) .none 0)
def o86:Obj:=⟨(.type "tuple"),none,(.seq #[(.str "one" 381),(.str "other" 382)] 0),#[]⟩
def o87:Obj:=⟨.none,none,(.func (fn "taken" "taken" (top 19) 0 [] .none .none .none .none none .none .none 0)),#[]⟩
def o88:Obj:=co #[(.str "taken" 378),(.str "taken" 379),(cp 380),(.int (72) 0),(.int (2) 0),z0,z0,(.int (3) 0),(.ref 146),(.bool true),(.int (181) 0),(.ref 147),.none,(.ref 148),(.ref 149),(.ref 150),(.int (383) 0),(.int (72) 0),(cp 384)]
def o89:Obj:=fo (fn "taken" "taken" (top 19) 3 [] .none .none .none (.str "boardglue.lengths" 294) none (.ref 151) .none 0)
def o90:Obj:=⟨(.type "tuple"),none,(.seq #[(.str "d" 389),(.str "a" 390),(.str "b" 391)] 0),#[]⟩
def o91:Obj:=⟨.none,none,(.func (fn "is_above_nought" "is_above_nought" (top 20) 0 [] .none .none .none .none none .none .none 0)),#[]⟩
def o92:Obj:=co #[(.str "is_above_nought" 386),(.str "is_above_nought" 387),(cp 388),(.int (74) 0),(.int (3) 0),z0,z0,(.int (3) 0),(.ref 153),(.bool true),(.int (181) 0),(.ref 154),.none,(.ref 155),(.ref 156),(.ref 157),(.int (392) 0),(.int (74) 0),(cp 393)]
def o93:Obj:=fo (fn "is_above_nought" "is_above_nought" (top 20) 3 [] .none .none .none (.str "boardglue.lengths" 294) none (.ref 158) .none 0)
def o94:Obj:=⟨(.type "tuple"),none,(.seq #[(.str "d" 398),(.str "one" 399),(.str "other" 400)] 0),#[]⟩
def o95:Obj:=⟨.none,none,(.func (fn "under" "under" (top 21) 0 [] .none .none .none .none none .none .none 0)),#[]⟩
def o96:Obj:=co #[(.str "under" 395),(.str "under" 396),(cp 397),(.int (82) 0),(.int (3) 0),z0,z0,(.int (3) 0),(.ref 160),(.bool true),(.int (181) 0),(.ref 161),.none,(.ref 162),(.ref 163),(.ref 164),(.int (401) 0),(.int (82) 0),(cp 402)]
def o97:Obj:=fo (fn "under" "under" (top 21) 3 [] .none .none .none (.str "boardglue.lengths" 294) none (.ref 165) .none 0)
def o98:Obj:=⟨.none,none,(.func (fn "is_length" "is_length" (top 23) 0 [] .none .none .none .none none .none .none 0)),#[]⟩
def o99:Obj:=co #[(.str "is_length" 406),(.str "is_length" 407),(cp 408),(.int (85) 0),(.int (1) 0),z0,z0,(.int (3) 0),(.ref 167),(.bool true),(.int (181) 0),(.ref 168),.none,.none,.none,(.ref 169),(.int (409) 0),(.int (85) 0),(cp 410)]
def o100:Obj:=fo (fn "is_length" "is_length" (top 23) 3 [] .none .none .none (.str "boardglue.boards" 404) none (.ref 170) .none 0)
def o101:Obj:=⟨(.type "tuple"),none,(.seq #[(.str "across" 414),(.str "along" 415)] 0),#[]⟩
def o102:Obj:=⟨(.type "tuple"),none,(.seq #[(.str "beside" 417),(.str "atop" 418)] 0),#[]⟩
def o103:Obj:=⟨(.type "tuple"),none,(.seq #[(.str "stack" 420),(.str "spread" 421)] 0),#[]⟩
def o104:Obj:=⟨(.type "tuple"),none,(.seq #[(.str "thing" 428)] 0),#[]⟩
def o105:Obj:=⟨.none,none,(.func (fn "is_deed" "is_deed" (top 29) 0 [] .none .none .none .none none .none .none 0)),#[]⟩
def o106:Obj:=co #[(.str "is_deed" 425),(.str "is_deed" 426),(cp 427),(.int (96) 0),(.int (1) 0),z0,z0,(.int (3) 0),(.ref 175),(.bool true),(.int (181) 0),(.ref 176),.none,(.ref 177),(.ref 178),(.ref 179),(.int (429) 0),(.int (96) 0),(cp 430)]
def o107:Obj:=fo (fn "is_deed" "is_deed" (top 29) 3 [] .none .none .none (.str "boardglue.yard" 412) none (.ref 180) .none 0)
def o108:Obj:=⟨(.type "tuple"),none,(.seq #[(.str "deed" 435)] 0),#[]⟩
def o109:Obj:=⟨.none,none,(.func (fn "names_taken" "names_taken" (top 30) 0 [] .none .none .none .none none .none .none 0)),#[]⟩
def o110:Obj:=co #[(.str "names_taken" 432),(.str "names_taken" 433),(cp 434),(.int (108) 0),(.int (1) 0),z0,z0,(.int (3) 0),(.ref 182),(.bool true),(.int (181) 0),(.ref 183),.none,(.ref 184),(.ref 185),(.ref 186),(.int (436) 0),(.int (108) 0),(cp 437)]
def o111:Obj:=fo (fn "names_taken" "names_taken" (top 30) 3 [] .none .none .none (.str "boardglue.yard" 412) none (.ref 187) .none 0)
def o112:Obj:=⟨(.type "tuple"),none,(.seq #[(.str "deed" 442)] 0),#[]⟩
def o113:Obj:=⟨.none,none,(.func (fn "count_put" "count_put" (top 31) 0 [] .none .none .none .none none .none .none 0)),#[]⟩
def o114:Obj:=co #[(.str "count_put" 439),(.str "count_put" 440),(cp 441),(.int (110) 0),(.int (1) 0),z0,z0,(.int (3) 0),(.ref 189),(.bool true),(.int (181) 0),(.ref 190),.none,(.ref 191),(.ref 192),(.ref 193),(.int (443) 0),(.int (110) 0),(cp 444)]
def o115:Obj:=fo (fn "count_put" "count_put" (top 31) 3 [] .none .none .none (.str "boardglue.yard" 412) none (.ref 194) .none 0)
def o116:Obj:=⟨(.type "tuple"),none,(.seq #[(.str "one" 449)] 0),#[]⟩
def o117:Obj:=⟨.none,none,(.func (fn "turned" "turned" (top 32) 0 [] .none .none .none .none none .none .none 0)),#[]⟩
def o118:Obj:=co #[(.str "turned" 446),(.str "turned" 447),(cp 448),(.int (112) 0),(.int (1) 0),z0,z0,(.int (3) 0),(.ref 196),(.bool true),(.int (181) 0),(.ref 197),.none,(.ref 198),(.ref 199),(.ref 200),(.int (450) 0),(.int (112) 0),(cp 451)]
def o119:Obj:=fo (fn "turned" "turned" (top 32) 3 [] .none .none .none (.str "boardglue.yard" 412) none (.ref 201) .none 0)
def o120:Obj:=⟨(.type "tuple"),none,(.seq #[(.str "d" 456),(.str "one" 457),(.str "at" 458)] 0),#[]⟩
def o121:Obj:=⟨.none,none,(.func (fn "cut_across" "cut_across" (top 33) 0 [] .none .none .none .none none .none .none 0)),#[]⟩
def o122:Obj:=co #[(.str "cut_across" 453),(.str "cut_across" 454),(cp 455),(.int (114) 0),(.int (3) 0),z0,z0,(.int (3) 0),(.ref 203),(.bool true),(.int (181) 0),(.ref 204),.none,(.ref 205),(.ref 206),(.ref 207),(.int (459) 0),(.int (114) 0),(cp 460)]
def o123:Obj:=fo (fn "cut_across" "cut_across" (top 33) 3 [] .none .none .none (.str "boardglue.yard" 412) none (.ref 208) .none 0)
def o124:Obj:=⟨(.type "tuple"),none,(.seq #[(.str "one" 465),(.str "other" 466)] 0),#[]⟩
def o125:Obj:=⟨.none,none,(.func (fn "glued_beside" "glued_beside" (top 34) 0 [] .none .none .none .none none .none .none 0)),#[]⟩
def o126:Obj:=co #[(.str "glued_beside" 462),(.str "glued_beside" 463),(cp 464),(.int (118) 0),(.int (2) 0),z0,z0,(.int (3) 0),(.ref 210),(.bool true),(.int (181) 0),(.ref 211),.none,(.ref 212),(.ref 213),(.ref 214),(.int (467) 0),(.int (118) 0),(cp 468)]
def o127:Obj:=fo (fn "glued_beside" "glued_beside" (top 34) 3 [] .none .none .none (.str "boardglue.yard" 412) none (.ref 215) .none 0)
def o128:Obj:=⟨(.type "tuple"),none,(.seq #[(.str "one" 473),(.str "many" 474),(.str "width" 475),(.str "height" 476)] 0),#[]⟩
def o129:Obj:=⟨.none,none,(.func (fn "stacked" "stacked" (top 35) 0 [] .none .none .none .none none .none .none 0)),#[]⟩
def o130:Obj:=co #[(.str "stacked" 470),(.str "stacked" 471),(cp 472),(.int (122) 0),(.int (2) 0),z0,z0,(.int (3) 0),(.ref 217),(.bool true),(.int (181) 0),(.ref 218),.none,(.ref 219),(.ref 220),(.ref 221),(.int (477) 0),(.int (122) 0),(cp 478)]
def o131:Obj:=fo (fn "stacked" "stacked" (top 35) 3 [] .none .none .none (.str "boardglue.yard" 412) none (.ref 222) .none 0)
def o132 (P:Params):Obj:=⟨(.type "dict"),none,(.dict #[en P "__module__" 487 (.str "boardglue.yard" 412),en P "__qualname__" 489 (.str "Yard" 488),en P "__firstlineno__" 491 (.int (126) 490),en P "__init__" 497 (.ref 236),en P "do" 503 (.ref 241),en P "check_names" 512 (.ref 248),en P "put_by" 518 (.ref 253),en P "board_ever" 526 (.ref 260),en P "boards" 532 (.ref 265),en P "heap" 538 (.ref 270),en P "log" 545 (.ref 277),en P "__static_attributes__" 551 (.ref 278)] 12),#[]⟩
def o133:Obj:=⟨.none,none,(.fields #[(.int (128) 0),(.int (4) 0),(.ref 235),(.int (135) 0),(.int (4) 0),(.ref 240),(.int (150) 0),(.int (4) 0),(.ref 247),(.int (157) 0),(.int (4) 0),(.ref 252),(.int (173) 0),(.int (4) 0),(.ref 259),(.int (176) 0),(.int (4) 0),(.ref 264),(.int (179) 0),(.int (4) 0),(.ref 269),(.int (182) 0),(.int (4) 0),(.ref 276)]),#[]⟩
def o134:Obj:=co #[(.str "Yard" 482),(.str "Yard" 483),(cp 484),(.int (126) 0),z0,z0,z0,z0,(.ref 227),(.bool false),(.int (181) 0),(.ref 228),.none,.none,.none,.none,(.int (485) 0),(.int (126) 0),(cp 486)]
def o135:Obj:=⟨(.type "frame"),none,.plain,#[(some (.ref 229)),(some (.ref 3)),(some (.ref 226)),none,(some (.str "boardglue.yard" 412)),none,(some (.ref 0))]⟩
def o136:Obj:=⟨(.type "tuple"),none,(.seq #[(.bool false)] 0),#[]⟩
def o137:Obj:=⟨.none,none,(.func (fn "__init__" "Yard.__init__" (sub (top 36) 0) 0 [] .none .none .none .none none .none .none 0)),#[]⟩
def o138:Obj:=co #[(.str "__init__" 492),(.str "Yard.__init__" 493),(cp 494),(.int (128) 0),(.int (4) 0),z0,z0,(.int (3) 0),(.ref 232),(.bool true),(.int (181) 0),(.ref 233),.none,.none,.none,(.ref 234),(.int (495) 0),(.int (128) 0),(cp 496)]
def o139:Obj:=fo (fn "__init__" "Yard.__init__" (sub (top 36) 0) 3 [] (.ref 231) .none .none (.str "boardglue.yard" 412) none (.ref 235) .none 0)
def o140:Obj:=⟨.none,none,(.func (fn "do" "Yard.do" (sub (top 36) 1) 0 [] .none .none .none .none none .none .none 0)),#[]⟩
def o141:Obj:=co #[(.str "do" 498),(.str "Yard.do" 499),(cp 500),(.int (135) 0),(.int (2) 0),z0,z0,(.int (3) 0),(.ref 237),(.bool true),(.int (181) 0),(.ref 238),.none,.none,.none,(.ref 239),(.int (501) 0),(.int (135) 0),(cp 502)]
def o142:Obj:=fo (fn "do" "Yard.do" (sub (top 36) 1) 3 [] .none .none .none (.str "boardglue.yard" 412) none (.ref 240) .none 0)
def o143:Obj:=⟨(.type "tuple"),none,(.seq #[(.str "self" 507),(.str "names" 508),(.str "name" 509)] 0),#[]⟩
def o144:Obj:=⟨.none,none,(.func (fn "check_names" "Yard.check_names" (sub (top 36) 2) 0 [] .none .none .none .none none .none .none 0)),#[]⟩
def o145:Obj:=co #[(.str "check_names" 504),(.str "Yard.check_names" 505),(cp 506),(.int (150) 0),(.int (2) 0),z0,z0,(.int (3) 0),(.ref 242),(.bool true),(.int (181) 0),(.ref 243),.none,(.ref 244),(.ref 245),(.ref 246),(.int (510) 0),(.int (150) 0),(cp 511)]
def o146:Obj:=fo (fn "check_names" "Yard.check_names" (sub (top 36) 2) 3 [] .none .none .none (.str "boardglue.yard" 412) none (.ref 247) .none 0)
def o147:Obj:=⟨.none,none,(.func (fn "put_by" "Yard.put_by" (sub (top 36) 3) 0 [] .none .none .none .none none .none .none 0)),#[]⟩
def o148:Obj:=co #[(.str "put_by" 513),(.str "Yard.put_by" 514),(cp 515),(.int (157) 0),(.int (3) 0),z0,z0,(.int (3) 0),(.ref 249),(.bool true),(.int (181) 0),(.ref 250),.none,.none,.none,(.ref 251),(.int (516) 0),(.int (157) 0),(cp 517)]
def o149:Obj:=fo (fn "put_by" "Yard.put_by" (sub (top 36) 3) 3 [] .none .none .none (.str "boardglue.yard" 412) none (.ref 252) .none 0)
def o150:Obj:=⟨(.type "tuple"),none,(.seq #[(.str "self" 522),(.str "name" 523)] 0),#[]⟩
def o151:Obj:=⟨.none,none,(.func (fn "board_ever" "Yard.board_ever" (sub (top 36) 4) 0 [] .none .none .none .none none .none .none 0)),#[]⟩
def o152:Obj:=co #[(.str "board_ever" 519),(.str "Yard.board_ever" 520),(cp 521),(.int (173) 0),(.int (2) 0),z0,z0,(.int (3) 0),(.ref 254),(.bool true),(.int (181) 0),(.ref 255),.none,(.ref 256),(.ref 257),(.ref 258),(.int (524) 0),(.int (173) 0),(cp 525)]
def o153:Obj:=fo (fn "board_ever" "Yard.board_ever" (sub (top 36) 4) 3 [] .none .none .none (.str "boardglue.yard" 412) none (.ref 259) .none 0)
def o154:Obj:=⟨.none,none,(.func (fn "boards" "Yard.boards" (sub (top 36) 5) 0 [] .none .none .none .none none .none .none 0)),#[]⟩
def o155:Obj:=co #[(.str "boards" 527),(.str "Yard.boards" 528),(cp 529),(.int (176) 0),(.int (1) 0),z0,z0,(.int (3) 0),(.ref 261),(.bool true),(.int (181) 0),(.ref 262),.none,.none,.none,(.ref 263),(.int (530) 0),(.int (176) 0),(cp 531)]
def o156:Obj:=fo (fn "boards" "Yard.boards" (sub (top 36) 5) 3 [] .none .none .none (.str "boardglue.yard" 412) none (.ref 264) .none 0)
def o157:Obj:=⟨.none,none,(.func (fn "heap" "Yard.heap" (sub (top 36) 6) 0 [] .none .none .none .none none .none .none 0)),#[]⟩
def o158:Obj:=co #[(.str "heap" 533),(.str "Yard.heap" 534),(cp 535),(.int (179) 0),(.int (1) 0),z0,z0,(.int (3) 0),(.ref 266),(.bool true),(.int (181) 0),(.ref 267),.none,.none,.none,(.ref 268),(.int (536) 0),(.int (179) 0),(cp 537)]
def o159:Obj:=fo (fn "heap" "Yard.heap" (sub (top 36) 6) 3 [] .none .none .none (.str "boardglue.yard" 412) none (.ref 269) .none 0)
def o160:Obj:=⟨(.type "tuple"),none,(.seq #[(.str "self" 542)] 0),#[]⟩
def o161:Obj:=⟨.none,none,(.func (fn "log" "Yard.log" (sub (top 36) 7) 0 [] .none .none .none .none none .none .none 0)),#[]⟩
def o162:Obj:=co #[(.str "log" 539),(.str "Yard.log" 540),(cp 541),(.int (182) 0),(.int (1) 0),z0,z0,(.int (3) 0),(.ref 271),(.bool true),(.int (181) 0),(.ref 272),.none,(.ref 273),(.ref 274),(.ref 275),(.int (543) 0),(.int (182) 0),(cp 544)]
def o163:Obj:=fo (fn "log" "Yard.log" (sub (top 36) 7) 3 [] .none .none .none (.str "boardglue.yard" 412) none (.ref 276) .none 0)
def o164:Obj:=⟨(.type "tuple"),none,(.seq #[(.str "done" 546),(.str "known" 547),(.str "lying" 548),(.str "root" 549),(.str "turning" 550)] 0),#[]⟩
def o165 (P:Params):Obj:=⟨(.type "dict"),none,(.dict #[en P "__module__" 487 (.str "boardglue.yard" 412),en P "__firstlineno__" 491 (.int (126) 490),en P "__init__" 497 (.ref 236),en P "do" 503 (.ref 241),en P "check_names" 512 (.ref 248),en P "put_by" 518 (.ref 253),en P "board_ever" 526 (.ref 260),en P "boards" 532 (.ref 265),en P "heap" 538 (.ref 270),en P "log" 545 (.ref 277),en P "__static_attributes__" 551 (.ref 278),en P "__dict__" 553 (.ref 281),en P "__weakref__" 555 (.ref 282),en P "__doc__" 556 .none] 4),#[]⟩
def o166:Obj:=⟨(.type "type"),none,(.cls ⟨"Yard",[(.type "object")],[(.ref 280),(.type "object")],279,"Yard",true,[],[],false,none,false⟩),#[none,none,(some (.str "Yard" 480)),(some (.str "Yard" 488)),(some (.builtin "object.__new__")),(some (.bool true))]⟩
def o167:Obj:=⟨(.type "getset_descriptor"),none,(.fields #[(.str "__dict__" 552),(.ref 280),(.builtin "function.__dict__"),(.builtin "function.__dict__#set")]),#[]⟩
def o168:Obj:=⟨(.type "getset_descriptor"),none,(.fields #[(.str "__weakref__" 554),(.ref 280),(.builtin "ExceptionGroup.__weakref__"),.none]),#[]⟩
def o169:Obj:=⟨(.type "super"),none,(.fields #[(.ref 280),(.ref 280),(.ref 280)]),#[]⟩
def o170:Obj:=⟨(.type "builtin_function_or_method"),none,(.fields #[(.builtin "object.__init_subclass__"),(.ref 280)]),#[]⟩
def o171:Obj:=⟨(.type "tuple"),none,(.seq #[(.str "d" 564),(.str "heap" 565),(.str "plan" 566),(.str "turning" 567),(.str "yard" 568),(.str "deed" 569)] 0),#[]⟩
def o172:Obj:=⟨.none,none,(.func (fn "yard_behind" "yard_behind" (top 38) 0 [] .none .none .none .none none .none .none 0)),#[]⟩
def o173:Obj:=co #[(.str "yard_behind" 561),(.str "yard_behind" 562),(cp 563),(.int (185) 0),(.int (4) 0),z0,z0,(.int (3) 0),(.ref 285),(.bool true),(.int (181) 0),(.ref 286),.none,(.ref 287),(.ref 288),(.ref 289),(.int (570) 0),(.int (185) 0),(cp 571)]
def o174:Obj:=fo (fn "yard_behind" "yard_behind" (top 38) 3 [] .none .none .none (.str "boardglue.plans" 559) none (.ref 290) .none 0)
def o175:Obj:=⟨(.type "tuple"),none,(.seq #[(.str "d" 576),(.str "heap" 577),(.str "plan" 578),(.str "turning" 579)] 0),#[]⟩
def o176:Obj:=⟨.none,none,(.func (fn "walked" "walked" (top 39) 0 [] .none .none .none .none none .none .none 0)),#[]⟩
def o177:Obj:=co #[(.str "walked" 573),(.str "walked" 574),(cp 575),(.int (190) 0),(.int (4) 0),z0,z0,(.int (3) 0),(.ref 293),(.bool true),(.int (181) 0),(.ref 294),.none,(.ref 295),(.ref 296),(.ref 297),(.int (580) 0),(.int (190) 0),(cp 581)]
def o178:Obj:=fo (fn "walked" "walked" (top 39) 3 [] (.ref 292) .none .none (.str "boardglue.plans" 559) none (.ref 298) .none 0)
def o179:Obj:=⟨(.type "tuple"),none,(.seq #[(.str "yard" 586),(.str "deed" 587),(.str "names" 588),(.str "word" 589)] 0),#[]⟩
def o180:Obj:=⟨.none,none,(.func (fn "undoing" "undoing" (top 40) 0 [] .none .none .none .none none .none .none 0)),#[]⟩
def o181:Obj:=co #[(.str "undoing" 583),(.str "undoing" 584),(cp 585),(.int (192) 0),(.int (3) 0),z0,z0,(.int (3) 0),(.ref 300),(.bool true),(.int (181) 0),(.ref 301),.none,(.ref 302),(.ref 303),(.ref 304),(.int (590) 0),(.int (192) 0),(cp 591)]
def o182:Obj:=fo (fn "undoing" "undoing" (top 40) 3 [] .none .none .none (.str "boardglue.plans" 559) none (.ref 305) .none 0)
def o183:Obj:=⟨.none,none,(.func (fn "places_of" "places_of" (top 41) 0 [] .none .none .none .none none .none .none 0)),#[]⟩
def o184:Obj:=co #[(.str "places_of" 593),(.str "places_of" 594),(cp 595),(.int (207) 0),(.int (1) 0),z0,z0,(.int (3) 0),(.ref 307),(.bool true),(.int (181) 0),(.ref 308),.none,.none,.none,(.ref 309),(.int (596) 0),(.int (207) 0),(cp 597)]
def o185:Obj:=fo (fn "places_of" "places_of" (top 41) 3 [] .none .none .none (.str "boardglue.plans" 559) none (.ref 310) .none 0)
def o186:Obj:=⟨.none,none,(.func (fn "back" "back" (top 42) 0 [] .none .none .none .none none .none .none 0)),#[]⟩
def o187:Obj:=co #[(.str "back" 599),(.str "back" 600),(cp 601),(.int (212) 0),(.int (3) 0),z0,z0,(.int (3) 0),(.ref 312),(.bool true),(.int (181) 0),(.ref 313),.none,.none,.none,(.ref 314),(.int (602) 0),(.int (212) 0),(cp 603)]
def o188:Obj:=fo (fn "back" "back" (top 42) 3 [] .none .none .none (.str "boardglue.plans" 559) none (.ref 315) .none 0)
def o189:Obj:=⟨(.type "tuple"),none,(.seq #[(.str "_law_script" 610),(.str "_law_k" 611)] 0),#[]⟩
def o190:Obj:=⟨.none,none,(.func (fn "_law_cell" "_law_cell" (top 44) 0 [] .none .none .none .none none .none .none 0)),#[]⟩
def o191:Obj:=co #[(.str "_law_cell" 607),(.str "_law_cell" 608),(cp 609),(.int (230) 0),(.int (2) 0),z0,z0,(.int (3) 0),(.ref 317),(.bool true),(.int (181) 0),(.ref 318),.none,(.ref 319),(.ref 320),(.ref 321),(.int (612) 0),(.int (230) 0),(cp 613)]
def o192:Obj:=fo (fn "_law_cell" "_law_cell" (top 44) 3 [] .none .none .none (.str "law_boardglue_k35_whole_plans_turned_about" 605) none (.ref 322) .none 0)
def o193:Obj:=⟨(.type "tuple"),none,(.seq #[(.str "_law_found" 618)] 0),#[]⟩
def o194:Obj:=⟨.none,none,(.func (fn "_law_whole" "_law_whole" (top 45) 0 [] .none .none .none .none none .none .none 0)),#[]⟩
def o195:Obj:=co #[(.str "_law_whole" 615),(.str "_law_whole" 616),(cp 617),(.int (234) 0),(.int (1) 0),z0,z0,(.int (3) 0),(.ref 324),(.bool true),(.int (181) 0),(.ref 325),.none,(.ref 326),(.ref 327),(.ref 328),(.int (619) 0),(.int (234) 0),(cp 620)]
def o196:Obj:=fo (fn "_law_whole" "_law_whole" (top 45) 3 [] .none .none .none (.str "law_boardglue_k35_whole_plans_turned_about" 605) none (.ref 329) .none 0)
def o197:Obj:=⟨(.type "tuple"),none,(.seq #[(.str "_law_cell_here" 625),(.str "_law_k" 626),(.str "_law_number" 627)] 0),#[]⟩
def o198:Obj:=⟨.none,none,(.func (fn "_law_great" "_law_great" (top 46) 0 [] .none .none .none .none none .none .none 0)),#[]⟩
def o199:Obj:=co #[(.str "_law_great" 622),(.str "_law_great" 623),(cp 624),(.int (236) 0),(.int (2) 0),z0,z0,(.int (3) 0),(.ref 331),(.bool true),(.int (181) 0),(.ref 332),.none,(.ref 333),(.ref 334),(.ref 335),(.int (628) 0),(.int (236) 0),(cp 629)]
def o200:Obj:=fo (fn "_law_great" "_law_great" (top 46) 3 [] .none .none .none (.str "law_boardglue_k35_whole_plans_turned_about" 605) none (.ref 336) .none 0)
def o201:Obj:=⟨(.type "tuple"),none,(.seq #[(.str "_law_cell_here" 634),(.str "_law_many" 635),(.str "_law_found" 636),(.str "_law_number" 637),(.str "_law_k" 638)] 0),#[]⟩
def o202:Obj:=⟨.none,none,(.func (fn "_law_digits" "_law_digits" (top 47) 0 [] .none .none .none .none none .none .none 0)),#[]⟩
def o203:Obj:=co #[(.str "_law_digits" 631),(.str "_law_digits" 632),(cp 633),(.int (240) 0),(.int (2) 0),z0,z0,(.int (3) 0),(.ref 338),(.bool true),(.int (181) 0),(.ref 339),.none,(.ref 340),(.ref 341),(.ref 342),(.int (639) 0),(.int (240) 0),(cp 640)]
def o204:Obj:=fo (fn "_law_digits" "_law_digits" (top 47) 3 [] .none .none .none (.str "law_boardglue_k35_whole_plans_turned_about" 605) none (.ref 343) .none 0)
def o205:Obj:=⟨(.type "tuple"),none,(.seq #[(.str "_law_one" 645),(.str "_law_other" 646)] 0),#[]⟩
def o206:Obj:=⟨.none,none,(.func (fn "_law_divisor" "_law_divisor" (top 48) 0 [] .none .none .none .none none .none .none 0)),#[]⟩
def o207:Obj:=co #[(.str "_law_divisor" 642),(.str "_law_divisor" 643),(cp 644),(.int (250) 0),(.int (2) 0),z0,z0,(.int (3) 0),(.ref 345),(.bool true),(.int (181) 0),(.ref 346),.none,(.ref 347),(.ref 348),(.ref 349),(.int (647) 0),(.int (250) 0),(cp 648)]
def o208:Obj:=fo (fn "_law_divisor" "_law_divisor" (top 48) 3 [] .none .none .none (.str "law_boardglue_k35_whole_plans_turned_about" 605) none (.ref 350) .none 0)
def o209:Obj:=⟨(.type "tuple"),none,(.seq #[(.str "_law_a" 653),(.str "_law_b" 654),(.str "_law_n" 655),(.str "_law_share_here" 656)] 0),#[]⟩
def o210:Obj:=⟨.none,none,(.func (fn "_law_lowest" "_law_lowest" (top 49) 0 [] .none .none .none .none none .none .none 0)),#[]⟩
def o211:Obj:=co #[(.str "_law_lowest" 650),(.str "_law_lowest" 651),(cp 652),(.int (256) 0),(.int (3) 0),z0,z0,(.int (3) 0),(.ref 352),(.bool true),(.int (181) 0),(.ref 353),.none,(.ref 354),(.ref 355),(.ref 356),(.int (657) 0),(.int (256) 0),(cp 658)]
def o212:Obj:=fo (fn "_law_lowest" "_law_lowest" (top 49) 3 [] .none .none .none (.str "law_boardglue_k35_whole_plans_turned_about" 605) none (.ref 357) .none 0)
def o213:Obj:=⟨(.type "tuple"),none,(.seq #[(.str "_law_d" 663),(.str "_law_a" 664),(.str "_law_b" 665)] 0),#[]⟩
def o214:Obj:=⟨.none,none,(.func (fn "_law_sign" "_law_sign" (top 50) 0 [] .none .none .none .none none .none .none 0)),#[]⟩
def o215:Obj:=co #[(.str "_law_sign" 660),(.str "_law_sign" 661),(cp 662),(.int (261) 0),(.int (3) 0),z0,z0,(.int (3) 0),(.ref 359),(.bool true),(.int (181) 0),(.ref 360),.none,(.ref 361),(.ref 362),(.ref 363),(.int (666) 0),(.int (261) 0),(cp 667)]
def o216:Obj:=fo (fn "_law_sign" "_law_sign" (top 50) 3 [] .none .none .none (.str "law_boardglue_k35_whole_plans_turned_about" 605) none (.ref 364) .none 0)
def o217:Obj:=⟨(.type "tuple"),none,(.seq #[(.str "_law_one" 672),(.str "_law_other" 673),(.str "_law_sign_here" 674),(.str "_law_a" 675),(.str "_law_b" 676)] 0),#[]⟩
def o218:Obj:=⟨.none,none,(.func (fn "_law_plus" "_law_plus" (top 51) 0 [] .none .none .none .none none .none .none 0)),#[]⟩
def o219:Obj:=co #[(.str "_law_plus" 669),(.str "_law_plus" 670),(cp 671),(.int (269) 0),(.int (3) 0),z0,z0,(.int (3) 0),(.ref 366),(.bool true),(.int (181) 0),(.ref 367),.none,(.ref 368),(.ref 369),(.ref 370),(.int (677) 0),(.int (269) 0),(cp 678)]
def o220:Obj:=fo (fn "_law_plus" "_law_plus" (top 51) 3 [] .none .none .none (.str "law_boardglue_k35_whole_plans_turned_about" 605) none (.ref 371) .none 0)
def o221:Obj:=⟨(.type "tuple"),none,(.seq #[(.str "_law_one" 683),(.str "_law_top" 684),(.str "_law_bottom" 685)] 0),#[]⟩
def o222:Obj:=⟨.none,none,(.func (fn "_law_share" "_law_share" (top 52) 0 [] .none .none .none .none none .none .none 0)),#[]⟩
def o223:Obj:=co #[(.str "_law_share" 680),(.str "_law_share" 681),(cp 682),(.int (273) 0),(.int (3) 0),z0,z0,(.int (3) 0),(.ref 373),(.bool true),(.int (181) 0),(.ref 374),.none,(.ref 375),(.ref 376),(.ref 377),(.int (686) 0),(.int (273) 0),(cp 687)]
def o224:Obj:=fo (fn "_law_share" "_law_share" (top 52) 3 [] .none .none .none (.str "law_boardglue_k35_whole_plans_turned_about" 605) none (.ref 378) .none 0)
def o225:Obj:=⟨(.type "tuple"),none,(.seq #[(.str "_law_d" 692),(.str "_law_one" 693),(.str "_law_other" 694),(.str "_law_left" 695)] 0),#[]⟩
def o226:Obj:=⟨.none,none,(.func (fn "_law_below" "_law_below" (top 53) 0 [] .none .none .none .none none .none .none 0)),#[]⟩
def o227:Obj:=co #[(.str "_law_below" 689),(.str "_law_below" 690),(cp 691),(.int (275) 0),(.int (3) 0),z0,z0,(.int (3) 0),(.ref 380),(.bool true),(.int (181) 0),(.ref 381),.none,(.ref 382),(.ref 383),(.ref 384),(.int (696) 0),(.int (275) 0),(cp 697)]
def o228:Obj:=fo (fn "_law_below" "_law_below" (top 53) 3 [] .none .none .none (.str "law_boardglue_k35_whole_plans_turned_about" 605) none (.ref 385) .none 0)
def o229:Obj:=⟨.none,none,(.func (fn "_law_root" "_law_root" (top 54) 0 [] .none .none .none .none none .none .none 0)),#[]⟩
def o230:Obj:=co #[(.str "_law_root" 699),(.str "_law_root" 700),(cp 701),(.int (278) 0),(.int (2) 0),z0,z0,(.int (3) 0),(.ref 387),(.bool true),(.int (181) 0),(.ref 388),.none,.none,.none,(.ref 389),(.int (702) 0),(.int (278) 0),(cp 703)]
def o231:Obj:=fo (fn "_law_root" "_law_root" (top 54) 3 [] .none .none .none (.str "law_boardglue_k35_whole_plans_turned_about" 605) none (.ref 390) .none 0)
def o232:Obj:=⟨(.type "tuple"),none,(.seq #[(.str "_law_d" 708),(.str "_law_cell_here" 709),(.str "_law_at_here" 710),(.str "_law_digits_here" 711),(.str "_law_a" 712),(.str "_law_b" 713),(.str "_law_n" 714),(.str "_law_sign_here" 715)] 0),#[]⟩
def o233:Obj:=⟨.none,none,(.func (fn "_law_side" "_law_side" (top 55) 0 [] .none .none .none .none none .none .none 0)),#[]⟩
def o234:Obj:=co #[(.str "_law_side" 705),(.str "_law_side" 706),(cp 707),(.int (281) 0),(.int (3) 0),z0,z0,(.int (3) 0),(.ref 392),(.bool true),(.int (181) 0),(.ref 393),.none,(.ref 394),(.ref 395),(.ref 396),(.int (716) 0),(.int (281) 0),(cp 717)]
def o235:Obj:=fo (fn "_law_side" "_law_side" (top 55) 3 [] .none .none .none (.str "law_boardglue_k35_whole_plans_turned_about" 605) none (.ref 397) .none 0)
def o236:Obj:=⟨.none,none,(.func (fn "_law_heap" "_law_heap" (top 56) 0 [] .none .none .none .none none .none .none 0)),#[]⟩
def o237:Obj:=co #[(.str "_law_heap" 719),(.str "_law_heap" 720),(cp 721),(.int (294) 0),(.int (3) 0),z0,z0,(.int (3) 0),(.ref 399),(.bool true),(.int (181) 0),(.ref 400),.none,.none,.none,(.ref 401),(.int (722) 0),(.int (294) 0),(cp 723)]
def o238:Obj:=fo (fn "_law_heap" "_law_heap" (top 56) 3 [] .none .none .none (.str "law_boardglue_k35_whole_plans_turned_about" 605) none (.ref 402) .none 0)
def o239:Obj:=⟨(.type "tuple"),none,(.seq #[(.str "_law_deed_here" 728),(.str "_law_some" 729),(.str "_law_width" 730),(.str "_law_height" 731)] 0),#[]⟩
def o240:Obj:=⟨.none,none,(.func (fn "_law_new" "_law_new" (top 57) 0 [] .none .none .none .none none .none .none 0)),#[]⟩
def o241:Obj:=co #[(.str "_law_new" 725),(.str "_law_new" 726),(cp 727),(.int (308) 0),(.int (2) 0),z0,z0,(.int (3) 0),(.ref 404),(.bool true),(.int (181) 0),(.ref 405),.none,(.ref 406),(.ref 407),(.ref 408),(.int (732) 0),(.int (308) 0),(cp 733)]
def o242:Obj:=fo (fn "_law_new" "_law_new" (top 57) 3 [] .none .none .none (.str "law_boardglue_k35_whole_plans_turned_about" 605) none (.ref 409) .none 0)
def o243:Obj:=⟨(.type "tuple"),none,(.seq #[(.str "_law_d" 738),(.str "_law_digits_here" 739),(.str "_law_side_here" 740),(.str "_law_pool" 741),(.str "_law_at_here" 742),(.str "_law_bottom" 743)] 0),#[]⟩
def o244:Obj:=⟨.none,none,(.func (fn "_law_at" "_law_at" (top 58) 0 [] .none .none .none .none none .none .none 0)),#[]⟩
def o245:Obj:=co #[(.str "_law_at" 735),(.str "_law_at" 736),(cp 737),(.int (323) 0),(.int (4) 0),z0,z0,(.int (3) 0),(.ref 411),(.bool true),(.int (181) 0),(.ref 412),.none,(.ref 413),(.ref 414),(.ref 415),(.int (744) 0),(.int (323) 0),(cp 745)]
def o246:Obj:=fo (fn "_law_at" "_law_at" (top 58) 3 [] .none .none .none (.str "law_boardglue_k35_whole_plans_turned_about" 605) none (.ref 416) .none 0)
def o247:Obj:=⟨.none,none,(.func (fn "_law_deed" "_law_deed" (top 59) 0 [] .none .none .none .none none .none .none 0)),#[]⟩
def o248:Obj:=co #[(.str "_law_deed" 747),(.str "_law_deed" 748),(cp 749),(.int (329) 0),(.int (4) 0),z0,z0,(.int (3) 0),(.ref 418),(.bool true),(.int (181) 0),(.ref 419),.none,.none,.none,(.ref 420),(.int (750) 0),(.int (329) 0),(cp 751)]
def o249:Obj:=fo (fn "_law_deed" "_law_deed" (top 59) 3 [] .none .none .none (.str "law_boardglue_k35_whole_plans_turned_about" 605) none (.ref 421) .none 0)
def o250:Obj:=⟨.none,none,(.func (fn "_law_done" "_law_done" (top 60) 0 [] .none .none .none .none none .none .none 0)),#[]⟩
def o251:Obj:=co #[(.str "_law_done" 753),(.str "_law_done" 754),(cp 755),(.int (342) 0),(.int (3) 0),z0,z0,(.int (3) 0),(.ref 423),(.bool true),(.int (181) 0),(.ref 424),.none,.none,.none,(.ref 425),(.int (756) 0),(.int (342) 0),(cp 757)]
def o252:Obj:=fo (fn "_law_done" "_law_done" (top 60) 3 [] .none .none .none (.str "law_boardglue_k35_whole_plans_turned_about" 605) none (.ref 426) .none 0)
def o253:Obj:=⟨(.type "tuple"),none,(.seq #[(.str "_law_heap_here" 762),(.str "_law_lying" 763),(.str "_law_k" 764)] 0),#[]⟩
def o254:Obj:=⟨.none,none,(.func (fn "_law_begin" "_law_begin" (top 61) 0 [] .none .none .none .none none .none .none 0)),#[]⟩
def o255:Obj:=co #[(.str "_law_begin" 759),(.str "_law_begin" 760),(cp 761),(.int (353) 0),(.int (1) 0),z0,z0,(.int (3) 0),(.ref 428),(.bool true),(.int (181) 0),(.ref 429),.none,(.ref 430),(.ref 431),(.ref 432),(.int (765) 0),(.int (353) 0),(cp 766)]
def o256:Obj:=fo (fn "_law_begin" "_law_begin" (top 61) 3 [] .none .none .none (.str "law_boardglue_k35_whole_plans_turned_about" 605) none (.ref 433) .none 0)
def o257:Obj:=⟨(.type "tuple"),none,(.seq #[(.str "_law_found" 771)] 0),#[]⟩
def o258:Obj:=⟨.none,none,(.func (fn "_law_is_length" "_law_is_length" (top 62) 0 [] .none .none .none .none none .none .none 0)),#[]⟩
def o259:Obj:=co #[(.str "_law_is_length" 768),(.str "_law_is_length" 769),(cp 770),(.int (358) 0),(.int (1) 0),z0,z0,(.int (3) 0),(.ref 435),(.bool true),(.int (181) 0),(.ref 436),.none,(.ref 437),(.ref 438),(.ref 439),(.int (772) 0),(.int (358) 0),(cp 773)]
def o260:Obj:=fo (fn "_law_is_length" "_law_is_length" (top 62) 3 [] .none .none .none (.str "law_boardglue_k35_whole_plans_turned_about" 605) none (.ref 440) .none 0)
def o261:Obj:=⟨.none,none,(.func (fn "_law_plan" "_law_plan" (top 63) 0 [] .none .none .none .none none .none .none 0)),#[]⟩
def o262:Obj:=co #[(.str "_law_plan" 775),(.str "_law_plan" 776),(cp 777),(.int (362) 0),(.int (5) 0),z0,z0,(.int (3) 0),(.ref 442),(.bool true),(.int (181) 0),(.ref 443),.none,.none,.none,(.ref 444),(.int (778) 0),(.int (362) 0),(cp 779)]
def o263:Obj:=fo (fn "_law_plan" "_law_plan" (top 63) 3 [] .none .none .none (.str "law_boardglue_k35_whole_plans_turned_about" 605) none (.ref 445) .none 0)
def o264:Obj:=⟨(.type "tuple"),none,(.seq #[(.str "_law_d" 784),(.str "_law_deed_here" 785),(.str "_law_lying" 786),(.str "_law_turning" 787),(.str "_law_side_here" 788)] 0),#[]⟩
def o265:Obj:=⟨.none,none,(.func (fn "_law_fits" "_law_fits" (top 64) 0 [] .none .none .none .none none .none .none 0)),#[]⟩
def o266:Obj:=co #[(.str "_law_fits" 781),(.str "_law_fits" 782),(cp 783),(.int (372) 0),(.int (4) 0),z0,z0,(.int (3) 0),(.ref 447),(.bool true),(.int (181) 0),(.ref 448),.none,(.ref 449),(.ref 450),(.ref 451),(.int (789) 0),(.int (372) 0),(cp 790)]
def o267:Obj:=fo (fn "_law_fits" "_law_fits" (top 64) 3 [] .none .none .none (.str "law_boardglue_k35_whole_plans_turned_about" 605) none (.ref 452) .none 0)
def o268:Obj:=⟨.none,none,(.func (fn "_law_walked" "_law_walked" (top 65) 0 [] .none .none .none .none none .none .none 0)),#[]⟩
def o269:Obj:=co #[(.str "_law_walked" 792),(.str "_law_walked" 793),(cp 794),(.int (390) 0),(.int (4) 0),z0,z0,(.int (3) 0),(.ref 454),(.bool true),(.int (181) 0),(.ref 455),.none,.none,.none,(.ref 456),(.int (795) 0),(.int (390) 0),(cp 796)]
def o270:Obj:=fo (fn "_law_walked" "_law_walked" (top 65) 3 [] .none .none .none (.str "law_boardglue_k35_whole_plans_turned_about" 605) none (.ref 457) .none 0)
def o271:Obj:=⟨.none,none,(.func (fn "_law_right" "_law_right" (top 66) 0 [] .none .none .none .none none .none .none 0)),#[]⟩
def o272:Obj:=co #[(.str "_law_right" 798),(.str "_law_right" 799),(cp 800),(.int (397) 0),(.int (5) 0),z0,z0,(.int (3) 0),(.ref 459),(.bool true),(.int (181) 0),(.ref 460),.none,.none,.none,(.ref 461),(.int (801) 0),(.int (397) 0),(cp 802)]
def o273:Obj:=fo (fn "_law_right" "_law_right" (top 66) 3 [] .none .none .none (.str "law_boardglue_k35_whole_plans_turned_about" 605) none (.ref 462) .none 0)
def o274:Obj:=⟨.none,none,(.func (fn "law" "law" (top 67) 0 [] .none .none .none .none none .none .none 0)),#[]⟩
def o275:Obj:=co #[(.str "law" 804),(.str "law" 805),(cp 806),(.int (409) 0),(.int (1) 0),z0,z0,(.int (3) 0),(.ref 464),(.bool true),(.int (181) 0),(.ref 465),.none,.none,.none,(.ref 466),(.int (807) 0),(.int (409) 0),(cp 808)]
def o276:Obj:=fo (fn "law" "law" (top 67) 3 [] .none .none .none (.str "law_boardglue_k35_whole_plans_turned_about" 605) none (.ref 467) .none 0)
def T1 (P:Params):BT:=(.node (boot_o_0 P) (.node (boot_o_1 P) (.node (o4 P) (.node (boot_o_7 P) (.node (o0) (.node (o16) (.node (o1) (.node (o0) (.node (o1) .nil .nil) (.node (o0) .nil .nil)) (.node (o112) (.node (o189) .nil .nil) (.node (o0) .nil .nil))) (.node (o56) (.node (o93) (.node (o171) .nil .nil) (.node (o244) .nil .nil)) (.node (o131) (.node (o208) .nil .nil) .nil))) (.node (o20) (.node (o45 P) (.node (o83) (.node (o0) .nil .nil) (.node (o0) .nil .nil)) (.node (o121) (.node (o198) .nil .nil) (.node (o273) .nil .nil))) (.node (o1) (.node (o0) (.node (o0) .nil .nil) (.node (o0) .nil .nil)) (.node (o140) (.node (o1) .nil .nil) .nil)))) (.node (o11) (.node (o1) (.node (o20) (.node (o0) (.node (o154) .nil .nil) (.node (o231) .nil .nil)) (.node (o0) (.node (o0) .nil .nil) (.node (o1) .nil .nil))) (.node (o0) (.node (o0) (.node (o175) .nil .nil) (.node (o0) .nil .nil)) (.node (o136) (.node (o0) .nil .nil) .nil))) (.node (o31 P) (.node (o1) (.node (o88) (.node (o165 P) .nil .nil) (.node (o0) .nil .nil)) (.node (o126) (.node (o203) .nil .nil) .nil)) (.node (o69) (.node (o1) (.node (o185) .nil .nil) (.node (o258) .nil .nil)) (.node (o145) (.node (o221) .nil .nil) .nil))))) (.node (o0) (.node (o7) (.node (o20) (.node (o38 P) (.node (o77) (.node (o152) .nil .nil) (.node (o0) .nil .nil)) (.node (o115) (.node (o192) .nil .nil) (.node (o265) .nil .nil))) (.node (o0) (.node (o0) (.node (o174) .nil .nil) (.node (o1) .nil .nil)) (.node (o0) (.node (o0) .nil .nil) .nil))) (.node (o1) (.node (o20) (.node (o1) (.node (o161) .nil .nil) (.node (o238) .nil .nil)) (.node (o1) (.node (o1) .nil .nil) (.node (o275) .nil .nil))) (.node (o67) (.node (o105) (.node (o0) .nil .nil) (.node (o0) .nil .nil)) (.node (o1) (.node (o219) .nil .nil) .nil)))) (.node (o13) (.node (o24 P) (.node (o1) (.node (o0) (.node (o1) .nil .nil) (.node (o0) .nil .nil)) (.node (o0) (.node (o0) .nil .nil) (.node (o0) .nil .nil))) (.node (o62) (.node (o100) (.node (o178) .nil .nil) (.node (o252) .nil .nil)) (.node (o138) (.node (o214) .nil .nil) .nil))) (.node (o20) (.node (o52 P) (.node (o90) (.node (o169) .nil .nil) (.node (o0) .nil .nil)) (.node (o128) (.node (o205) .nil .nil) .nil)) (.node (o72) (.node (o110) (.node (o187) .nil .nil) (.node (o1) .nil .nil)) (.node (o147) (.node (o224) .nil .nil) .nil)))))) (.node (boot_o_5 P) (.node (boot_o_9 P) (.node (o6) (.node (o18) (.node (o37) (.node (o75) (.node (o0) .nil .nil) (.node (o227) .nil .nil)) (.node (o113) (.node (o190) .nil .nil) (.node (o264) .nil .nil))) (.node (o1) (.node (o1) (.node (o172) .nil .nil) (.node (o246) .nil .nil)) (.node (o11) (.node (o1) .nil .nil) .nil))) (.node (o28 P) (.node (o47) (.node (o85) (.node (o160) .nil .nil) (.node (o236) .nil .nil)) (.node (o123) (.node (o200) .nil .nil) (.node (o1) .nil .nil))) (.node (o0) (.node (o104) (.node (o181) .nil .nil) (.node (o255) .nil .nil)) (.node (o142) (.node (o0) .nil .nil) .nil)))) (.node (o0) (.node (o23) (.node (o42 P) (.node (o80) (.node (o156) .nil .nil) (.node (o1) .nil .nil)) (.node (o118) (.node (o195) .nil .nil) (.node (o269) .nil .nil))) (.node (o61) (.node (o98) (.node (o176) .nil .nil) (.node (o250) .nil .nil)) (.node (o1) (.node (o213) .nil .nil) .nil))) (.node (o33) (.node (o51) (.node (o0) (.node (o167) .nil .nil) (.node (o241) .nil .nil)) (.node (o0) (.node (o0) .nil .nil) .nil)) (.node (o70) (.node (o0) (.node (o1) .nil .nil) (.node (o260) .nil .nil)) (.node (o0) (.node (o222) .nil .nil) .nil))))) (.node (o2) (.node (o9) (.node (o21 P) (.node (o40) (.node (o1) (.node (o0) .nil .nil) (.node (o229) .nil .nil)) (.node (o1) (.node (o1) .nil .nil) (.node (o267) .nil .nil))) (.node (o59) (.node (o96) (.node (o0) .nil .nil) (.node (o248) .nil .nil)) (.node (o134) (.node (o211) .nil .nil) .nil))) (.node (o30) (.node (o49 P) (.node (o0) (.node (o163) .nil .nil) (.node (o1) .nil .nil)) (.node (o0) (.node (o0) .nil .nil) .nil)) (.node (o0) (.node (o107) (.node (o183) .nil .nil) (.node (o257) .nil .nil)) (.node (o0) (.node (o0) .nil .nil) .nil)))) (.node (o0) (.node (o26) (.node (o44) (.node (o82) (.node (o158) .nil .nil) (.node (o234) .nil .nil)) (.node (o120) (.node (o197) .nil .nil) (.node (o271) .nil .nil))) (.node (o64) (.node (o102) (.node (o1) .nil .nil) (.node (o1) .nil .nil)) (.node (o0) (.node (o216) .nil .nil) .nil))) (.node (o35 P) (.node (o54) (.node (o91) (.node (o0) .nil .nil) (.node (o243) .nil .nil)) (.node (o129) (.node (o206) .nil .nil) .nil)) (.node (o1) (.node (o0) (.node (o0) .nil .nil) (.node (o262) .nil .nil)) (.node (o149) (.node (o1) .nil .nil) .nil))))))) (.node (boot_o_2 P) (.node (boot_o_4 P) (.node (boot_o_8 P) (.node (o1) (.node (o17) (.node (o36) (.node (o74) (.node (o150) .nil .nil) (.node (o226) .nil .nil)) (.node (o0) (.node (o0) .nil .nil) (.node (o1) .nil .nil))) (.node (o0) (.node (o0) (.node (o0) .nil .nil) (.node (o245) .nil .nil)) (.node (o0) (.node (o0) .nil .nil) .nil))) (.node (o11) (.node (o46) (.node (o84) (.node (o1) .nil .nil) (.node (o1) .nil .nil)) (.node (o122) (.node (o199) .nil .nil) (.node (o0) .nil .nil))) (.node (o65) (.node (o1) (.node (o180) .nil .nil) (.node (o254) .nil .nil)) (.node (o141) (.node (o217) .nil .nil) .nil)))) (.node (o12 P) (.node (o22) (.node (o11) (.node (o79) (.node (o155) .nil .nil) (.node (o0) .nil .nil)) (.node (o117) (.node (o194) .nil .nil) (.node (o268) .nil .nil))) (.node (o1) (.node (o1) (.node (o0) .nil .nil) (.node (o1) .nil .nil)) (.node (o0) (.node (o1) .nil .nil) .nil))) (.node (o32) (.node (o50) (.node (o89) (.node (o166) .nil .nil) (.node (o240) .nil .nil)) (.node (o127) (.node (o204) .nil .nil) .nil)) (.node (o0) (.node (o108) (.node (o0) .nil .nil) (.node (o259) .nil .nil)) (.node (o146) (.node (o0) .nil .nil) .nil))))) (.node (o5) (.node (o8) (.node (o11) (.node (o39) (.node (o0) (.node (o153) .nil .nil) (.node (o1) .nil .nil)) (.node (o0) (.node (o0) .nil .nil) (.node (o266) .nil .nil))) (.node (o58) (.node (o95) (.node (o136) .nil .nil) (.node (o247) .nil .nil)) (.node (o133) (.node (o210) .nil .nil) .nil))) (.node (o29) (.node (o11) (.node (o86) (.node (o162) .nil .nil) (.node (o0) .nil .nil)) (.node (o124) (.node (o201) .nil .nil) (.node (o276) .nil .nil))) (.node (o68) (.node (o106) (.node (o1) .nil .nil) (.node (o1) .nil .nil)) (.node (o143) (.node (o220) .nil .nil) .nil)))) (.node (o14) (.node (o25) (.node (o43) (.node (o1) (.node (o157) .nil .nil) (.node (o233) .nil .nil)) (.node (o1) (.node (o1) .nil .nil) (.node (o1) .nil .nil))) (.node (o63) (.node (o101) (.node (o0) .nil .nil) (.node (o0) .nil .nil)) (.node (o139) (.node (o215) .nil .nil) .nil))) (.node (o11) (.node (o53) (.node (o0) (.node (o170) .nil .nil) (.node (o1) .nil .nil)) (.node (o0) (.node (o0) .nil .nil) .nil)) (.node (o0) (.node (o111) (.node (o188) .nil .nil) (.node (o261) .nil .nil)) (.node (o148) (.node (o0) .nil .nil) .nil)))))) (.node (boot_o_6 P) (.node (boot_o_10 P) (.node (o0) (.node (o19) (.node (o0) (.node (o76) (.node (o151) .nil .nil) (.node (o228) .nil .nil)) (.node (o114) (.node (o191) .nil .nil) (.node (o0) .nil .nil))) (.node (o57) (.node (o94) (.node (o173) .nil .nil) (.node (o0) .nil .nil)) (.node (o132 P) (.node (o209) .nil .nil) .nil))) (.node (o0) (.node (o48) (.node (o0) (.node (o0) .nil .nil) (.node (o237) .nil .nil)) (.node (o0) (.node (o0) .nil .nil) (.node (o274) .nil .nil))) (.node (o66) (.node (o0) (.node (o182) .nil .nil) (.node (o256) .nil .nil)) (.node (o0) (.node (o218) .nil .nil) .nil)))) (.node (o1) (.node (o0) (.node (o0) (.node (o81) (.node (o0) .nil .nil) (.node (o232) .nil .nil)) (.node (o119) (.node (o196) .nil .nil) (.node (o270) .nil .nil))) (.node (o0) (.node (o99) (.node (o177) .nil .nil) (.node (o251) .nil .nil)) (.node (o137) (.node (o0) .nil .nil) .nil))) (.node (o34) (.node (o0) (.node (o1) (.node (o168) .nil .nil) (.node (o242) .nil .nil)) (.node (o1) (.node (o1) .nil .nil) .nil)) (.node (o71) (.node (o109) (.node (o186) .nil .nil) (.node (o0) .nil .nil)) (.node (o1) (.node (o223) .nil .nil) .nil))))) (.node (o3) (.node (o10) (.node (o0) (.node (o41) (.node (o78) (.node (o1) .nil .nil) (.node (o230) .nil .nil)) (.node (o116) (.node (o193) .nil .nil) (.node (o0) .nil .nil))) (.node (o60) (.node (o97) (.node (o1) .nil .nil) (.node (o249) .nil .nil)) (.node (o135) (.node (o212) .nil .nil) .nil))) (.node (o0) (.node (o0) (.node (o87) (.node (o164) .nil .nil) (.node (o239) .nil .nil)) (.node (o125) (.node (o202) .nil .nil) .nil)) (.node (o1) (.node (o0) (.node (o184) .nil .nil) (.node (o0) .nil .nil)) (.node (o144) (.node (o1) .nil .nil) .nil)))) (.node (o15 P) (.node (o27) (.node (o0) (.node (o0) (.node (o159) .nil .nil) (.node (o235) .nil .nil)) (.node (o0) (.node (o0) .nil .nil) (.node (o272) .nil .nil))) (.node (o0) (.node (o103) (.node (o179) .nil .nil) (.node (o253) .nil .nil)) (.node (o1) (.node (o0) .nil .nil) .nil))) (.node (o0) (.node (o55) (.node (o92) (.node (o1) .nil .nil) (.node (o0) .nil .nil)) (.node (o130) (.node (o207) .nil .nil) .nil)) (.node (o73) (.node (o1) (.node (o1) .nil .nil) (.node (o263) .nil .nil)) (.node (o0) (.node (o225) .nil .nil) .nil))))))))
theorem pc0' (w:World):(fun os=>PySem.W.Fast.tw10110043849684766642 PySem.W.Fast.tw14364793385576792824 p w m0 ann (nat_lit 1) (nat_lit 3264) (⟨T0 w.params,nat_lit 15,lf0,⟨[]⟩,dr1,nat_lit 187,os⟩:SharedT) (PySem.W.piecesOf ((b.drop 0).take 68) env cE ⟨0,0,0,0⟩ B))=fun os=>some (Flow.next,(⟨T1 w.params,nat_lit 469,lf0,⟨[]⟩,dr1,nat_lit 810,os⟩:SharedT),cE,⟨409,0,423,102⟩):=by kernel_rfl
theorem pc0 (w:World) (os:OsState):segRun treeTable p w m0 ann (nat_lit 1) (nat_lit 3264) (SharedT.abs (⟨T0 w.params,nat_lit 15,lf0,⟨[]⟩,dr1,nat_lit 187,os⟩:SharedT)) (piecesOf ((b.drop 0).take 68) env cE ⟨0,0,0,0⟩ B)=some (Flow.next,SharedT.abs (⟨T1 w.params,nat_lit 469,lf0,⟨[]⟩,dr1,nat_lit 810,os⟩:SharedT),cE,⟨409,0,423,102⟩):=by
  refine segRun_of ?_
  rw [PySem.W.Fast.te10110043849684766642,PySem.W.Fast.te14364793385576792824]
  exact congrFun (pc0' w) os
def H1 (P:Params):Heap:=⟨⟨[boot_o_0 P,boot_o_1 P,boot_o_2 P,o4 P,boot_o_4 P,boot_o_5 P,boot_o_6 P,boot_o_7 P,boot_o_8 P,boot_o_9 P,boot_o_10 P,o0,o5,o2,o3,o0,o1,o6,o0,o7,o8,o9,o10,o11,o12 P,o0,o1,o13,o14,o0,o15 P,o16,o17,o18,o19,o20,o11,o21 P,o0,o1,o22,o23,o0,o24 P,o25,o26,o27,o20,o11,o28 P,o0,o1,o29,o30,o0,o31 P,o32,o33,o34,o20,o11,o35 P,o0,o1,o36,o37,o0,o38 P,o39,o40,o41,o20,o11,o42 P,o0,o1,o43,o44,o0,o45 P,o46,o47,o48,o20,o11,o49 P,o0,o1,o50,o51,o0,o52 P,o53,o54,o55,o56,o0,o1,o57,o0,o58,o59,o60,o0,o1,o61,o0,o62,o63,o64,o0,o1,o65,o0,o66,o67,o68,o0,o1,o69,o0,o70,o71,o72,o0,o1,o73,o0,o74,o75,o76,o77,o0,o1,o78,o0,o79,o80,o81,o0,o1,o82,o0,o83,o84,o85,o0,o1,o86,o0,o87,o88,o89,o0,o1,o90,o0,o91,o92,o93,o0,o1,o94,o0,o95,o96,o97,o0,o1,o98,o99,o100,o101,o102,o103,o0,o1,o104,o0,o105,o106,o107,o0,o1,o108,o0,o109,o110,o111,o0,o1,o112,o0,o113,o114,o115,o0,o1,o116,o0,o117,o118,o119,o0,o1,o120,o0,o121,o122,o123,o0,o1,o124,o0,o125,o126,o127,o0,o1,o128,o0,o129,o130,o131,o0,o11,o132 P,o0,o133,o134,o135,o136,o0,o1,o137,o138,o139,o0,o1,o140,o141,o142,o0,o1,o143,o0,o144,o145,o146,o0,o1,o147,o148,o149,o0,o1,o150,o0,o151,o152,o153,o0,o1,o154,o155,o156,o0,o1,o157,o158,o159,o0,o1,o160,o0,o161,o162,o163,o164,o165 P,o166,o167,o168,o169,o170,o0,o1,o171,o0,o172,o173,o174,o136,o0,o1,o175,o0,o176,o177,o178,o0,o1,o179,o0,o180,o181,o182,o0,o1,o183,o184,o185,o0,o1,o186,o187,o188,o0,o1,o189,o0,o190,o191,o192,o0,o1,o193,o0,o194,o195,o196,o0,o1,o197,o0,o198,o199,o200,o0,o1,o201,o0,o202,o203,o204,o0,o1,o205,o0,o206,o207,o208,o0,o1,o209,o0,o210,o211,o212,o0,o1,o213,o0,o214,o215,o216,o0,o1,o217,o0,o218,o219,o220,o0,o1,o221,o0,o222,o223,o224,o0,o1,o225,o0,o226,o227,o228,o0,o1,o229,o230,o231,o0,o1,o232,o0,o233,o234,o235,o0,o1,o236,o237,o238,o0,o1,o239,o0,o240,o241,o242,o0,o1,o243,o0,o244,o245,o246,o0,o1,o247,o248,o249,o0,o1,o250,o251,o252,o0,o1,o253,o0,o254,o255,o256,o0,o1,o257,o0,o258,o259,o260,o0,o1,o261,o262,o263,o0,o1,o264,o0,o265,o266,o267,o0,o1,o268,o269,o270,o0,o1,o271,o272,o273,o0,o1,o274,o275,o276]⟩,lf0⟩
theorem fin' (w:World):(fun os=>PySem.W.Fast.tw14082659384304107361 PySem.W.Fast.tw14364793385576792824 p w m0 ann (nat_lit 2) (SharedT.abs (⟨T1 w.params,nat_lit 469,lf0,⟨[]⟩,dr1,nat_lit 810,os⟩:SharedT)) (Thread.mk (PySem.W.doneF Flow.next) cE ⟨409,0,423,102⟩ B))=fun os=>some (⟨H1 w.params,⟨[]⟩,dr1,nat_lit 810,os⟩:Shared):=by kernel_rfl
theorem fin (w:World) (os:OsState):topRun treeTable p w m0 ann (nat_lit 2) (SharedT.abs (⟨T1 w.params,nat_lit 469,lf0,⟨[]⟩,dr1,nat_lit 810,os⟩:SharedT)) (Thread.mk (doneF Flow.next) cE ⟨409,0,423,102⟩ B)=some (⟨H1 w.params,⟨[]⟩,dr1,nat_lit 810,os⟩:Shared):=by
  rw [PySem.W.Fast.te14082659384304107361,PySem.W.Fast.te14364793385576792824]
  exact congrFun (fin' w) os
def as:List Addr:=[2,3,15,17,18,20,21,22,29,30,31,32,35,42,43,44,47,54,55,56,59,66,67,68,71,78,79,80,83,90,91,92,95,96,98,99,101,102,103,105,106,108,109,110,112,113,115,116,117,119,120,122,123,124,126,127,129,130,131,132,134,135,137,138,139,141,142,144,145,146,148,149,151,152,153,155,156,158,159,160,162,163,165,166,167,170,171,172,173,174,175,177,178,180,181,182,184,185,187,188,189,191,192,194,195,196,198,199,201,202,203,205,206,208,209,210,212,213,215,216,217,219,220,222,223,231,232,235,236,237,240,241,242,244,245,247,248,249,252,253,254,256,257,259,260,261,264,265,266,269,270,271,273,274,276,277,278,279,280,281,282,285,287,288,290,291,292,293,295,296,298,299,300,302,303,305,306,307,310,311,312,315,316,317,319,320,322,323,324,326,327,329,330,331,333,334,336,337,338,340,341,343,344,345,347,348,350,351,352,354,355,357,358,359,361,362,364,365,366,368,369,371,372,373,375,376,378,379,380,382,383,385,386,387,390,391,392,394,395,397,398,399,402,403,404,406,407,409,410,411,413,414,416,417,418,421,422,423,426,427,428,430,431,433,434,435,437,438,440,441,442,445,446,447,449,450,452,453,454,457,458,459,462,463,464,467,468]
def K (P:Params):Frag:=[(2,boot_o_2 P),(3,o4 P),(15,o0),(17,o6),(18,o0),(20,o8),(21,o9),(22,o10),(29,o0),(30,o15 P),(31,o16),(32,o17),(35,o20),(42,o0),(43,o24 P),(44,o25),(47,o20),(54,o0),(55,o31 P),(56,o32),(59,o20),(66,o0),(67,o38 P),(68,o39),(71,o20),(78,o0),(79,o45 P),(80,o46),(83,o20),(90,o0),(91,o52 P),(92,o53),(95,o56),(96,o0),(98,o57),(99,o0),(101,o59),(102,o60),(103,o0),(105,o61),(106,o0),(108,o63),(109,o64),(110,o0),(112,o65),(113,o0),(115,o67),(116,o68),(117,o0),(119,o69),(120,o0),(122,o71),(123,o72),(124,o0),(126,o73),(127,o0),(129,o75),(130,o76),(131,o77),(132,o0),(134,o78),(135,o0),(137,o80),(138,o81),(139,o0),(141,o82),(142,o0),(144,o84),(145,o85),(146,o0),(148,o86),(149,o0),(151,o88),(152,o89),(153,o0),(155,o90),(156,o0),(158,o92),(159,o93),(160,o0),(162,o94),(163,o0),(165,o96),(166,o97),(167,o0),(170,o99),(171,o100),(172,o101),(173,o102),(174,o103),(175,o0),(177,o104),(178,o0),(180,o106),(181,o107),(182,o0),(184,o108),(185,o0),(187,o110),(188,o111),(189,o0),(191,o112),(192,o0),(194,o114),(195,o115),(196,o0),(198,o116),(199,o0),(201,o118),(202,o119),(203,o0),(205,o120),(206,o0),(208,o122),(209,o123),(210,o0),(212,o124),(213,o0),(215,o126),(216,o127),(217,o0),(219,o128),(220,o0),(222,o130),(223,o131),(231,o136),(232,o0),(235,o138),(236,o139),(237,o0),(240,o141),(241,o142),(242,o0),(244,o143),(245,o0),(247,o145),(248,o146),(249,o0),(252,o148),(253,o149),(254,o0),(256,o150),(257,o0),(259,o152),(260,o153),(261,o0),(264,o155),(265,o156),(266,o0),(269,o158),(270,o159),(271,o0),(273,o160),(274,o0),(276,o162),(277,o163),(278,o164),(279,o165 P),(280,o166),(281,o167),(282,o168),(285,o0),(287,o171),(288,o0),(290,o173),(291,o174),(292,o136),(293,o0),(295,o175),(296,o0),(298,o177),(299,o178),(300,o0),(302,o179),(303,o0),(305,o181),(306,o182),(307,o0),(310,o184),(311,o185),(312,o0),(315,o187),(316,o188),(317,o0),(319,o189),(320,o0),(322,o191),(323,o192),(324,o0),(326,o193),(327,o0),(329,o195),(330,o196),(331,o0),(333,o197),(334,o0),(336,o199),(337,o200),(338,o0),(340,o201),(341,o0),(343,o203),(344,o204),(345,o0),(347,o205),(348,o0),(350,o207),(351,o208),(352,o0),(354,o209),(355,o0),(357,o211),(358,o212),(359,o0),(361,o213),(362,o0),(364,o215),(365,o216),(366,o0),(368,o217),(369,o0),(371,o219),(372,o220),(373,o0),(375,o221),(376,o0),(378,o223),(379,o224),(380,o0),(382,o225),(383,o0),(385,o227),(386,o228),(387,o0),(390,o230),(391,o231),(392,o0),(394,o232),(395,o0),(397,o234),(398,o235),(399,o0),(402,o237),(403,o238),(404,o0),(406,o239),(407,o0),(409,o241),(410,o242),(411,o0),(413,o243),(414,o0),(416,o245),(417,o246),(418,o0),(421,o248),(422,o249),(423,o0),(426,o251),(427,o252),(428,o0),(430,o253),(431,o0),(433,o255),(434,o256),(435,o0),(437,o257),(438,o0),(440,o259),(441,o260),(442,o0),(445,o262),(446,o263),(447,o0),(449,o264),(450,o0),(452,o266),(453,o267),(454,o0),(457,o269),(458,o270),(459,o0),(462,o272),(463,o273),(464,o0),(467,o275),(468,o276)]
theorem asK (P:Params):as=(K P).map (·.1):=by kernel_rfl
theorem at_ {w:World} {n N:Nat} {s s' r:Shared} {i k:Nat} {pos p':Pos} (h:segRun treeTable p w m0 ann 1 n s (piecesOf ((b.drop i).take k) env cE pos B)=some (.next,s',cE,p')) (g:topRun treeTable p w m0 ann N s' (restOf (b.drop (i + k)) env cE p' B)=some r):topRun treeTable p w m0 ann (n + N) s (restOf (b.drop i) env cE pos B)=some r:=by
  have z:=piece_app h g
  rwa [← List.drop_drop,List.take_append_drop] at z
theorem bend:b.drop 68=[]:=by kernel_rfl
theorem run (w:World) (os:OsState):topRun treeTable p w m0 ann (12 + (1 + (3264 + 2))) (⟨boot_heap w.params,⟨[]⟩,boot_drawn,boot_toks,os⟩:Shared) (topStub p)=some (⟨H1 w.params,⟨[]⟩,dr1,nat_lit 810,os⟩:Shared):=go_top (pre w os) (piece_block (blk w os) (show topRun treeTable p w m0 ann _ _ (restOf (b.drop 0) env cE _ B)=_ from (at_ (i:=0) (k:=68) (pc0 w os) (by rw [show b.drop 68=[] from bend]; exact piece_nil (fin w os)))))
theorem size (w:World):((boot_heap w.params).isNs mainGlobals && (⟨[]⟩:Array GenState).size == 0,(boot_heap w.params).objs.size,(boot_heap w.params).nsMap mainGlobals "__annotations__")=(true,m0,ann):=by kernel_rfl
def qv:Program:=view p [67]
def loose:List Str:=[Str.ofString "_wall",Str.ofString "YardError",Str.ofString "NoLength",Str.ofString "NoDeed",Str.ofString "NoName",Str.ofString "Grain",Str.ofString "Unfit",Str.ofString "NOUGHT",Str.ofString "GREAT_BITS",Str.ofString "HEAD_BITS",Str.ofString "is_whole",Str.ofString "common_divisor",Str.ofString "far_rests",Str.ofString "sure_steps",Str.ofString "with_sign_of",Str.ofString "length",Str.ofString "added",Str.ofString "taken",Str.ofString "is_above_nought",Str.ofString "under",Str.ofString "is_length",Str.ofString "CUTS",Str.ofString "GLUINGS",Str.ofString "SHIFTS",Str.ofString "TURN",Str.ofString "is_deed",Str.ofString "names_taken",Str.ofString "count_put",Str.ofString "turned",Str.ofString "cut_across",Str.ofString "glued_beside",Str.ofString "stacked",Str.ofString "Yard",Str.ofString "yard_behind",Str.ofString "walked",Str.ofString "undoing",Str.ofString "places_of",Str.ofString "back",Str.ofString "_law_cell",Str.ofString "_law_whole",Str.ofString "_law_great",Str.ofString "_law_digits",Str.ofString "_law_divisor",Str.ofString "_law_lowest",Str.ofString "_law_sign",Str.ofString "_law_plus",Str.ofString "_law_share",Str.ofString "_law_below",Str.ofString "_law_root",Str.ofString "_law_side",Str.ofString "_law_heap",Str.ofString "_law_new",Str.ofString "_law_at",Str.ofString "_law_deed",Str.ofString "_law_done",Str.ofString "_law_begin",Str.ofString "_law_is_length",Str.ofString "_law_plan",Str.ofString "_law_fits",Str.ofString "_law_walked",Str.ofString "_law_right"]
def Xt (s:Shared):Bool:=xlAt qv [] s && recOk [] s
def Yf (s:Shared):List (Option Obj):=as.map s.heap.get?
def Ya (w:World):List (Option Obj):=(K w.params).map fun p=>some p.2
theorem FQ (w:World):(fun os:OsState=>(staticsOk (importedModules p.main.body) (boot_heap w.params) (H1 w.params) && namesBound p (H1 w.params) && gensDone (⟨H1 w.params,⟨[]⟩,dr1,nat_lit 810,os⟩:Shared) && laidKept (boot_heap w.params) (H1 w.params)))=fun _=>true:=by kernel_rfl
theorem Fv (w:World):(fun os:OsState=>openSeen qv loose (importedModules p.main.body) Xt true (⟨H1 w.params,⟨[]⟩,dr1,nat_lit 810,os⟩:Shared))=fun _=>openGood qv loose:=by kernel_rfl
theorem Fa (w:World):(fun os:OsState=>Yf (⟨H1 w.params,⟨[]⟩,dr1,nat_lit 810,os⟩:Shared))=fun _=>Ya w:=by kernel_rfl
theorem left:LeftO p qv loose Xt Yf Ya 6652:=by
  refine LeftO.of_pieces (H₀:=boot_heap) (H₁:=H1) (gs₀:=⟨[]⟩) (gs₁:=⟨[]⟩) (d₀:=boot_drawn) (d₁:=dr1) (k₀:=boot_toks) (k₁:=nat_lit 810) (m₀:=m0) (ann:=ann) (M:=(12 + (1 + (3264 + 2)))) (boot_open (by kernel_rfl) (by decide) (fun s=>by kernel_rfl)) size run (by decide) (fun w=>funext fun os=>?_)
  exact looks_pair (congrFun (FQ w) os) (looks_pair (congrFun (Fv w) os) (congrFun (Fa w) os))
end Hd
end
noncomputable section
namespace Hd
open PySem PySem.W PySem.Calls PyProof.Rows
abbrev pm0:Value:=(.str "boardglue.lengths" 294)
abbrev pm1:Value:=(.str "boardglue.yard" 412)
abbrev pm2:Value:=(.str "boardglue.plans" 559)
abbrev pm3:Value:=(.str "law_boardglue_k35_whole_plans_turned_about" 605)
abbrev pm4:Value:=(.str "boardglue.boards" 404)
def cs:Bk.Cs:=⟨31,44,56,68,80,92,280⟩
section
variable {w:World} {mg:Str→Option Value} {h:Heap} (KX:(K w.params).In h) (G:h.Ns mainGlobals mg)
include KX G
theorem tp {x:Str} {st:Stmt} (f cd:Addr) (pm:Value) (a:nsIn (K w.params) mainGlobals x=some (some (.ref f))) (l:(K w.params).lookup f=some ⟨.type "function",none,.func (fnOf x x (L2.defArgs st) (L2.defBody st) (L2.defScope st) .none .none .none pm none (.ref cd) .none),#[]⟩) (c:codeIn (K w.params) (.ref cd) x=true) (k:keepIn (K w.params) (.ref f)=true):L2.Top (K w.params) mg x st:=L2.top_mk KX G a l c k
theorem tm {C:Addr} {m q:Str} {st:Stmt} (f cd:Addr) (pm:Value) (l:(K w.params).lookup f=some ⟨.type "function",none,.func (fnOf m q (L2.defArgs st) (L2.defBody st) (L2.defScope st) .none .none .none pm none (.ref cd) .none),#[]⟩) (c:codeIn (K w.params) (.ref cd) q=true) (k:keepIn (K w.params) (.ref f)=true) (a:findIn (K w.params) (.ref C) m=some (some (.ref f))) (n:isFn (K w.params) (.ref f)=true):L2.TopM (K w.params) C m q st:=L2.topM_mk l c k a n
theorem bl :Bk.Bl mg:=⟨mg_none_of KX G (by kernel_rfl),mg_none_of KX G (by kernel_rfl),mg_none_of KX G (by kernel_rfl),mg_none_of KX G (by kernel_rfl),mg_none_of KX G (by kernel_rfl),mg_none_of KX G (by kernel_rfl),mg_none_of KX G (by kernel_rfl),mg_none_of KX G (by kernel_rfl),mg_none_of KX G (by kernel_rfl),mg_none_of KX G (by kernel_rfl),mg_none_of KX G (by kernel_rfl),mg_none_of KX G (by kernel_rfl),mg_none_of KX G (by kernel_rfl),mg_none_of KX G (by kernel_rfl),mg_none_of KX G (by kernel_rfl),mg_none_of KX G (by kernel_rfl)⟩
theorem t_is_whole:L2.Top (K w.params) mg "is_whole" Bk.s_is_whole:=tp KX G 102 101 pm0 (by kernel_rfl) (by kernel_rfl) (by kernel_rfl) (by kernel_rfl)
theorem t_common_divisor:L2.Top (K w.params) mg "common_divisor" Bk.s_common_divisor:=tp KX G 109 108 pm0 (by kernel_rfl) (by kernel_rfl) (by kernel_rfl) (by kernel_rfl)
theorem t_with_sign_of:L2.Top (K w.params) mg "with_sign_of" Bk.s_with_sign_of:=tp KX G 130 129 pm0 (by kernel_rfl) (by kernel_rfl) (by kernel_rfl) (by kernel_rfl)
theorem t_is_above_nought:L2.Top (K w.params) mg "is_above_nought" Bk.s_is_above_nought:=tp KX G 159 158 pm0 (by kernel_rfl) (by kernel_rfl) (by kernel_rfl) (by kernel_rfl)
theorem t_names_taken:L2.Top (K w.params) mg "names_taken" Bk.s_names_taken:=tp KX G 188 187 pm1 (by kernel_rfl) (by kernel_rfl) (by kernel_rfl) (by kernel_rfl)
theorem t_count_put:L2.Top (K w.params) mg "count_put" Bk.s_count_put:=tp KX G 195 194 pm1 (by kernel_rfl) (by kernel_rfl) (by kernel_rfl) (by kernel_rfl)
theorem t_turned:L2.Top (K w.params) mg "turned" Bk.s_turned:=tp KX G 202 201 pm1 (by kernel_rfl) (by kernel_rfl) (by kernel_rfl) (by kernel_rfl)
theorem t_places_of:L2.Top (K w.params) mg "places_of" Bk.s_places_of:=tp KX G 311 310 pm2 (by kernel_rfl) (by kernel_rfl) (by kernel_rfl) (by kernel_rfl)
theorem t__law_cell:L2.Top (K w.params) mg "_law_cell" Bk.s__law_cell:=tp KX G 323 322 pm3 (by kernel_rfl) (by kernel_rfl) (by kernel_rfl) (by kernel_rfl)
theorem t__law_whole:L2.Top (K w.params) mg "_law_whole" Bk.s__law_whole:=tp KX G 330 329 pm3 (by kernel_rfl) (by kernel_rfl) (by kernel_rfl) (by kernel_rfl)
theorem t__law_great:L2.Top (K w.params) mg "_law_great" Bk.s__law_great:=tp KX G 337 336 pm3 (by kernel_rfl) (by kernel_rfl) (by kernel_rfl) (by kernel_rfl)
theorem t__law_divisor:L2.Top (K w.params) mg "_law_divisor" Bk.s__law_divisor:=tp KX G 351 350 pm3 (by kernel_rfl) (by kernel_rfl) (by kernel_rfl) (by kernel_rfl)
theorem t__law_sign:L2.Top (K w.params) mg "_law_sign" Bk.s__law_sign:=tp KX G 365 364 pm3 (by kernel_rfl) (by kernel_rfl) (by kernel_rfl) (by kernel_rfl)
theorem t__law_begin:L2.Top (K w.params) mg "_law_begin" Bk.s__law_begin:=tp KX G 434 433 pm3 (by kernel_rfl) (by kernel_rfl) (by kernel_rfl) (by kernel_rfl)
theorem t_Yard___init__ :L2.TopIn (K w.params) mg 280 "Yard" "Yard.__init__" Bk.s_Yard___init__ [(.bool false)]:=L2.topIn_mk (f:=236) (T:=231) (its:=[(.bool false)]) (n:=0) (to:=o136) (oc:=(.type "function")) (od:=none) (osl:=#[]) (kV:=.none) (doc:=.none) (pm:=(.str "boardglue.yard" 412)) (an:=none) (cdv:=(.ref 235)) (ct:=.none) KX G (by kernel_rfl) (by kernel_rfl) (by kernel_rfl) (by kernel_rfl) rfl (by kernel_rfl) (by kernel_rfl) (by kernel_rfl) (by kernel_rfl) (by kernel_rfl)
theorem t_Yard_board_ever:L2.TopM (K w.params) 280 "board_ever" "Yard.board_ever" Bk.s_Yard_board_ever:=tm KX G 260 259 pm1 (by kernel_rfl) (by kernel_rfl) (by kernel_rfl) (by kernel_rfl) (by kernel_rfl)
theorem t_Yard_boards:L2.TopM (K w.params) 280 "boards" "Yard.boards" Bk.s_Yard_boards:=tm KX G 265 264 pm1 (by kernel_rfl) (by kernel_rfl) (by kernel_rfl) (by kernel_rfl) (by kernel_rfl)
theorem t_Yard_heap:L2.TopM (K w.params) 280 "heap" "Yard.heap" Bk.s_Yard_heap:=tm KX G 270 269 pm1 (by kernel_rfl) (by kernel_rfl) (by kernel_rfl) (by kernel_rfl) (by kernel_rfl)
theorem t_length :L2.TopD (K w.params) mg "length" Bk.s_length [(.int (0) 352),(.int (1) 353)]:=L2.topD_mk (f:=138) (T:=131) (its:=[(.int (0) 352),(.int (1) 353)]) (n:=0) (to:=o77) (oc:=(.type "function")) (od:=none) (osl:=#[]) (kV:=.none) (doc:=.none) (pm:=(.str "boardglue.lengths" 294)) (an:=none) (cdv:=(.ref 137)) (ct:=.none) KX G (by kernel_rfl) (by kernel_rfl) (by kernel_rfl) (by kernel_rfl) (by kernel_rfl) rfl
theorem t_added:L2.Top (K w.params) mg "added" Bk.s_added:=tp KX G 145 144 pm0 (by kernel_rfl) (by kernel_rfl) (by kernel_rfl) (by kernel_rfl)
theorem t_under:L2.Top (K w.params) mg "under" Bk.s_under:=tp KX G 166 165 pm0 (by kernel_rfl) (by kernel_rfl) (by kernel_rfl) (by kernel_rfl)
theorem t_undoing:L2.Top (K w.params) mg "undoing" Bk.s_undoing:=tp KX G 306 305 pm2 (by kernel_rfl) (by kernel_rfl) (by kernel_rfl) (by kernel_rfl)
theorem t__law_digits:L2.Top (K w.params) mg "_law_digits" Bk.s__law_digits:=tp KX G 344 343 pm3 (by kernel_rfl) (by kernel_rfl) (by kernel_rfl) (by kernel_rfl)
theorem t__law_lowest:L2.Top (K w.params) mg "_law_lowest" Bk.s__law_lowest:=tp KX G 358 357 pm3 (by kernel_rfl) (by kernel_rfl) (by kernel_rfl) (by kernel_rfl)
theorem t__law_root:L2.Top (K w.params) mg "_law_root" Bk.s__law_root:=tp KX G 391 390 pm3 (by kernel_rfl) (by kernel_rfl) (by kernel_rfl) (by kernel_rfl)
theorem t__law_is_length:L2.Top (K w.params) mg "_law_is_length" Bk.s__law_is_length:=tp KX G 441 440 pm3 (by kernel_rfl) (by kernel_rfl) (by kernel_rfl) (by kernel_rfl)
theorem t_Yard_check_names:L2.TopM (K w.params) 280 "check_names" "Yard.check_names" Bk.s_Yard_check_names:=tm KX G 248 247 pm1 (by kernel_rfl) (by kernel_rfl) (by kernel_rfl) (by kernel_rfl) (by kernel_rfl)
theorem t_taken:L2.Top (K w.params) mg "taken" Bk.s_taken:=tp KX G 152 151 pm0 (by kernel_rfl) (by kernel_rfl) (by kernel_rfl) (by kernel_rfl)
theorem t_is_length:L2.Top (K w.params) mg "is_length" Bk.s_is_length:=tp KX G 171 170 pm4 (by kernel_rfl) (by kernel_rfl) (by kernel_rfl) (by kernel_rfl)
theorem t_glued_beside:L2.Top (K w.params) mg "glued_beside" Bk.s_glued_beside:=tp KX G 216 215 pm1 (by kernel_rfl) (by kernel_rfl) (by kernel_rfl) (by kernel_rfl)
theorem t_stacked:L2.Top (K w.params) mg "stacked" Bk.s_stacked:=tp KX G 223 222 pm1 (by kernel_rfl) (by kernel_rfl) (by kernel_rfl) (by kernel_rfl)
theorem t__law_plus:L2.Top (K w.params) mg "_law_plus" Bk.s__law_plus:=tp KX G 372 371 pm3 (by kernel_rfl) (by kernel_rfl) (by kernel_rfl) (by kernel_rfl)
theorem t__law_share:L2.Top (K w.params) mg "_law_share" Bk.s__law_share:=tp KX G 379 378 pm3 (by kernel_rfl) (by kernel_rfl) (by kernel_rfl) (by kernel_rfl)
theorem t__law_side:L2.Top (K w.params) mg "_law_side" Bk.s__law_side:=tp KX G 398 397 pm3 (by kernel_rfl) (by kernel_rfl) (by kernel_rfl) (by kernel_rfl)
theorem t_is_deed:L2.Top (K w.params) mg "is_deed" Bk.s_is_deed:=tp KX G 181 180 pm1 (by kernel_rfl) (by kernel_rfl) (by kernel_rfl) (by kernel_rfl)
theorem t_cut_across:L2.Top (K w.params) mg "cut_across" Bk.s_cut_across:=tp KX G 209 208 pm1 (by kernel_rfl) (by kernel_rfl) (by kernel_rfl) (by kernel_rfl)
theorem t__law_below:L2.Top (K w.params) mg "_law_below" Bk.s__law_below:=tp KX G 386 385 pm3 (by kernel_rfl) (by kernel_rfl) (by kernel_rfl) (by kernel_rfl)
theorem t__law_heap:L2.Top (K w.params) mg "_law_heap" Bk.s__law_heap:=tp KX G 403 402 pm3 (by kernel_rfl) (by kernel_rfl) (by kernel_rfl) (by kernel_rfl)
theorem t__law_new:L2.Top (K w.params) mg "_law_new" Bk.s__law_new:=tp KX G 410 409 pm3 (by kernel_rfl) (by kernel_rfl) (by kernel_rfl) (by kernel_rfl)
theorem t__law_at:L2.Top (K w.params) mg "_law_at" Bk.s__law_at:=tp KX G 417 416 pm3 (by kernel_rfl) (by kernel_rfl) (by kernel_rfl) (by kernel_rfl)
theorem t__law_done:L2.Top (K w.params) mg "_law_done" Bk.s__law_done:=tp KX G 427 426 pm3 (by kernel_rfl) (by kernel_rfl) (by kernel_rfl) (by kernel_rfl)
theorem t__law_fits:L2.Top (K w.params) mg "_law_fits" Bk.s__law_fits:=tp KX G 453 452 pm3 (by kernel_rfl) (by kernel_rfl) (by kernel_rfl) (by kernel_rfl)
theorem t_Yard_put_by:L2.TopM (K w.params) 280 "put_by" "Yard.put_by" Bk.s_Yard_put_by:=tm KX G 253 252 pm1 (by kernel_rfl) (by kernel_rfl) (by kernel_rfl) (by kernel_rfl) (by kernel_rfl)
theorem t__law_deed:L2.Top (K w.params) mg "_law_deed" Bk.s__law_deed:=tp KX G 422 421 pm3 (by kernel_rfl) (by kernel_rfl) (by kernel_rfl) (by kernel_rfl)
theorem t__law_walked:L2.Top (K w.params) mg "_law_walked" Bk.s__law_walked:=tp KX G 458 457 pm3 (by kernel_rfl) (by kernel_rfl) (by kernel_rfl) (by kernel_rfl)
theorem t_Yard_do:L2.TopM (K w.params) 280 "do" "Yard.do" Bk.s_Yard_do:=tm KX G 241 240 pm1 (by kernel_rfl) (by kernel_rfl) (by kernel_rfl) (by kernel_rfl) (by kernel_rfl)
theorem t_yard_behind:L2.Top (K w.params) mg "yard_behind" Bk.s_yard_behind:=tp KX G 291 290 pm2 (by kernel_rfl) (by kernel_rfl) (by kernel_rfl) (by kernel_rfl)
theorem t__law_plan:L2.Top (K w.params) mg "_law_plan" Bk.s__law_plan:=tp KX G 446 445 pm3 (by kernel_rfl) (by kernel_rfl) (by kernel_rfl) (by kernel_rfl)
theorem t_walked :L2.TopD (K w.params) mg "walked" Bk.s_walked [(.bool false)]:=L2.topD_mk (f:=299) (T:=292) (its:=[(.bool false)]) (n:=0) (to:=o136) (oc:=(.type "function")) (od:=none) (osl:=#[]) (kV:=.none) (doc:=.none) (pm:=(.str "boardglue.plans" 559)) (an:=none) (cdv:=(.ref 298)) (ct:=.none) KX G (by kernel_rfl) (by kernel_rfl) (by kernel_rfl) (by kernel_rfl) (by kernel_rfl) rfl
theorem t_back:L2.Top (K w.params) mg "back" Bk.s_back:=tp KX G 316 315 pm2 (by kernel_rfl) (by kernel_rfl) (by kernel_rfl) (by kernel_rfl)
theorem t__law_right:L2.Top (K w.params) mg "_law_right" Bk.s__law_right:=tp KX G 463 462 pm3 (by kernel_rfl) (by kernel_rfl) (by kernel_rfl) (by kernel_rfl)
theorem t_law:L2.Top (K w.params) mg "law" Bk.s_law:=tp KX G 468 467 pm3 (by kernel_rfl) (by kernel_rfl) (by kernel_rfl) (by kernel_rfl)
theorem g_NOUGHT :L2.TopT (K w.params) mg "NOUGHT" [.int 0,.int 0,.int 1]:=L2.topT_mk (a:=95) (o:=o56) (its:=#[(.int (0) 296),(.int (0) 297),(.int (1) 298)]) (n:=0) KX G (by kernel_rfl) (by kernel_rfl) rfl rfl (by decide) (.cons ⟨_,rfl⟩ (.cons ⟨_,rfl⟩ (.cons ⟨_,rfl⟩ .nil)))
theorem g_GREAT_BITS :L2.TopI mg "GREAT_BITS" (8192):=L2.topI_mk (t:=300) KX G (by kernel_rfl)
theorem g_CUTS :L2.TopT (K w.params) mg "CUTS" [.str "across",.str "along"]:=L2.topT_mk (a:=172) (o:=o101) (its:=#[(.str "across" 414),(.str "along" 415)]) (n:=0) KX G (by kernel_rfl) (by kernel_rfl) rfl rfl (by decide) (.cons ⟨_,rfl⟩ (.cons ⟨_,rfl⟩ .nil))
theorem g_GLUINGS :L2.TopT (K w.params) mg "GLUINGS" [.str "beside",.str "atop"]:=L2.topT_mk (a:=173) (o:=o102) (its:=#[(.str "beside" 417),(.str "atop" 418)]) (n:=0) KX G (by kernel_rfl) (by kernel_rfl) rfl rfl (by decide) (.cons ⟨_,rfl⟩ (.cons ⟨_,rfl⟩ .nil))
theorem g_SHIFTS :L2.TopT (K w.params) mg "SHIFTS" [.str "stack",.str "spread"]:=L2.topT_mk (a:=174) (o:=o103) (its:=#[(.str "stack" 420),(.str "spread" 421)]) (n:=0) KX G (by kernel_rfl) (by kernel_rfl) rfl rfl (by decide) (.cons ⟨_,rfl⟩ (.cons ⟨_,rfl⟩ .nil))
theorem g_TURN :L2.TopS mg "TURN" (Str.ofString "turn"):=L2.topS_mk (t:=423) KX G (by kernel_rfl)
theorem xs :Bk.Xs (K w.params) mg cs:=⟨(mg_of KX G (by kernel_rfl)),(mg_of KX G (by kernel_rfl)),(mg_of KX G (by kernel_rfl)),(mg_of KX G (by kernel_rfl)),(mg_of KX G (by kernel_rfl)),(mg_of KX G (by kernel_rfl)),(mg_of KX G (by kernel_rfl)),⟨(by kernel_rfl),(by kernel_rfl),(by kernel_rfl),(by kernel_rfl)⟩,(by unfold L2.NoAttr; kernel_rfl),(by unfold L2.NoAttr; kernel_rfl),(by unfold L2.NoAttr; kernel_rfl),(by unfold L2.NoAttr; kernel_rfl),(by unfold L2.NoAttr; kernel_rfl)⟩
end
end Hd
end
open PySem PySem.W PyProof.Rows
set_option maxRecDepth 100000 in
set_option maxHeartbeats 0 in
theorem PySem.Challenge.cw_boardglue_k35_whole_plans_turned_about_holds : PySem.Challenge.rw_boardglue_k35_whole_plans_turned_about.Holds := by
  w_on; o_law
  rename_i said
  refine holds_open (r:=PySem.Challenge.rw_boardglue_k35_whole_plans_turned_about.row) (q:=Hd.qv) (loose:=Hd.loose) (Xt:=Hd.Xt) (XP:=XL Hd.qv []) (Yf:=Hd.Yf) (Ya:=Hd.Ya) (YP:=InK Hd.K) (N:=6652) Hd.left (InK.of Hd.asK) InK.keeps (fun s e=>xl_of s (Bool.and_eq_true_iff.mp e).1) XL.keeps (by rfl) (by rfl) (by rfl) (fun s e=>recFacts_of (Bool.and_eq_true_iff.mp e).2) (by rfl) said (by decide +kernel) ⟨rfl,rfl,rfl,rfl,rfl,by decide +kernel⟩ ?hw ?hc
  case hw=>w_witness2
  refine L2.walk_B (l:=PySem.Challenge.rw_boardglue_k35_whole_plans_turned_about) (k:=10) (x:="_law_script") rfl rfl ⟨rfl,by decide,by decide⟩ (fun w h Y=>Y) ?F
  case F =>
    intro w mg fa h KX G hmg
    have B:Bk.Bl mg:=Hd.bl KX G
    have T_is_whole:=Hd.t_is_whole KX G
    have T_common_divisor:=Hd.t_common_divisor KX G
    have T_with_sign_of:=Hd.t_with_sign_of KX G
    have T_is_above_nought:=Hd.t_is_above_nought KX G
    have T_names_taken:=Hd.t_names_taken KX G
    have T_count_put:=Hd.t_count_put KX G
    have T_turned:=Hd.t_turned KX G
    have T_places_of:=Hd.t_places_of KX G
    have T__law_cell:=Hd.t__law_cell KX G
    have T__law_whole:=Hd.t__law_whole KX G
    have T__law_great:=Hd.t__law_great KX G
    have T__law_divisor:=Hd.t__law_divisor KX G
    have T__law_sign:=Hd.t__law_sign KX G
    have T__law_begin:=Hd.t__law_begin KX G
    have T_Yard___init__:=Hd.t_Yard___init__ KX G
    have T_Yard_board_ever:=Hd.t_Yard_board_ever KX G
    have T_Yard_boards:=Hd.t_Yard_boards KX G
    have T_Yard_heap:=Hd.t_Yard_heap KX G
    have T_length:=Hd.t_length KX G
    have T_added:=Hd.t_added KX G
    have T_under:=Hd.t_under KX G
    have T_undoing:=Hd.t_undoing KX G
    have T__law_digits:=Hd.t__law_digits KX G
    have T__law_lowest:=Hd.t__law_lowest KX G
    have T__law_root:=Hd.t__law_root KX G
    have T__law_is_length:=Hd.t__law_is_length KX G
    have T_Yard_check_names:=Hd.t_Yard_check_names KX G
    have T_taken:=Hd.t_taken KX G
    have T_is_length:=Hd.t_is_length KX G
    have T_glued_beside:=Hd.t_glued_beside KX G
    have T_stacked:=Hd.t_stacked KX G
    have T__law_plus:=Hd.t__law_plus KX G
    have T__law_share:=Hd.t__law_share KX G
    have T__law_side:=Hd.t__law_side KX G
    have T_is_deed:=Hd.t_is_deed KX G
    have T_cut_across:=Hd.t_cut_across KX G
    have T__law_below:=Hd.t__law_below KX G
    have T__law_heap:=Hd.t__law_heap KX G
    have T__law_new:=Hd.t__law_new KX G
    have T__law_at:=Hd.t__law_at KX G
    have T__law_done:=Hd.t__law_done KX G
    have T__law_fits:=Hd.t__law_fits KX G
    have T_Yard_put_by:=Hd.t_Yard_put_by KX G
    have T__law_deed:=Hd.t__law_deed KX G
    have T__law_walked:=Hd.t__law_walked KX G
    have T_Yard_do:=Hd.t_Yard_do KX G
    have T_yard_behind:=Hd.t_yard_behind KX G
    have T__law_plan:=Hd.t__law_plan KX G
    have T_walked:=Hd.t_walked KX G
    have T_back:=Hd.t_back KX G
    have T__law_right:=Hd.t__law_right KX G
    have T_law:=Hd.t_law KX G
    have g_NOUGHT:=Hd.g_NOUGHT KX G
    have g_GREAT_BITS:=Hd.g_GREAT_BITS KX G
    have g_CUTS:=Hd.g_CUTS KX G
    have g_GLUINGS:=Hd.g_GLUINGS KX G
    have g_SHIFTS:=Hd.g_SHIFTS KX G
    have g_TURN:=Hd.g_TURN KX G
    have X:=Hd.xs KX G
    refine L2.law_mk T_law hmg (fun _ _ _ _ _ _ _=>rfl) fun base f fd F=>?_
    have o_is_whole:L2.Own Hd.p w (Hd.K w.params) mg base 1 "is_whole" ["thing"] [] Bk.sp_is_whole:=T_is_whole.own (fun _ _ _ _ _ _ us hl=>match us,hl with | [_],_=>rfl) (fun f fd F=>Bk.ok_is_whole F B )
    have o_common_divisor:L2.Own Hd.p w (Hd.K w.params) mg base 1 "common_divisor" ["one","other"] [] Bk.sp_common_divisor:=T_common_divisor.own (fun _ _ _ _ _ _ us hl=>match us,hl with | [_,_],_=>rfl) (fun f fd F=>Bk.ok_common_divisor F B g_GREAT_BITS)
    have o_with_sign_of:L2.Own Hd.p w (Hd.K w.params) mg base 1 "with_sign_of" ["divisor","bottom"] [] Bk.sp_with_sign_of:=T_with_sign_of.own (fun _ _ _ _ _ _ us hl=>match us,hl with | [_,_],_=>rfl) (fun f fd F=>Bk.ok_with_sign_of F B )
    have o_is_above_nought:L2.Own Hd.p w (Hd.K w.params) mg base 1 "is_above_nought" ["d","a","b"] [] Bk.sp_is_above_nought:=T_is_above_nought.own (fun _ _ _ _ _ _ us hl=>match us,hl with | [_,_,_],_=>rfl) (fun f fd F=>Bk.ok_is_above_nought F B )
    have o_names_taken:L2.Own Hd.p w (Hd.K w.params) mg base 1 "names_taken" ["deed"] [] Bk.sp_names_taken:=T_names_taken.own (fun _ _ _ _ _ _ us hl=>match us,hl with | [_],_=>rfl) (fun f fd F=>Bk.ok_names_taken F B g_GLUINGS)
    have o_count_put:L2.Own Hd.p w (Hd.K w.params) mg base 1 "count_put" ["deed"] [] Bk.sp_count_put:=T_count_put.own (fun _ _ _ _ _ _ us hl=>match us,hl with | [_],_=>rfl) (fun f fd F=>Bk.ok_count_put F B g_CUTS)
    have o_turned:L2.Own Hd.p w (Hd.K w.params) mg base 1 "turned" ["one"] [] Bk.sp_turned:=T_turned.own (fun _ _ _ _ _ _ us hl=>match us,hl with | [_],_=>rfl) (fun f fd F=>Bk.ok_turned F B )
    have o_places_of:L2.Own Hd.p w (Hd.K w.params) mg base 1 "places_of" ["names"] [] Bk.sp_places_of:=T_places_of.own (fun _ _ _ _ _ _ us hl=>match us,hl with | [_],_=>rfl) (fun f fd F=>Bk.ok_places_of F B )
    have o__law_cell:L2.Own Hd.p w (Hd.K w.params) mg base 1 "_law_cell" ["_law_script","_law_k"] [] (Bk.sp__law_cell (Hd.K w.params)):=T__law_cell.own (fun _ _ _ _ _ _ us hl=>match us,hl with | [_,_],_=>rfl) (fun f fd F=>Bk.ok__law_cell F B )
    have o__law_whole:L2.Own Hd.p w (Hd.K w.params) mg base 1 "_law_whole" ["_law_found"] [] Bk.sp__law_whole:=T__law_whole.own (fun _ _ _ _ _ _ us hl=>match us,hl with | [_],_=>rfl) (fun f fd F=>Bk.ok__law_whole F B )
    have o__law_great:L2.Own Hd.p w (Hd.K w.params) mg base 1 "_law_great" ["_law_cell_here","_law_k"] [] Bk.sp__law_great:=T__law_great.own (fun _ _ _ _ _ _ us hl=>match us,hl with | [_,_],_=>rfl) (fun f fd F=>Bk.ok__law_great F B )
    have o__law_divisor:L2.Own Hd.p w (Hd.K w.params) mg base 1 "_law_divisor" ["_law_one","_law_other"] [] Bk.sp__law_divisor:=T__law_divisor.own (fun _ _ _ _ _ _ us hl=>match us,hl with | [_,_],_=>rfl) (fun f fd F=>Bk.ok__law_divisor F B )
    have o__law_sign:L2.Own Hd.p w (Hd.K w.params) mg base 1 "_law_sign" ["_law_d","_law_a","_law_b"] [] Bk.sp__law_sign:=T__law_sign.own (fun _ _ _ _ _ _ us hl=>match us,hl with | [_,_,_],_=>rfl) (fun f fd F=>Bk.ok__law_sign F B )
    have o__law_begin:L2.Own Hd.p w (Hd.K w.params) mg base 1 "_law_begin" ["_law_heap_here"] [] Bk.sp__law_begin:=T__law_begin.own (fun _ _ _ _ _ _ us hl=>match us,hl with | [_],_=>rfl) (fun f fd F=>Bk.ok__law_begin F B )
    have o_Yard___init__:L2.OwnI Hd.p w (Hd.K w.params) mg base L2.CX0 Hd.cs.Yard 1 "Yard" ["self","d","heap","turning"] [] (Bk.sp_Yard___init__ Hd.cs):=T_Yard___init__.own (ds:=[]) (fun T _ _ _ _ _ _ us hl=>by have hl':us.length=4:=(by simpa using hl); match us,hl' with | [_,_,_,_],_=>exact ⟨_,rfl,rfl⟩) .nil (fun f fd F=>Bk.ok_Yard___init__ F B X)
    have o_Yard_board_ever:L2.OwnM Hd.p w (Hd.K w.params) mg base L2.CX0 Hd.cs.Yard 1 "board_ever" ["self","name"] [] (Bk.sp_Yard_board_ever Hd.cs):=T_Yard_board_ever.own X.c_Yard (fun _ _ _ _ _ _ us hl=>match us,hl with | [_,_],_=>rfl) (fun f fd F=>Bk.ok_Yard_board_ever F B X)
    have o_Yard_boards:L2.OwnM Hd.p w (Hd.K w.params) mg base L2.CX0 Hd.cs.Yard 1 "boards" ["self"] [] (Bk.sp_Yard_boards Hd.cs):=T_Yard_boards.own X.c_Yard (fun _ _ _ _ _ _ us hl=>match us,hl with | [_],_=>rfl) (fun f fd F=>Bk.ok_Yard_boards F B X)
    have o_Yard_heap:L2.OwnM Hd.p w (Hd.K w.params) mg base L2.CX0 Hd.cs.Yard 1 "heap" ["self"] [] (Bk.sp_Yard_heap Hd.cs):=T_Yard_heap.own X.c_Yard (fun _ _ _ _ _ _ us hl=>match us,hl with | [_],_=>rfl) (fun f fd F=>Bk.ok_Yard_heap F B X)
    have o_length:L2.Own Hd.p w (Hd.K w.params) mg base 2 "length" ["a","b","n"] [] Bk.sp_length:=T_length.own (ds:=[]) (fun T _ _ _ _ _ _ us hl=>by have hl':us.length=3:=(by simpa using hl); match us,hl' with | [_,_,_],_=>exact ⟨_,rfl,rfl⟩) .nil (fun f fd F=>Bk.ok_length F B o_with_sign_of o_common_divisor o_is_whole)
    have o_added:L2.Own Hd.p w (Hd.K w.params) mg base 2 "added" ["one","other"] [] Bk.sp_added:=T_added.own (fun _ _ _ _ _ _ us hl=>match us,hl with | [_,_],_=>rfl) (fun f fd F=>Bk.ok_added F B o_common_divisor)
    have o_under:L2.Own Hd.p w (Hd.K w.params) mg base 2 "under" ["d","one","other"] [] (Bk.sp_under (Hd.K w.params)):=T_under.own (fun _ _ _ _ _ _ us hl=>match us,hl with | [_,_,_],_=>rfl) (fun f fd F=>Bk.ok_under F B o_is_above_nought)
    have o_undoing:L2.Own Hd.p w (Hd.K w.params) mg base 2 "undoing" ["yard","deed","names"] [] (Bk.sp_undoing Hd.cs):=T_undoing.own (fun _ _ _ _ _ _ us hl=>match us,hl with | [_,_,_],_=>rfl) (fun f fd F=>Bk.ok_undoing F B o_Yard_board_ever)
    have o__law_digits:L2.Own Hd.p w (Hd.K w.params) mg base 2 "_law_digits" ["_law_cell_here","_law_many"] [] Bk.sp__law_digits:=T__law_digits.own (fun _ _ _ _ _ _ us hl=>match us,hl with | [_,_],_=>rfl) (fun f fd F=>Bk.ok__law_digits F B o__law_great)
    have o__law_lowest:L2.Own Hd.p w (Hd.K w.params) mg base 2 "_law_lowest" ["_law_a","_law_b","_law_n"] [] Bk.sp__law_lowest:=T__law_lowest.own (fun _ _ _ _ _ _ us hl=>match us,hl with | [_,_,_],_=>rfl) (fun f fd F=>Bk.ok__law_lowest F B o__law_divisor)
    have o__law_root:L2.Own Hd.p w (Hd.K w.params) mg base 2 "_law_root" ["_law_cell_here","_law_k"] [] Bk.sp__law_root:=T__law_root.own (fun _ _ _ _ _ _ us hl=>match us,hl with | [_,_],_=>rfl) (fun f fd F=>Bk.ok__law_root F B o__law_great)
    have o__law_is_length:L2.Own Hd.p w (Hd.K w.params) mg base 2 "_law_is_length" ["_law_found"] [] Bk.sp__law_is_length:=T__law_is_length.own (fun _ _ _ _ _ _ us hl=>match us,hl with | [_],_=>rfl) (fun f fd F=>Bk.ok__law_is_length F B o__law_whole)
    have o_Yard_check_names:L2.OwnM Hd.p w (Hd.K w.params) mg base L2.CX0 Hd.cs.Yard 2 "check_names" ["self","names"] [] (Bk.sp_Yard_check_names Hd.cs):=T_Yard_check_names.own X.c_Yard (fun _ _ _ _ _ _ us hl=>match us,hl with | [_,_],_=>rfl) (fun f fd F=>Bk.ok_Yard_check_names F B X o_is_whole)
    have o_taken:L2.Own Hd.p w (Hd.K w.params) mg base 3 "taken" ["one","other"] [] Bk.sp_taken:=T_taken.own (fun _ _ _ _ _ _ us hl=>match us,hl with | [_,_],_=>rfl) (fun f fd F=>Bk.ok_taken F B o_added)
    have o_is_length:L2.Own Hd.p w (Hd.K w.params) mg base 3 "is_length" ["thing"] [] Bk.sp_is_length:=T_is_length.own (fun _ _ _ _ _ _ us hl=>match us,hl with | [_],_=>rfl) (fun f fd F=>Bk.ok_is_length F B o_length o_is_whole)
    have o_glued_beside:L2.Own Hd.p w (Hd.K w.params) mg base 3 "glued_beside" ["one","other"] [] Bk.sp_glued_beside:=T_glued_beside.own (fun _ _ _ _ _ _ us hl=>match us,hl with | [_,_],_=>rfl) (fun f fd F=>Bk.ok_glued_beside F B o_added)
    have o_stacked:L2.Own Hd.p w (Hd.K w.params) mg base 3 "stacked" ["one","many"] [] Bk.sp_stacked:=T_stacked.own (fun _ _ _ _ _ _ us hl=>match us,hl with | [_,_],_=>rfl) (fun f fd F=>Bk.ok_stacked F B o_length)
    have o__law_plus:L2.Own Hd.p w (Hd.K w.params) mg base 3 "_law_plus" ["_law_one","_law_other","_law_sign_here"] [] Bk.sp__law_plus:=T__law_plus.own (fun _ _ _ _ _ _ us hl=>match us,hl with | [_,_,_],_=>rfl) (fun f fd F=>Bk.ok__law_plus F B o__law_lowest)
    have o__law_share:L2.Own Hd.p w (Hd.K w.params) mg base 3 "_law_share" ["_law_one","_law_top","_law_bottom"] [] Bk.sp__law_share:=T__law_share.own (fun _ _ _ _ _ _ us hl=>match us,hl with | [_,_,_],_=>rfl) (fun f fd F=>Bk.ok__law_share F B o__law_lowest)
    have o__law_side:L2.Own Hd.p w (Hd.K w.params) mg base 3 "_law_side" ["_law_d","_law_cell_here","_law_at_here"] [] Bk.sp__law_side:=T__law_side.own (fun _ _ _ _ _ _ us hl=>match us,hl with | [_,_,_],_=>rfl) (fun f fd F=>Bk.ok__law_side F B o__law_sign o__law_lowest o__law_digits)
    have o_is_deed:L2.Own Hd.p w (Hd.K w.params) mg base 4 "is_deed" ["thing"] [] Bk.sp_is_deed:=T_is_deed.own (fun _ _ _ _ _ _ us hl=>match us,hl with | [_],_=>rfl) (fun f fd F=>Bk.ok_is_deed F B g_CUTS g_SHIFTS g_GLUINGS g_TURN o_is_length o_is_whole)
    have o_cut_across:L2.Own Hd.p w (Hd.K w.params) mg base 4 "cut_across" ["d","one","at"] [] Bk.sp_cut_across:=T_cut_across.own (fun _ _ _ _ _ _ us hl=>match us,hl with | [_,_,_],_=>rfl) (fun f fd F=>Bk.ok_cut_across F B g_NOUGHT o_under o_taken)
    have o__law_below:L2.Own Hd.p w (Hd.K w.params) mg base 4 "_law_below" ["_law_d","_law_one","_law_other"] [] Bk.sp__law_below:=T__law_below.own (fun _ _ _ _ _ _ us hl=>match us,hl with | [_,_,_],_=>rfl) (fun f fd F=>Bk.ok__law_below F B o__law_plus o__law_sign)
    have o__law_heap:L2.Own Hd.p w (Hd.K w.params) mg base 4 "_law_heap" ["_law_script","_law_d","_law_first"] [] (Bk.sp__law_heap (Hd.K w.params)):=T__law_heap.own (fun _ _ _ _ _ _ us hl=>match us,hl with | [_,_,_],_=>rfl) (fun f fd F=>Bk.ok__law_heap F B o__law_side o__law_cell o__law_digits)
    have o__law_new:L2.Own Hd.p w (Hd.K w.params) mg base 4 "_law_new" ["_law_deed_here","_law_some"] [] Bk.sp__law_new:=T__law_new.own (fun _ _ _ _ _ _ us hl=>match us,hl with | [_,_],_=>rfl) (fun f fd F=>Bk.ok__law_new F B o__law_plus o__law_share)
    have o__law_at:L2.Own Hd.p w (Hd.K w.params) mg base 5 "_law_at" ["_law_d","_law_digits_here","_law_side_here","_law_pool"] [] Bk.sp__law_at:=T__law_at.own (fun _ _ _ _ _ _ us hl=>match us,hl with | [_,_,_,_],_=>rfl) (fun f fd F=>Bk.ok__law_at F B o__law_share o__law_below)
    have o__law_done:L2.Own Hd.p w (Hd.K w.params) mg base 5 "_law_done" ["_law_lying","_law_used","_law_deed_here"] [] Bk.sp__law_done:=T__law_done.own (fun _ _ _ _ _ _ us hl=>match us,hl with | [_,_,_],_=>rfl) (fun f fd F=>Bk.ok__law_done F B o__law_new)
    have o__law_fits:L2.Own Hd.p w (Hd.K w.params) mg base 5 "_law_fits" ["_law_d","_law_deed_here","_law_lying","_law_turning"] [] Bk.sp__law_fits:=T__law_fits.own (fun _ _ _ _ _ _ us hl=>match us,hl with | [_,_,_,_],_=>rfl) (fun f fd F=>Bk.ok__law_fits F B o__law_below o__law_whole o__law_is_length)
    have o_Yard_put_by:L2.OwnM Hd.p w (Hd.K w.params) mg base L2.CX0 Hd.cs.Yard 5 "put_by" ["self","deed","boards"] [] (Bk.sp_Yard_put_by Hd.cs):=T_Yard_put_by.own X.c_Yard (fun _ _ _ _ _ _ us hl=>match us,hl with | [_,_,_],_=>rfl) (fun f fd F=>Bk.ok_Yard_put_by F B X o_cut_across o_turned o_glued_beside o_stacked)
    have o__law_deed:L2.Own Hd.p w (Hd.K w.params) mg base 6 "_law_deed" ["_law_d","_law_cell_here","_law_lying","_law_pool"] [] (Bk.sp__law_deed (Hd.K w.params)):=T__law_deed.own (fun _ _ _ _ _ _ us hl=>match us,hl with | [_,_,_,_],_=>rfl) (fun f fd F=>Bk.ok__law_deed F B o__law_digits o__law_at)
    have o__law_walked:L2.Own Hd.p w (Hd.K w.params) mg base 6 "_law_walked" ["_law_d","_law_heap_here","_law_plan_here","_law_turning"] [] Bk.sp__law_walked:=T__law_walked.own (fun _ _ _ _ _ _ us hl=>match us,hl with | [_,_,_,_],_=>rfl) (fun f fd F=>Bk.ok__law_walked F B o__law_begin o__law_done o__law_fits)
    have o_Yard_do:L2.OwnM Hd.p w (Hd.K w.params) mg base L2.CX0 Hd.cs.Yard 6 "do" ["self","deed"] [] (Bk.sp_Yard_do Hd.cs):=T_Yard_do.own X.c_Yard (fun _ _ _ _ _ _ us hl=>match us,hl with | [_,_],_=>rfl) (fun f fd F=>Bk.ok_Yard_do F B X g_TURN o_names_taken o_Yard_check_names o_Yard_put_by o_is_deed)
    have o_yard_behind:L2.Own Hd.p w (Hd.K w.params) mg base 7 "yard_behind" ["d","heap","plan","turning"] [] (Bk.sp_yard_behind Hd.cs):=T_yard_behind.own (fun _ _ _ _ _ _ us hl=>match us,hl with | [_,_,_,_],_=>rfl) (fun f fd F=>Bk.ok_yard_behind F B X o_Yard___init__ o_Yard_do)
    have o__law_plan:L2.Own Hd.p w (Hd.K w.params) mg base 7 "_law_plan" ["_law_d","_law_script","_law_heap_here","_law_pool","_law_turning"] [] (Bk.sp__law_plan (Hd.K w.params)):=T__law_plan.own (fun _ _ _ _ _ _ us hl=>match us,hl with | [_,_,_,_,_],_=>rfl) (fun f fd F=>Bk.ok__law_plan F B o__law_begin o__law_deed o__law_done o__law_digits)
    have o_walked:L2.Own Hd.p w (Hd.K w.params) mg base 8 "walked" ["d","heap","plan","turning"] [] (Bk.sp_walked Hd.cs):=T_walked.own (ds:=[]) (fun T _ _ _ _ _ _ us hl=>by have hl':us.length=4:=(by simpa using hl); match us,hl' with | [_,_,_,_],_=>exact ⟨_,rfl,rfl⟩) .nil (fun f fd F=>Bk.ok_walked F B o_Yard_heap o_yard_behind)
    have o_back:L2.Own Hd.p w (Hd.K w.params) mg base 8 "back" ["d","heap","plan"] [] (Bk.sp_back Hd.cs):=T_back.own (fun _ _ _ _ _ _ us hl=>match us,hl with | [_,_,_],_=>rfl) (fun f fd F=>Bk.ok_back F B o_yard_behind o_Yard_boards o_names_taken o_places_of o_count_put o_undoing)
    have o__law_right:L2.Own Hd.p w (Hd.K w.params) mg base 9 "_law_right" ["_law_d","_law_heap_here","_law_end","_law_found","_law_turning"] [] (Bk.sp__law_right Hd.cs):=T__law_right.own (fun _ _ _ _ _ _ us hl=>match us,hl with | [_,_,_,_,_],_=>rfl) (fun f fd F=>Bk.ok__law_right F B o__law_walked o_walked o__law_whole)
    exact Bk.ok_law F B o__law_root o__law_heap o__law_plan o_back o__law_right o__law_cell o__law_great
