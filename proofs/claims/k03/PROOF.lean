import PyProof.Rows.All
import Wide.All
import OpenK.AllK
import Wide.FinOn
import Lean
import PyProof.EqAt
import PyProof.EqKinds
import PyProof.TupleCall
import PyProof.NeKinds
import PyProof.EnumStmt
import PyProof.EnumMake
import PyProof.CompFree
import PyProof.Rows.FStr
import PySem.Challenge.RW_treesay_k03_machines_refused
set_option Elab.async false
set_option linter.all false
set_option maxRecDepth 100000
noncomputable section
namespace L2
open PySem PySem.Spec PyProof.Rows
abbrev Key := Sum Int Str
def keyIs : Key → Value → Bool
  | .inl k, v => Value.isInt k v
  | .inr x, v => Value.isStrOf x v
def keyH (w : World) : Key → Int
  | .inl k => hashInt k
  | .inr x => hashStr w x
theorem keyIs_shape : ∀ {k : Key} {v : Value}, keyIs k v = true → (∃ i t, k = Sum.inl i ∧ v = Value.int i t) ∨ (∃ x t, k = Sum.inr x ∧ v = Value.str x t)
  | .inl i, v, h => by
    obtain ⟨t, e⟩ := Value.isInt_shape (k := i) (v := v) h
    exact .inl ⟨i, t, rfl, e⟩
  | .inr x, v, h => by
    obtain ⟨t, e⟩ := Value.isStrOf_shape (x := x) (v := v) h
    exact .inr ⟨x, t, rfl, e⟩
theorem keyIs_int (i : Int) (t : Tok) : keyIs (.inl i) (.int i t) = true := by simp [keyIs, Value.isInt]
theorem keyIs_str (x : Str) (t : Tok) : keyIs (.inr x) (.str x t) = true := by simp [keyIs, Value.isStrOf]
theorem key_ll (a b : Int) : decide ((Sum.inl a : Key) = Sum.inl b) = (a == b) := by
  grind
theorem key_rr (a b : Str) : decide ((Sum.inr a : Key) = Sum.inr b) = decide (a = b) := by
  grind
theorem key_lr (a : Int) (b : Str) : decide ((Sum.inl a : Key) = Sum.inr b) = false := decide_eq_false (fun q => nomatch q)
theorem key_rl (a : Str) (b : Int) : decide ((Sum.inr a : Key) = Sum.inl b) = false := decide_eq_false (fun q => nomatch q)
def mixKind (prog : Program) (w : World) : PySem.KeyKind prog w Key where
  is := keyIs
  hash := keyH w
  inj := fun v a b m g => by
    rcases keyIs_shape m with ⟨i, t, rfl, rfl⟩ | ⟨x, t, rfl, rfl⟩
    · rcases keyIs_shape g with ⟨j, u, rfl, e⟩ | ⟨y, u, rfl, e⟩
      · injection e with d _; rw [d]
      · exact nomatch e
    · rcases keyIs_shape g with ⟨j, u, rfl, e⟩ | ⟨y, u, rfl, e⟩
      · exact nomatch e
      · injection e with d _; rw [d]
  byValue := fun k v h => by
    rcases keyIs_shape h with ⟨i, t, rfl, rfl⟩ | ⟨x, t, rfl, rfl⟩ <;> rfl
  pyHash := fun f h => by
    rcases keyIs_shape f with ⟨i, t, rfl, rfl⟩ | ⟨x, t, rfl, rfl⟩
    · exact wpAny_pyHash_int h
    · exact wpAny_pyHash_str h
  eqBool := fun l f h => by
    rcases keyIs_shape l with ⟨i, t, rfl, rfl⟩ | ⟨x, t, rfl, rfl⟩
    · rcases keyIs_shape f with ⟨j, u, rfl, rfl⟩ | ⟨y, u, rfl, rfl⟩
      · rw [key_ll] at h; exact wpAny_eqBool_int h
      · rw [key_lr] at h; exact SeqAt.EqAt.int_str i t y u _ _ _ _ h
    · rcases keyIs_shape f with ⟨j, u, rfl, rfl⟩ | ⟨y, u, rfl, rfl⟩
      · rw [key_rl] at h; exact SeqAt.EqAt.str_int x t j u _ _ _ _ h
      · rw [key_rr] at h; exact wpAny_eqBool_str h
  «strs» := fun k x t v h => by
    rcases keyIs_shape h with ⟨i, u, rfl, e⟩ | ⟨y, u, rfl, e⟩
    · exact nomatch e
    · injection e with d _
      subst d
      cases v <;> rfl
theorem mixKind_int (prog : Program) (w : World) (i : Int) (t : Tok) : (mixKind prog w).is (.inl i) (.int i t) = true := keyIs_int i t
theorem mixKind_str (prog : Program) (w : World) (x : Str) (t : Tok) : (mixKind prog w).is (.inr x) (.str x t) = true := keyIs_str x t
end L2
namespace L2
open PySem PySem.Spec PyProof.Rows
inductive V where
  | non | bl (b : Bool) | int (i : Int) | str (x : Str) | byt (b : Array UInt8) | flt (b : UInt64) | ref (a : Addr) | ty (n : String)
  deriving DecidableEq
def RelV : V → Value → Prop
  | .non, u => u = Value.none
  | .bl b, u => u = Value.bool b
  | .int i, u => ∃ t, u = Value.int i t
  | .str x, u => ∃ t, u = Value.str x t
  | .byt b, u => ∃ t, u = Value.bytes b t
  | .flt b, u => ∃ t, u = Value.float b t
  | .ref a, u => u = Value.ref a
  | .ty n, u => u = Value.type n
abbrev Vals : List V → List Value → Prop := Paired RelV
theorem Vals.length (r : Vals xs us) : xs.length = us.length := Paired.length r
theorem Vals.get : ∀ {xs : List V} {us : List Value} {i : Nat} {x : V}, Vals xs us → xs[i]? = some x → ∃ u, us[i]? = some u ∧ RelV x u
  | _, _, _, _, .nil, e => by simp at e
  | _, _, 0, _, .cons r _, e => by simp at e; subst e; exact ⟨_, rfl, r⟩
  | _, _, i + 1, x, .cons _ t, e => by
    obtain ⟨u, h1, h2⟩ := Vals.get (i := i) (x := x) t (by simpa using e)
    exact ⟨u, by simpa using h1, h2⟩
theorem Vals.set (r : RelV x u) : ∀ {xs : List V} {us : List Value} (i : Nat), Vals xs us → Vals (xs.set i x) (us.set i u)
  | _, _, _, .nil => .nil
  | _, _, 0, .cons _ t => .cons r t
  | _, _, i + 1, .cons q t => .cons q (Vals.set r i t)
theorem Vals.append : ∀ {xs ys : List V} {us ws : List Value}, Vals xs us → Vals ys ws → Vals (xs ++ ys) (us ++ ws)
  | _, _, _, _, .nil, s => s
  | _, _, _, _, .cons r t, s => .cons r (Vals.append t s)
theorem Vals.take : ∀ {xs : List V} {us : List Value} (n : Nat), Vals xs us → Vals (xs.take n) (us.take n)
  | _, _, 0, _ => .nil
  | _, _, _ + 1, .nil => .nil
  | _, _, n + 1, .cons r t => .cons r (Vals.take n t)
theorem Vals.drop : ∀ {xs : List V} {us : List Value} (n : Nat), Vals xs us → Vals (xs.drop n) (us.drop n)
  | _, _, 0, r => r
  | _, _, _ + 1, .nil => .nil
  | _, _, n + 1, .cons _ t => Vals.drop n t
noncomputable def RelO : Option V → Option Value → Prop
  | some v, some u => RelV v u
  | none, none => True
  | _, _ => False
def KV {κ : Type} : List (κ × V) → List (κ × Value) → Prop := Paired fun (p : κ × V) (q : κ × Value) => p.1 = q.1 ∧ RelV p.2 q.2
def kV : Key → V
  | .inl i => .int i
  | .inr x => .str x
inductive HO where
  | lst (xs : List V)
  | tup (xs : List V)
  | dK (kvs : List (Key × V)) | dT (kvs : List (List Key × V))
  | set (S : Int → Bool) (n : Nat)
  | ins (C dx : Addr) (fs : List (Str × V))
  | own (x : Addr)
  | xd (fs : List (Str × V))
  | met (f x : Addr)
  | rng (lo hi : Int)
  | frz (o : Obj) (u : HO)
  | tbl (ps : Array Value)
  | ext (φ : Heap → Prop)
abbrev Hp := Addr → Option HO
def upd (H : Hp) (a : Addr) (o : HO) : Hp := fun b => if b = a then some o else H b
theorem upd_same : upd H a o a = some o := by unfold upd; grind
theorem upd_ne (h : b ≠ a) : upd H a o b = H b := by unfold upd; rw [if_neg h]
theorem ne_of {H : Hp} {a b : Addr} {o u : HO} (h : H a = some o) (h' : H b = some u) (d : o ≠ u) : a ≠ b := by
  grind
theorem ne_of_none {H : Hp} {a b : Addr} {o : HO} (h : H a = some o) (h' : H b = none) : a ≠ b := by
  grind
section
variable (P : Program) (w : World)
def ObjOk (H : Hp) (h : Heap) (a : Addr) : HO → Prop
  | .lst e => e.length ≤ sizeLine ∧ ∃ (b : List Value) (n : Nat), Vals e b ∧ h.get? a = some { cls := .type "list", data := .seq b.toArray n }
  | .tup e => e.length ≤ sizeLine ∧ ∃ b : List Value, Vals e b ∧ IsTup h a b.toArray
  | .dK d => d.length ≤ sizeLine ∧ (a == sysModules) = false ∧ ∃ l, KV d l ∧ h.DictOf (mixKind P w) a l
  | .dT d => d.length ≤ sizeLine ∧ (a == sysModules) = false ∧ ∃ e : List (List Key × Addr × Value),
      Paired (fun (p : List Key × V) (q : List Key × Addr × Value) => p.1 = q.1 ∧ H q.2.1 = some (.tup (p.1.map kV)) ∧ RelV p.2 q.2.2) d e ∧
      ∃ o k z, h.get? a = some o ∧ o.ExactDict ∧ o.data = .dict k z ∧ k.toList = e.map (entryOfKey (tupleKind (mixKind P w))) ∧ (e.map (·.1)).Nodup
  | .set S n => h.SetOf (intKind P w) a S n
  | .ins C j i => H j = some (.own a) ∧ i.length ≤ 1000 ∧ j ≠ a ∧ h.get? a = some (PySem.W.instObj C j) ∧
      ∃ g, h.Ns1 j g ∧ (∀ f, RelO (i.lookup f) (g f)) ∧ PySem.Within g (i.map (·.1))
  | .own _ => ∃ o, h.get? a = some o
  | .xd i => ∃ g, h.Ns1 a g ∧ ∀ f, RelO (i.lookup f) (g f)
  | .rng lo s => ∃ t u v, h.get? a = some { cls := .type "range", data := .fields #[.int lo t, .int s u, .int 1 v] }
  | .frz o u => h.get? a = some o ∧ ObjOk H h a u
  | .tbl y => h.get? a = some { cls := .none, data := .fields y }
  | .met f x => h.get? a = some (PySem.W.methodObj (.ref f) (.ref x))
  | .ext φ => φ h ∧ (∃ o, h.get? a = some o) ∧ ∀ r m : Heap, φ r → (∀ o, r.get? a = some o → m.get? a = some o) → φ m
def HOk (H : Hp) (h : Heap) : Prop := ∀ a o, H a = some o → ObjOk P w H h a o
end
section
variable {P : Program} {w : World} {H H' : Hp} {h h' : Heap} {a : Addr} {o : HO}
theorem ObjOk.lt (x : ObjOk P w H h a o) : a < h.objs.size := by
  cases o with
  | lst d => obtain ⟨_, _, _, _, e⟩ := x; exact Heap.lt_size e
  | tup d => obtain ⟨_, _, _, p⟩ := x; exact p.lt
  | dK b => obtain ⟨_, _, _, _, o, _, _, e, _⟩ := x; exact Heap.lt_size e
  | dT b => obtain ⟨_, _, _, _, o, _, _, e, _⟩ := x; exact Heap.lt_size e
  | set S n => obtain ⟨o, _, _, _, e, _⟩ := x; exact Heap.lt_size e
  | ins C dx c => obtain ⟨_, _, _, e, _⟩ := x; exact Heap.lt_size e
  | own y => obtain ⟨_, e⟩ := x; exact Heap.lt_size e
  | xd c => obtain ⟨_, ⟨_, _, _, e, _⟩, _⟩ := x; exact Heap.lt_size e
  | rng lo hi => obtain ⟨_, _, _, e⟩ := x; exact Heap.lt_size e
  | frz ob u => obtain ⟨e, _⟩ := x; exact Heap.lt_size e
  | tbl ps => exact Heap.lt_size (x)
  | met f y => exact Heap.lt_size (x)
  | ext φ => obtain ⟨_, ⟨_, e⟩, _⟩ := x; exact Heap.lt_size e
theorem Paired.mapP {α β : Type} {F G : α → β → Prop} : ∀ {l₁ : List α} {l₂ : List β}, Paired F l₁ l₂ → (∀ a b, F a b → G a b) → Paired G l₁ l₂
  | _, _, .nil, _ => .nil
  | _, _, .cons r t, f => .cons (f _ _ r) (Paired.mapP t f)
theorem ObjOk.stay (x : ObjOk P w H h a o) (k : ∀ b u, (b = a ∨ H b = some (.own a)) → h.get? b = some u → h'.get? b = some u)
    (ho : ∀ b, H b = some (.own a) → H' b = some (.own a)) (ht : ∀ b xs, H b = some (.tup xs) → H' b = some (.tup xs)) : ObjOk P w H' h' a o := by
  induction o with
  | lst xs => obtain ⟨z, its, n, r, e⟩ := x; exact ⟨z, its, n, r, k _ _ (.inl rfl) e⟩
  | tup xs => obtain ⟨z, its, r, ob, e, c⟩ := x; exact ⟨z, its, r, ob, k _ _ (.inl rfl) e, c⟩
  | dK kvs => obtain ⟨z, y, vs, r, ob, es, ep, e, c⟩ := x; exact ⟨z, y, vs, r, ob, es, ep, k _ _ (.inl rfl) e, c⟩
  | dT kvs =>
    obtain ⟨z, y, xs, r, ob, es, ep, e, c⟩ := x
    exact ⟨z, y, xs, Paired.mapP r fun p q z => ⟨z.1, ht _ _ z.2.1, z.2.2⟩, ob, es, ep, k _ _ (.inl rfl) e, c⟩
  | set S n => obtain ⟨ob, es, ep, t, e, c⟩ := x; exact ⟨ob, es, ep, t, k _ _ (.inl rfl) e, c⟩
  | ins C dx fs =>
    obtain ⟨d, z, ne, e, mA, ⟨od, es, ep, e2, c⟩, r⟩ := x
    exact ⟨ho _ d, z, ne, k _ _ (.inl rfl) e, mA, ⟨od, es, ep, k _ _ (.inr d) e2, c⟩, r⟩
  | own y => obtain ⟨ob, e⟩ := x; exact ⟨ob, k _ _ (.inl rfl) e⟩
  | xd fs => obtain ⟨mA, ⟨od, es, ep, e, c⟩, r⟩ := x; exact ⟨mA, ⟨od, es, ep, k _ _ (.inl rfl) e, c⟩, r⟩
  | rng lo hi => obtain ⟨t, u, v, e⟩ := x; exact ⟨t, u, v, k _ _ (.inl rfl) e⟩
  | frz ob u ih => obtain ⟨e, q⟩ := x; exact ⟨k _ _ (.inl rfl) e, ih q⟩
  | tbl ps =>
    have e : h.get? a = some { cls := .none, data := .fields ps } := x
    show h'.get? a = some { cls := .none, data := .fields ps }
    exact k a _ (.inl rfl) e
  | met f y =>
    have e : h.get? a = some (PySem.W.methodObj (.ref f) (.ref y)) := x
    show h'.get? a = some (PySem.W.methodObj (.ref f) (.ref y))
    exact k a _ (.inl rfl) e
  | ext φ => obtain ⟨p, ⟨o, e⟩, st⟩ := x; exact ⟨st _ _ p fun o q => k _ _ (.inl rfl) q, ⟨o, k _ _ (.inl rfl) e⟩, st⟩
theorem HOk.lt (x : HOk P w H h) (e : H a = some o) : a < h.objs.size := (x a o e).lt
theorem HOk.fresh (x : HOk P w H h) (e : h.objs.size ≤ a) : H a = none := by
  cases q : H a with
  | none => rfl
  | some u => exact absurd (Nat.lt_of_lt_of_le (x.lt q) e) (Nat.lt_irrefl _)
theorem HOk.kept (x : HOk P w H h) (k : ∀ b u, h.get? b = some u → h'.get? b = some u) : HOk P w H h' := fun a o e =>
  (x a o e).stay (fun b u _ q => k b u q) (fun _ q => q) fun _ _ q => q
theorem HOk.laid (x : HOk P w H h) (k : ∀ b u, h.get? b = some u → h'.get? b = some u) (g : h.objs.size ≤ a) (new : ObjOk P w (upd H a o) h' a o) : HOk P w (upd H a o) h' := fun b u e => by
  have f := x.fresh g
  by_cases d : b = a
  · subst d; rw [upd_same] at e; grind
  · rw [upd_ne d] at e
    exact (x b u e).stay (fun c v _ q => k c v q) (fun c q => by rw [upd_ne (ne_of_none q f)]; exact q) fun c xs q => by rw [upd_ne (ne_of_none q f)]; exact q
end
def Rd (H : Hp) (a : Addr) (u : HO) : Prop := H a = some u ∨ ∃ o, H a = some (.frz o u)
theorem Rd.ok (r : Rd H a u) (x : HOk P w H h) : ObjOk P w H h a u := by
  rcases r with r | ⟨o, r⟩
  · exact x a u r
  · obtain ⟨_, q⟩ := x a _ r
    exact q
noncomputable def Mut : Option HO → Prop
  | some (.lst _) => True
  | some (.dK _) => True
  | some (.dT _) => True
  | some (.set _ _) => True
  | some (.ins _ _ _) => True
  | some (.ext _) => True
  | _ => False
section
variable {P : Program} {w : World} {H : Hp} {h h' : Heap} {x e : Addr} {o' : HO}
theorem HOk.write (m : HOk P w H h) (g : Mut (H x)) (he : e = x ∨ H e = some (.own x)) (k : ∀ b u, b ≠ e → h.get? b = some u → h'.get? b = some u) (i : ∃ u, h'.get? e = some u)
    (new : ObjOk P w (upd H x o') h' x o') : HOk P w (upd H x o') h' := fun b u q => by
  have a : ∀ c y, H c = some (.own y) → c ≠ x := fun c y r z => by subst z; rw [r] at g; exact g
  have d : ∀ c f, H c = some (.tup f) → c ≠ x := fun c f r z => by subst z; rw [r] at g; exact g
  by_cases j : b = x
  · subst j; rw [upd_same] at q; grind
  · rw [upd_ne j] at q
    by_cases hbe : b = e
    · have l : H b = some (.own x) := by
        grind
      rw [q] at l; cases l
      obtain ⟨v, hv⟩ := i
      exact ⟨v, by grind⟩
    · refine (m b u q).stay (fun c v hc r => k c v ?_ r) (fun c r => by rw [upd_ne (a c b r)]; exact r) fun c f r => by rw [upd_ne (d c f r)]; exact r
      grind
end
structure Un (fs ex : List Addr) (H H' : Hp) (h h' : Heap) : Prop where
  keep : ∀ b o, h.get? b = some o → H b = none → b ∉ fs → b ∉ ex → h'.get? b = some o
  slot : ∀ b o, h.get? b = some o → H b = none → b ∈ fs → b ∉ ex → ∃ sl, h'.get? b = some { o with slots := sl }
  free : ∀ b o, h.get? b = some o → H b = none → b ∉ ex → H' b = none
  there : ∀ b o, h.get? b = some o → b ∉ ex → ∃ o', h'.get? b = some o'
  tups : ∀ b xs, H b = some (.tup xs) → H' b = some (.tup xs)
  frzs : ∀ b o u, H b = some (.frz o u) → H' b = some (.frz o u)
  tbls : ∀ b ps, H b = some (.tbl ps) → ∃ more, H' b = some (.tbl (ps ++ more))
section
variable {fs fs' ex ex' : List Addr} {H H1 H2 : Hp} {h h1 h2 h' : Heap} {a x e : Addr} {o : HO}
theorem Un.any (u : Un fs ex H H1 h h1) (q : h.get? b = some ob) (n : H b = none) (d : b ∉ ex) : ∃ f, h1.get? b = some { ob with slots := f } := by
  by_cases c : b ∈ fs
  · exact u.slot b ob q n c d
  · exact ⟨ob.slots, u.keep b ob q n c d⟩
theorem Un.kept (k : ∀ b u, h.get? b = some u → h'.get? b = some u) : Un fs ex H H h h' :=
  ⟨fun b ob q _ _ _ => k b ob q, fun b ob q _ _ _ => ⟨ob.slots, k b ob q⟩, fun _ _ _ n _ => n, fun b ob q _ => ⟨ob, k b ob q⟩, fun _ _ q => q, fun _ _ _ q => q, fun _ ps q => ⟨#[], by rw [q]; simp⟩⟩
theorem Un.refl : Un fs ex H H h h := Un.kept fun _ _ q => q
theorem Un.laid (k : ∀ b u, h.get? b = some u → h'.get? b = some u) (d : h.objs.size ≤ a) (c : H a = none) : Un fs ex H (upd H a o) h h' where
  keep := fun b u q _ _ _ => k b u q
  slot := fun b u q _ _ _ => ⟨u.slots, k b u q⟩
  free := fun b u q n _ => by rw [upd_ne (Nat.ne_of_lt (Nat.lt_of_lt_of_le (Heap.lt_size q) d))]; exact n
  there := fun b u q _ => ⟨u, k b u q⟩
  tups := fun b f q => by rw [upd_ne (ne_of_none q c)]; exact q
  frzs := fun b u f q => by rw [upd_ne (ne_of_none q c)]; exact q
  tbls := fun b ps q => ⟨#[], by rw [upd_ne (ne_of_none q c), q]; simp⟩
theorem Un.write (d : Mut (H x)) (he : e = x ∨ H e = some (.own x)) (k : ∀ b u, b ≠ e → h.get? b = some u → h'.get? b = some u) (heo : ∃ u, h'.get? e = some u) : Un fs ex H (upd H x o) h h' := by
  have g : ∀ b, H b = none → b ≠ x := fun b n z => by subst z; rw [n] at d; exact d
  have f : ∀ b, H b = none → b ≠ e := fun b n z => by
    grind
  have c : ∀ b u, H b = some u → ¬ Mut (some u) → b ≠ x := fun b u q nm z => by grind
  refine ⟨fun b u q n _ _ => k b u (f b n) q, fun b u q n _ _ => ⟨u.slots, k b u (f b n) q⟩, fun b u q n _ => by rw [upd_ne (g b n)]; exact n, fun b u q _ => ?_,
    fun b i q => by rw [upd_ne (c b _ q fun z => z)]; exact q, fun b u i q => by rw [upd_ne (c b _ q fun z => z)]; exact q, fun b ps q => ⟨#[], by rw [upd_ne (c b _ q fun z => z), q]; simp⟩⟩
  grind
end
def trk (h : Heap) (H : Hp) : List Addr := (List.range h.objs.size).filter fun a => (H a).isSome
def hidT (h : Heap) (H : Hp) : Heap := PySem.W.hideAll h (trk h H)
theorem hidT_size (h : Heap) (H : Hp) : (hidT h H).objs.size = h.objs.size := PySem.W.hideAll_size _ _
theorem hidT_get {h : Heap} (e : h.get? b = some o) (n : H b = none) : (hidT h H).get? b = some o :=
  PySem.W.hideAll_get _ e fun a => by
    have q := (List.mem_filter.mp a).2
    grind
theorem of_hidT (e : (hidT h H).get? b = some o) : h.get? b = some o ∧ H b = none := by
  have c := PySem.W.of_hideAll (trk h H) e
  refine ⟨c, ?_⟩
  cases q : H b with
  | none => rfl
  | some x =>
    have d : b ∈ trk h H := List.mem_filter.mpr ⟨List.mem_range.mpr (Heap.lt_size c), by simp [q]⟩
    have z : (hidT h H).get? b = none := PySem.W.hideAll_none (trk h H) d
    grind
def allNews (g h : Heap) (L : Addr) : List (Addr × Obj) := (List.range h.objs.size).filterMap fun a => if a = L ∨ (g.get? a).isSome = true then none else (h.get? a).map fun o => (a, o)
def rest (g h : Heap) (L d : Addr) : List (Addr × Obj) := (allNews g h L).filter fun p => decide (p.1 ≠ d)
end L2
namespace L2
open PySem PySem.Spec PyProof.Rows
structure Mod (K : PySem.W.Frag) (mg : Str → Option Value) (base : Heap) : Prop where
  kin : K.In base
  glob : base.Ns mainGlobals mg
  blt : ∃ mb, base.Ns builtinsNs mb ∧ ∀ x : Str, x ≠ "__name__" → mb x = bootBuiltins x
  nolimit : base.NoLimit
structure Cx where
  prog : Program
  w : World
  K : PySem.W.Frag
  mg : Str → Option Value
  base : Heap
  A : Around
  N : List Str
  s₀ : Shared
  H₀ : Hp
  env : Env
  outer : List Env
  stack : List Env
  ex : List Addr
  fn : Str → Bool
  calm : Bool
  pn : List (Addr × Obj)
  xe : Value → Shared → Prop
def frs (l : List Env) : List Addr := l.filterMap (·.frame)
abbrev Cx.fs (X : Cx) : List Addr := frs X.outer
def Vis (a : Scope) (x : Str) : Prop := a.names.lookup x = some .local ∨ a.names.lookup x = some .cell ∨ a.names.lookup x = some .free
def Loc (a : Scope) (x : Str) : Prop := a.names.lookup x = some .local ∨ a.names.lookup x = some .cell
def Look (env : Env) (h : Heap) (m : Str → Option Value) (x : Str) (u : Value) : Prop :=
  (env.kindOf x = some .local ∧ m x = some u) ∨ ((env.kindOf x = some .cell ∨ env.kindOf x = some .free) ∧ ∃ c, env.cells.lookup x = some c ∧ h.IsCell c (some u))
structure Cx.Ok (X : Cx) : Prop where
  mod : Mod X.K X.mg X.base
  kind : X.env.scope.kind = .function
  glob : X.env.globals = mainGlobals
  blt : X.env.builtins = builtinsNs
  above : X.s₀.heap.objs.size ≤ X.env.locals
  inj : ∀ x y c, X.env.cells.lookup x = some c → X.env.cells.lookup y = some c → x = y
  has : ∀ x, (X.env.kindOf x = some .cell ∨ X.env.kindOf x = some .free) → ∃ c, X.env.cells.lookup x = some c
  cab : ∀ x c, X.fn x = true → X.env.cells.lookup x = some c → X.s₀.heap.objs.size ≤ c
  hd : X.calm = true → X.A.handled = none
  frames : X.A.frames = some X.stack
  stk : X.stack = X.outer ∨ (X.stack = X.env :: X.outer ∧ X.env.frame = some X.env.locals)
  exf : ∀ b ∈ X.ex, b ≠ X.env.locals ∧ ∀ x c, X.env.cells.lookup x = some c → c ≠ b
  bs : ∀ b o, X.base.get? b = some o → X.s₀.heap.get? b = some o ∧ X.H₀ b = none
  bsz : X.base.objs.size ≤ X.s₀.heap.objs.size
  noex : ∀ b o, X.base.get? b = some o → b ∉ X.ex
  exfs : ∀ b ∈ X.ex, b ∉ X.fs
  funs : X.s₀.heap.FunFrames X.base X.outer
  frf : ∀ b ∈ X.fs, X.H₀ b = none
structure Inv (X : Cx) (pins : List (Addr × Obj)) (σ : List (Option V)) (H : Hp) (s : Shared) : Prop where
  ok : X.Ok
  os : s.os = X.s₀.os
  bare : AllBare s.gens
  base : Un X.fs X.ex X.H₀ H X.s₀.heap s.heap
  loc : ∃ m, s.heap.Ns X.env.locals m ∧ ∀ (i : Nat) (x : Str) (v : V), X.N[i]? = some x → σ[i]? = some (some v) → Vis X.env.scope x → ∃ u, RelV v u ∧ Look X.env s.heap m x u
  cell : ∀ x c, X.env.cells.lookup x = some c → ∃ v, s.heap.IsCell c v
  free : H X.env.locals = none
  freeC : ∀ x c, X.env.cells.lookup x = some c → H c = none
  pin : ∀ p ∈ X.pn ++ pins, s.heap.get? p.1 = some p.2 ∧ H p.1 = none ∧ p.1 ≠ X.env.locals ∧ p.1 ∉ X.fs ∧ ∀ v, p.2.data ≠ .cell v
  hok : HOk X.prog X.w H s.heap
  len : σ.length = X.N.length
section
variable {X : Cx} {pins : List (Addr × Obj)} {σ : List (Option V)} {H H' : Hp} {s : Shared} {h' : Heap}
theorem Cx.Ok.nofr (c : X.Ok) (e : X.base.get? b = some o) : b ∉ X.fs := fun a => by
  have := (c.funs.mem a).1
  grind
theorem Inv.bs (I : Inv X pins σ H s) : ∀ b o, X.base.get? b = some o → s.heap.get? b = some o ∧ H b = none := fun b o e =>
  ⟨I.base.keep b o (I.ok.bs b o e).1 (I.ok.bs b o e).2 (I.ok.nofr e) (I.ok.noex b o e), I.base.free b o (I.ok.bs b o e).1 (I.ok.bs b o e).2 (I.ok.noex b o e)⟩
theorem Inv.bk (I : Inv X pins σ H s) : ∀ b o, X.base.get? b = some o → s.heap.get? b = some o := fun b o e => (I.bs b o e).1
theorem Inv.mod (I : Inv X pins σ H s) : Mod X.K X.mg X.base := I.ok.mod
theorem Inv.kIn (I : Inv X pins σ H s) : X.K.In s.heap := I.ok.mod.kin.keeps I.bk
theorem Inv.nolimit (I : Inv X pins σ H s) : s.heap.NoLimit := I.ok.mod.nolimit.keeps I.bk
theorem Inv.lt (I : Inv X pins σ H s) : X.env.locals < s.heap.objs.size := let ⟨_, a, _⟩ := I.loc; a.lt
theorem Inv.sz (I : Inv X pins σ H s) : X.s₀.heap.objs.size ≤ s.heap.objs.size := Nat.le_trans I.ok.above (Nat.le_of_lt I.lt)
theorem Inv.nofs (I : Inv X pins σ H s) (h : s.heap.objs.size ≤ a) : a ∉ X.fs := fun c => by
  obtain ⟨_, o, b, _⟩ := I.ok.funs.mem c
  exact absurd (Nat.lt_of_lt_of_le (Heap.lt_size b) (Nat.le_trans I.sz h)) (Nat.lt_irrefl _)
theorem Inv.cne (I : Inv X pins σ H s) : ∀ x c, X.env.cells.lookup x = some c → c ≠ X.env.locals := fun x c e z => by
  obtain ⟨v, o, ho, hd⟩ := I.cell x c e
  obtain ⟨m, ⟨o', es, ep, ho', hd', _⟩, _⟩ := I.loc
  grind
theorem Inv.funs (I : Inv X pins σ H s) : s.heap.FunFrames X.base X.outer := by
  have a : ∀ (l : List Env), (∀ b ∈ frs l, b ∈ X.fs) → X.s₀.heap.FunFrames X.base l → s.heap.FunFrames X.base l := by
    intro l
    induction l with
    | nil => intro _ _; trivial
    | cons env r ih =>
      intro g j
      obtain ⟨n, ⟨L, o, f, h, k, m⟩, i⟩ := j
      have d := g L (by unfold frs; grind)
      obtain ⟨sl, e⟩ := I.base.slot L o k (I.ok.frf L d) d fun z => I.ok.exfs L z d
      exact ⟨n, ⟨L, _, f, h, e, m⟩, ih (fun b c => g b (by unfold frs; rw [List.filterMap_cons, f]; exact List.mem_cons_of_mem _ c)) i⟩
  exact a X.outer (fun _ c => c) I.ok.funs
theorem Inv.stack (I : Inv X pins σ H s) : s.heap.FunFrames X.base X.stack := by
  rcases I.ok.stk with e | ⟨e, c⟩
  · rw [e]; exact I.funs
  · rw [e]
    obtain ⟨m, b, _⟩ := I.loc
    refine .cons (by rw [I.ok.kind]; decide) c b ?_ I.funs
    exact Heap.get?_none_of_le (Nat.le_trans I.ok.bsz I.ok.above)
theorem Inv.stkSub (I : Inv X pins σ H s) : ∀ b ∈ frs X.stack, b ∈ X.env.locals :: X.fs := fun b a => by
  rcases I.ok.stk with e | ⟨e, c⟩
  · grind
  · rw [e] at a
    unfold frs at a
    rw [List.filterMap_cons, c] at a
    exact a
theorem Inv.stkFree (I : Inv X pins σ H s) : ∀ b ∈ frs X.stack, H b = none := fun b a => by
  rcases List.mem_cons.mp (I.stkSub b a) with e | a
  · rw [e]; exact I.free
  · obtain ⟨_, o, c, _⟩ := I.ok.funs.mem a
    exact I.base.free b o c (I.ok.frf b a) fun z => I.ok.exfs b z a
theorem Inv.step {g' : Array GenState} {t' : Nat} {d' : Drawn} {ch : List Addr} (I : Inv X pins σ H s)
    (hch : ∀ b ∈ ch, (b ∈ X.ex ∨ X.s₀.heap.objs.size ≤ b) ∧ b ≠ X.env.locals ∧ (∀ x c, X.env.cells.lookup x = some c → c ≠ b) ∧ ∀ p ∈ X.pn ++ pins, p.1 ≠ b)
    (keep : ∀ b o, b ≠ X.env.locals → b ∉ X.fs → b ∉ ch → s.heap.get? b = some o → H b = none → h'.get? b = some o)
    (slot : ∀ b o, b ≠ X.env.locals → b ∈ X.fs → b ∉ ch → s.heap.get? b = some o → H b = none → ∃ sl, h'.get? b = some { o with slots := sl }) (free : ∀ b o, b ∉ ch → s.heap.get? b = some o → H b = none → H' b = none)
    (there : ∀ b o, b ∉ ch → s.heap.get? b = some o → ∃ o', h'.get? b = some o')
    (tups : ∀ b xs, H b = some (.tup xs) → H' b = some (.tup xs)) (frzs : ∀ b o u, H b = some (.frz o u) → H' b = some (.frz o u)) (tbls : ∀ b ps, H b = some (.tbl ps) → ∃ more, H' b = some (.tbl (ps ++ more)))
    (ns : ∀ m, s.heap.Ns X.env.locals m → h'.Ns X.env.locals m) (hok : HOk X.prog X.w H' h') (hg : AllBare g') :
    Inv X pins σ H' { s with heap := h', gens := g', drawn := d', toks := t' } := by
  have neL : ∀ b o, X.s₀.heap.get? b = some o → b ≠ X.env.locals := fun b o e => Nat.ne_of_lt (Nat.lt_of_lt_of_le (Heap.lt_size e) I.ok.above)
  have neC : ∀ b o, X.s₀.heap.get? b = some o → b ∉ X.ex → b ∉ ch := fun b o e hx hb => by
    rcases (hch b hb).1 with z | z
    · exact hx z
    · exact absurd (Nat.lt_of_lt_of_le (Heap.lt_size e) z) (Nat.lt_irrefl _)
  have cellK : ∀ x c, X.env.cells.lookup x = some c → ∀ v, s.heap.IsCell c v → h'.IsCell c v := fun x c e v ⟨o, ho, hd⟩ => by
    have nch : c ∉ ch := fun z => (hch c z).2.2.1 x c e rfl
    by_cases hc : c ∈ X.fs
    · obtain ⟨sl, q⟩ := slot c o (I.cne x c e) hc nch ho (I.freeC x c e)
      exact ⟨_, q, hd⟩
    · exact ⟨o, keep c o (I.cne x c e) hc nch ho (I.freeC x c e), hd⟩
  refine ⟨I.ok, I.os, hg, ⟨fun b o e n hb hx => ?_, fun b o e n hb hx => ?_, fun b o e n hx => ?_, fun b o e hx => ?_, fun b xs e => tups b xs (I.base.tups b xs e), fun b o xs e => frzs b o xs (I.base.frzs b o xs e), fun b ps e => ?_⟩, ?_, fun x c e => ?_, ?_, fun x c e => ?_, fun p hp => ?_, hok, I.len⟩
  · exact keep b o (neL b o e) hb (neC b o e hx) (I.base.keep b o e n hb hx) (I.base.free b o e n hx)
  · obtain ⟨sl, e1⟩ := I.base.slot b o e n hb hx
    obtain ⟨sl', e2⟩ := slot b _ (neL b o e) hb (neC b o e hx) e1 (I.base.free b o e n hx)
    exact ⟨sl', e2⟩
  · obtain ⟨o', e1⟩ := I.base.there b o e hx
    exact free b o' (neC b o e hx) e1 (I.base.free b o e n hx)
  · obtain ⟨o', e1⟩ := I.base.there b o e hx
    exact there b o' (neC b o e hx) e1
  · obtain ⟨m1, e1⟩ := I.base.tbls b ps e
    obtain ⟨m2, e2⟩ := tbls b _ e1
    exact ⟨m1 ++ m2, by rw [e2, Array.append_assoc]⟩
  · obtain ⟨m, hn, hl⟩ := I.loc
    refine ⟨m, ns m hn, fun i x v e1 e2 e3 => ?_⟩
    obtain ⟨u, r, l⟩ := hl i x v e1 e2 e3
    refine ⟨u, r, ?_⟩
    rcases l with l | ⟨k, c, e, z⟩
    · exact .inl l
    · exact .inr ⟨k, c, e, cellK x c e _ z⟩
  · obtain ⟨v, z⟩ := I.cell x c e
    exact ⟨v, cellK x c e v z⟩
  · obtain ⟨m, ⟨o, _, _, ho, _⟩, _⟩ := I.loc
    exact free _ o (fun z => (hch _ z).2.1 rfl) ho I.free
  · obtain ⟨v, o, ho, hd⟩ := I.cell x c e
    exact free c o (fun z => (hch c z).2.2.1 x c e rfl) ho (I.freeC x c e)
  · obtain ⟨e, n, ne, nf, d⟩ := I.pin p hp
    have nch : p.1 ∉ ch := fun z => (hch p.1 z).2.2.2 p hp rfl
    exact ⟨keep p.1 p.2 ne nf nch e n, free p.1 p.2 nch e n, ne, nf, d⟩
theorem Inv.un (I : Inv X pins σ H s) (u : Un X.fs [] H H' s.heap h') (c : HOk X.prog X.w H' h') : Inv X pins σ H' { s with heap := h', toks := t' } := by
  obtain ⟨m, ⟨o, es, ep, h, r⟩, _⟩ := id I.loc
  obtain ⟨sl, i⟩ := u.any h I.free (by simp)
  exact I.step (ch := []) (fun _ z => nomatch z) (fun b o _ f _ e n => u.keep b o e n f (by simp)) (fun b o _ f _ e n => u.slot b o e n f (by simp)) (fun b o _ e n => u.free b o e n (by simp)) (fun b o _ e => u.there b o e (by simp)) u.tups u.frzs u.tbls (fun m' k => by
    obtain ⟨o', g, d, a, j⟩ := k
    rw [h] at a; cases a
    exact ⟨_, g, d, i, j⟩) c I.bare
theorem Inv.call (I : Inv X pins σ H s) (u : Un (frs X.stack) ch H H' s.heap h') (i : HOk X.prog X.w H' h') (y : AllBare g')
    (f : ∀ b ∈ ch, (b ∈ X.ex ∨ X.s₀.heap.objs.size ≤ b) ∧ b ≠ X.env.locals ∧ (∀ x c, X.env.cells.lookup x = some c → c ≠ b) ∧ ∀ p ∈ X.pn ++ pins, p.1 ≠ b) :
    Inv X pins σ H' { s with heap := h', gens := g', drawn := d', toks := t' } := by
  obtain ⟨m, ⟨o, es, ep, l, r⟩, _⟩ := id I.loc
  obtain ⟨sl, j⟩ := u.any l I.free fun z => (f _ z).2.1 rfl
  exact I.step f (fun b o j q d e n => u.keep b o e n (fun z => (List.mem_cons.mp (I.stkSub b z)).elim j q) d) (fun b o _ _ d e n => u.any e n d) (fun b o d e n => u.free b o e n d) (fun b o d e => u.there b o e d) u.tups u.frzs u.tbls (fun m' t => by
    obtain ⟨o', k, h, g, v⟩ := t
    rw [l] at g; cases g
    exact ⟨_, k, h, j, v⟩) i y
theorem Inv.turned (I : Inv X pins σ H s) (k : ∀ b o, b ≠ a → s.heap.get? b = some o → h'.get? b = some o) (hn : H a = none) (i : a ≠ X.env.locals)
    (h1 : a ∈ X.ex ∨ X.s₀.heap.objs.size ≤ a) (h2 : ∀ x c, X.env.cells.lookup x = some c → c ≠ a) (h3 : ∀ p ∈ X.pn ++ pins, p.1 ≠ a) : Inv X pins σ H { s with heap := h', toks := t' } := by
  refine I.step (g' := s.gens) (d' := s.drawn) (ch := [a]) (fun b hb => ?_) (fun b o _ _ d e _ => k b o (fun z => d (by simp [z])) e) (fun b o _ _ d e _ => ⟨o.slots, k b o (fun z => d (by simp [z])) e⟩) (fun _ _ _ _ n => n)
    (fun b o d e => ⟨o, k b o (fun z => d (by simp [z])) e⟩) (fun _ _ e => e) (fun _ _ _ e => e) (fun b ps e => ⟨#[], by grind⟩) (fun m f => ?_) (fun b u e => ?_) I.bare
  · grind
  · obtain ⟨o, j, h, g, r⟩ := f
    exact ⟨o, j, h, k _ o (Ne.symm i) g, r⟩
  · refine (I.hok b u e).stay (fun c v d q => k c v ?_ q) (fun _ q => q) fun _ _ q => q
    grind
theorem Inv.tok (I : Inv X pins σ H s) (t : Nat) : Inv X pins σ H { s with toks := t } := I.un Un.refl I.hok
theorem Inv.kept (I : Inv X pins σ H s) (k : ∀ b u, s.heap.get? b = some u → h'.get? b = some u) : Inv X pins σ H { s with heap := h', toks := t' } := I.un (Un.kept k) (I.hok.kept k)
theorem Inv.laid (I : Inv X pins σ H s) (k : ∀ b u, s.heap.get? b = some u → h'.get? b = some u) (c : s.heap.objs.size ≤ a) (d : ObjOk X.prog X.w (upd H a o) h' a o) :
    Inv X pins σ (upd H a o) { s with heap := h', toks := t' } := I.un (Un.laid k c (I.hok.fresh c)) (I.hok.laid k c d)
theorem Inv.write (I : Inv X pins σ H s) (d : Mut (H x)) (f : e = x ∨ H e = some (.own x)) (k : ∀ b u, b ≠ e → s.heap.get? b = some u → h'.get? b = some u) (a : ∃ u, h'.get? e = some u)
    (c : ObjOk X.prog X.w (upd H x o) h' x o) : Inv X pins σ (upd H x o) { s with heap := h', toks := t' } := I.un (Un.write d f k a) (I.hok.write d f k a c)
theorem Inv.pins_of (I : Inv X pins σ H s) (h : ∀ p ∈ pins', s.heap.get? p.1 = some p.2 ∧ H p.1 = none ∧ p.1 ≠ X.env.locals ∧ p.1 ∉ X.fs ∧ ∀ v, p.2.data ≠ .cell v) : Inv X pins' σ H s :=
  ⟨I.ok, I.os, I.bare, I.base, I.loc, I.cell, I.free, I.freeC, fun p a => (List.mem_append.mp a).elim (fun z => I.pin p (List.mem_append_left _ z)) (h p), I.hok, I.len⟩
theorem nodup_ix {N : List Str} (c : N.Nodup) {i j : Nat} {x : Str} (a : N[i]? = some x) (b : N[j]? = some x) : i = j := by
  obtain ⟨h1, e⟩ := List.getElem?_eq_some_iff.mp a
  obtain ⟨h2, d⟩ := List.getElem?_eq_some_iff.mp b
  exact (List.getElem_inj c).mp (e.trans d.symm)
theorem store_ok2 {Q : Unit → Shared → Prop} (I : Inv X pins σ H s) (hN : X.N.Nodup) (S : X.N[i]? = some x) (B : Loc X.env.scope x) (r : RelV v u)
    (h : ∀ s', Inv X pins (σ.set i (some v)) H s' → (∃ a, Heap.SameBut a s.heap s'.heap ∧ (a = X.env.locals ∨ X.env.cells.lookup x = some a)) → Q () s') (hf : X.fn x = true ∨ X.env.scope.names.lookup x = some .local := by first | exact .inl rfl | exact .inr rfl | assumption) : wpAny M A (storeName X.env x u) Q E s := by
  obtain ⟨m, hn, hl⟩ := id I.loc
  have U : (X.env.scope.kind == .class || (X.env.scope.kind == .module && X.env.locals != X.env.globals)) = false := by rw [I.ok.kind]; rfl
  have W : i < σ.length := by rw [I.len]; exact (List.getElem?_eq_some_iff.mp S).1
  have O := I.cne
  have l : ∀ {a : Addr} {h' : Heap}, (∃ o, s.heap.get? a = some o ∧ H a = none) → Heap.SameBut a s.heap h' → HOk X.prog X.w H h' := fun {a h'} ha f b ob e => by
    obtain ⟨_, _, C⟩ := ha
    refine (I.hok b ob e).stay (fun c w' t q => (f.2 c ?_).trans q) (fun _ q => q) fun _ _ q => q
    rintro rfl
    rcases t with rfl | t
    · rw [C] at e; cases e
    · rw [C] at t; cases t
  rcases B with F | F
  · refine wpAny_storeName_local F hn (fun h' hn' f => ?_) U
    obtain ⟨oL, _, _, hoL, _⟩ := id hn
    refine h _ ⟨I.ok, I.os, I.bare, ⟨fun b o e n L B => ?_, fun b o e n L B => ?_, I.base.free, fun b o e B => ?_, I.base.tups, I.base.frzs, I.base.tbls⟩, ⟨_, hn', fun j y v' g D e3 => ?_⟩, fun y c e => ?_, I.free, I.freeC, fun p hp => ?_, l ⟨oL, hoL, I.free⟩ f, by simpa using I.len⟩ ⟨_, f, .inl rfl⟩
    · exact (f.2 b (Nat.ne_of_lt (Nat.lt_of_lt_of_le (Heap.lt_size e) I.ok.above))).trans (I.base.keep b o e n L B)
    · obtain ⟨sl, g⟩ := I.base.slot b o e n L B
      exact ⟨sl, (f.2 b (Nat.ne_of_lt (Nat.lt_of_lt_of_le (Heap.lt_size e) I.ok.above))).trans g⟩
    · obtain ⟨o', g⟩ := I.base.there b o e B
      exact ⟨o', (f.2 b (Nat.ne_of_lt (Nat.lt_of_lt_of_le (Heap.lt_size e) I.ok.above))).trans g⟩
    · by_cases G : j = i
      · subst G
        rw [S] at g; cases g
        rw [List.getElem?_set_self W] at D
        cases D
        exact ⟨u, r, .inl ⟨F, by simp⟩⟩
      · rw [List.getElem?_set_ne (Ne.symm G)] at D
        obtain ⟨u', r', q⟩ := hl j y v' g D e3
        refine ⟨u', r', ?_⟩
        rcases q with ⟨k, e⟩ | ⟨k, c, e, z⟩
        · refine .inl ⟨k, ?_⟩
          have : y ≠ x := fun e => G (nodup_ix hN g (e ▸ S))
          simp [this, e]
        · exact .inr ⟨k, c, e, z.sameBut f (O y c e)⟩
    · obtain ⟨w', z⟩ := I.cell y c e
      exact ⟨w', z.sameBut f (O y c e)⟩
    · obtain ⟨e, n, ne, nf, d⟩ := I.pin p hp
      exact ⟨(f.2 p.1 ne).trans e, n, ne, nf, d⟩
  · have J : X.fn x = true := by
      rcases hf with z | z
      · exact z
      · rw [z] at F; cases F
    obtain ⟨c, t⟩ := I.ok.has x (.inl F)
    obtain ⟨w', z⟩ := I.cell x c t
    refine wpAny_storeName_cell I.ok.kind F t z (fun h' P f => ?_)
    obtain ⟨oc, T, Y⟩ := id z
    refine h { s with heap := h' } ⟨I.ok, I.os, I.bare, ⟨fun b o e n L B => ?_, fun b o e n L B => ?_, I.base.free, fun b o e B => ?_, I.base.tups, I.base.frzs, I.base.tbls⟩, ⟨m, hn.sameBut f (Ne.symm (O x c t)), fun j y v' g D e3 => ?_⟩, fun y Z e => ?_, I.free, I.freeC, fun p hp => ?_, l ⟨oc, T, I.freeC x c t⟩ f, by simpa using I.len⟩ ⟨c, f, .inr t⟩
    · exact (f.2 b (Nat.ne_of_lt (Nat.lt_of_lt_of_le (Heap.lt_size e) (I.ok.cab x c J t)))).trans (I.base.keep b o e n L B)
    · obtain ⟨sl, g⟩ := I.base.slot b o e n L B
      exact ⟨sl, (f.2 b (Nat.ne_of_lt (Nat.lt_of_lt_of_le (Heap.lt_size e) (I.ok.cab x c J t)))).trans g⟩
    · obtain ⟨o', g⟩ := I.base.there b o e B
      exact ⟨o', (f.2 b (Nat.ne_of_lt (Nat.lt_of_lt_of_le (Heap.lt_size e) (I.ok.cab x c J t)))).trans g⟩
    · by_cases G : j = i
      · subst G
        rw [S] at g; cases g
        rw [List.getElem?_set_self W] at D
        cases D
        exact ⟨u, r, .inr ⟨.inl F, c, t, P⟩⟩
      · rw [List.getElem?_set_ne (Ne.symm G)] at D
        obtain ⟨u', r', q⟩ := hl j y v' g D e3
        refine ⟨u', r', ?_⟩
        rcases q with q | ⟨k, Z, e, z'⟩
        · exact .inl q
        · refine .inr ⟨k, Z, e, z'.sameBut f ?_⟩
          rintro rfl
          exact G (nodup_ix hN g (I.ok.inj _ _ _ e t ▸ S))
    · by_cases R : Z = c
      · subst R; exact ⟨_, P⟩
      · obtain ⟨w2, z2⟩ := I.cell y Z e
        exact ⟨w2, z2.sameBut f R⟩
    · obtain ⟨e, n, ne, nf, d⟩ := I.pin p hp
      refine ⟨(f.2 p.1 ?_).trans e, n, ne, nf, d⟩
      intro q
      rw [q, T] at e
      have q' : oc = p.2 := Option.some.inj e
      exact d w' (by rw [← q']; exact Y)
theorem store_ok {Q : Unit → Shared → Prop} (I : Inv X pins σ H s) (a : X.N.Nodup) (c : X.N[i]? = some x) (d : Loc X.env.scope x) (r : RelV v u)
    (h : ∀ s', Inv X pins (σ.set i (some v)) H s' → Q () s') (e : X.fn x = true ∨ X.env.scope.names.lookup x = some .local := by first | exact .inl rfl | exact .inr rfl | assumption) : wpAny M A (storeName X.env x u) Q E s :=
  store_ok2 I a c d r (fun s' b _ => h s' b) e
theorem Inv.call' {s' : Shared} (I : Inv X pins σ H s) (g : s'.os = s.os) (u : Un (frs X.stack) ch H H' s.heap s'.heap) (f : HOk X.prog X.w H' s'.heap) (h : AllBare s'.gens)
    (d : ∀ b ∈ ch, (b ∈ X.ex ∨ X.s₀.heap.objs.size ≤ b) ∧ b ≠ X.env.locals ∧ (∀ x c, X.env.cells.lookup x = some c → c ≠ b) ∧ ∀ p ∈ X.pn ++ pins, p.1 ≠ b) : Inv X pins σ H' s' := by
  obtain ⟨h', g', d', t', o'⟩ := s'
  have e := g
  subst e
  exact I.call u f h d
end
abbrev XK := Value → Option Addr → Hp → Prop
abbrev St := List (Option V)
abbrev VK := V → Hp → Prop
abbrev TE := St → Hp → VK → Prop
abbrev TT := St → Hp → (Bool → Hp → Prop) → Prop
abbrev TA := St → Hp → (List V → Hp → Prop) → Prop
structure Ends where
  nx : St → Hp → Prop
  rt : VK
  bk : St → Hp → Prop := fun _ _ => False
  ct : St → Hp → Prop := fun _ _ => False
abbrev TS := Ends → St → Hp → Prop
def EP (X : Cx) (a : List (Addr × Obj)) (σ : St) (Q : VK) (u : Value) (s' : Shared) : Prop := ∃ v b, Inv X a σ b s' ∧ RelV v u ∧ Q v b
def TP (X : Cx) (a : List (Addr × Obj)) (σ : St) (Q : Bool → Hp → Prop) (b : Bool) (s' : Shared) : Prop := ∃ c, Inv X a σ c s' ∧ Q b c
def AP (X : Cx) (a : List (Addr × Obj)) (σ : St) (Q : List V → Hp → Prop) (us : List Value) (s' : Shared) : Prop := ∃ b c, Inv X a σ c s' ∧ Vals b us ∧ Q b c
def SP (X : Cx) (a : List (Addr × Obj)) (D : Ends) (f : Flow) (s' : Shared) : Prop :=
  match f with
  | .next => ∃ c b, Inv X a c b s' ∧ D.nx c b
  | .brk => ∃ c b, Inv X a c b s' ∧ D.bk c b
  | .cont => ∃ c b, Inv X a c b s' ∧ D.ct c b
  | .ret u => ∃ v c b, Inv X a c b s' ∧ RelV v u ∧ D.rt v b
def PE (X : Cx) (e : Expr) (t : TE) : Prop :=
  ∀ (a : List (Addr × Obj)) (s : Shared) (σ : St) (H : Hp) (Q : VK), Inv X a σ H s → t σ H Q → wpAny (model X.prog X.w) X.A (eval e X.env) (EP X a σ Q) X.xe s
def PT (X : Cx) (e : Expr) (t : TT) : Prop :=
  ∀ (a : List (Addr × Obj)) (s : Shared) (σ : St) (H : Hp) (Q : Bool → Hp → Prop), Inv X a σ H s → t σ H Q → wpAny (model X.prog X.w) X.A (isTrue e X.env (eval e X.env)) (TP X a σ Q) X.xe s
def PW (X : Cx) (e : Expr) (t : TT) : Prop :=
  ∀ (c : Sem Value) (b : List (Addr × Obj)) (s : Shared) (σ : St) (H : Hp) (Q : Bool → Hp → Prop), Inv X b σ H s → t σ H Q → wpAny (model X.prog X.w) X.A (isTrue e X.env c) (TP X b σ Q) X.xe s
theorem PW.pt (h : PW X e t) : PT X e t := h _
def PA (X : Cx) (es : List Expr) (t : TA) : Prop :=
  ∀ (b : Pos) (a : List (Addr × Obj)) (s : Shared) (σ : St) (H : Hp) (Q : List V → Hp → Prop), Inv X a σ H s → t σ H Q → wpAny (model X.prog X.w) X.A (spliced (backTo b (starEach es X.env))) (AP X a σ Q) X.xe s
def PS (X : Cx) (st : Stmt) (t : TS) : Prop :=
  ∀ (a : List (Addr × Obj)) (s : Shared) (σ : St) (H : Hp) (D : Ends), Inv X a σ H s → t D σ H → wpAny (model X.prog X.w) X.A (exec st X.env) (SP X a D) X.xe s
def PSs (X : Cx) (st : List Stmt) (t : TS) : Prop :=
  ∀ (a : List (Addr × Obj)) (s : Shared) (σ : St) (H : Hp) (D : Ends), Inv X a σ H s → t D σ H → wpAny (model X.prog X.w) X.A (execs st X.env) (SP X a D) X.xe s
theorem thn {α : Type} {t : Sem α} {Q b : α → Shared → Prop} (h : wpAny M A t Q E s) (c : ∀ a s, Q a s → b a s) : wpAny M A t b E s := wpAny_mono h c fun _ _ x => x
end L2
namespace L2
open PySem PySem.Spec PyProof.Rows
section
variable {X : Cx}
def tVar (i : Nat) : TE := fun σ H Q => ∃ v, σ[i]? = some (some v) ∧ Q v H
def tC (v : V) : TE := fun _ H Q => Q v H
theorem pe_var (n : X.N[i]? = some x) (q : Vis X.env.scope x) (j : (x == ("__debug__" : Str)) = false := by decide) (g : (x == ("__classdict__" : Str)) = false := by decide) : PE X (.Name x pos) (tVar i) := by
  intro f s σ H Q I h
  obtain ⟨v, e, h⟩ := h
  obtain ⟨m, p, o⟩ := I.loc
  obtain ⟨u, r, l⟩ := o i x v n e q
  have b : EP X f σ Q u s := ⟨v, H, I, r, h⟩
  rcases l with ⟨d, t⟩ | ⟨d, c, k, a⟩
  · exact wpAny_Name (wpAny_loadName_local I.ok.kind d p t b) j
  · rcases d with d | d
    · exact wpAny_Name (wpAny_loadName_cell I.ok.kind d k a b) j
    · exact wpAny_Name (wpAny_loadName_free I.ok.kind d k a b g) j
theorem pe_int {i j pos} : PE X (.Constant (.int i) j pos) (tC (.int i)) := fun _ _ _ H _ I h => wpAny_Constant_int ⟨.int i, H, I.tok _, ⟨_, rfl⟩, h⟩
theorem pe_bl {b j pos} : PE X (.Constant (.bool b) j pos) (tC (.bl b)) := fun _ _ _ H _ I h => Constant_bool ⟨.bl b, H, I, rfl, h⟩
theorem pe_non {j pos} : PE X (.Constant .none j pos) (tC .non) := fun _ _ _ H _ I h => Constant_none ⟨.non, H, I, rfl, h⟩
theorem pe_str {x j pos} : PE X (.Constant (.str x) j pos) (tC (.str x)) := fun _ _ _ H _ I h => Calls.Constant_str ⟨.str x, H, I.tok _, ⟨_, rfl⟩, h⟩
def Gl (X : Cx) (x : Str) : Prop := X.env.kindOf x = some .globalImplicit
theorem ld_glob {Q : Value → Shared → Prop} (I : Inv X pins σ H s) (c : Gl X x) (b : X.mg x = some u) (h : Q u s)
    (d : (x == ("__debug__" : Str)) = false := by decide) : wpAny (model X.prog X.w) X.A (eval (.Name x pos) X.env) Q E s :=
  Calls.Name_function_global I.ok.kind c (Calls.loadGlobal_global (by rw [I.ok.glob]; exact I.mod.glob.keeps I.bk) b h) d
theorem ld_blt {Q : Value → Shared → Prop} (I : Inv X pins σ H s) (f : Gl X x) (b : X.mg x = none) (c : bootBuiltins x = some u) (h : Q u s)
    (e : x ≠ "__name__" := by decide) (g : (x == ("__debug__" : Str)) = false := by decide) : wpAny (model X.prog X.w) X.A (eval (.Name x pos) X.env) Q E s := by
  obtain ⟨mb, d, i⟩ := I.mod.blt
  exact Calls.Name_function_global I.ok.kind f (Calls.loadGlobal_builtin (by rw [I.ok.glob]; exact I.mod.glob.keeps I.bk) b (by rw [I.ok.blt]; exact d.keeps I.bk) ((i x e).trans c) h) g
theorem pe_glob (c : Gl X x) (b : X.mg x = some u) (r : RelV v u) (d : (x == ("__debug__" : Str)) = false := by decide) : PE X (.Name x pos) (tC v) :=
  fun _ _ _ H _ I h => ld_glob I c b ⟨v, H, I, r, h⟩ d
theorem pe_bltn (c : Gl X x) (a : X.mg x = none) (e : bootBuiltins x = some u) (r : RelV v u) (d : x ≠ "__name__" := by decide) (b : (x == ("__debug__" : Str)) = false := by decide) : PE X (.Name x pos) (tC v) :=
  fun _ _ _ H _ I h => ld_blt I c a e ⟨v, H, I, r, h⟩ d b
variable {a b : Expr} {ta tb : TE} {pos : Pos}
def PC (X : Cx) (op : CmpOp) (a b : Expr) (t : TE) : Prop :=
  ∀ (c : List (Addr × Obj)) (s : Shared) (σ : St) (H : Hp) (Q : VK), Inv X c σ H s → t σ H Q →
    wpAny (model X.prog X.w) X.A (eval a X.env) (fun v e => wpAny (model X.prog X.w) X.A (eval b X.env) (fun u d => wpAny (model X.prog X.w) X.A (compareOp op v u) (EP X c σ Q) X.xe d) X.xe e) X.xe s
theorem nobehind (b : Expr) (h : op ≠ .In) (h2 : op ≠ .NotIn) : behindInMarks op b = false := by
  have c : (op == CmpOp.In) = false := by grind
  have d : (op == CmpOp.NotIn) = false := by grind
  cases b <;> simp [behindInMarks, c, d]
def tIsN (ta : TE) : TE := fun σ H Q => ta σ H fun x c => Q (.bl (decide (x = .non))) c
theorem RelV.none_iff (r : RelV x v) : (v == Value.none) = decide (x = .non) := by
  cases x with
  | non => cases r; rfl
  | bl _ => cases r; rfl
  | int _ => obtain ⟨t, rfl⟩ := r; rfl
  | str _ => obtain ⟨t, rfl⟩ := r; rfl
  | byt _ => obtain ⟨t, rfl⟩ := r; rfl
  | flt _ => obtain ⟨t, rfl⟩ := r; rfl
  | ref _ => cases r; rfl
  | ty _ => cases r; rfl
theorem pc_isN {j c} (k : PE X a ta) : PC X .Is a (.Constant .none j c) (tIsN ta) := by
  intro d s σ H Q I h
  refine thn (k d s σ H _ I h) ?_
  rintro v s1 ⟨x, g, f, e, i⟩
  exact Constant_none (is_none_gen ⟨.bl _, g, f, by rw [e.none_iff]; rfl, i⟩)
def tB (t : TE) : TT := fun σ H Q => t σ H fun x d => ∃ c, x = .bl c ∧ Q c d
theorem pt_cmp (h : PC X op a b t) (f : behindInMarks op b = false := by first | exact nobehind _ (by decide) (by decide) | rfl) : PT X (.Compare a [op] [b] pos) (tB t) := by
  intro e s σ H Q I j
  refine wpAny_isTrue_Compare1 (thn (h e s σ H _ I j) fun v s1 f => thn f fun u s2 g => thn g ?_) f
  rintro c s3 ⟨x, k, i, m, l⟩
  obtain ⟨d, rfl, q⟩ := l
  cases m
  exact wpAny_truthy_bool ⟨k, i, q⟩
theorem pt_val (h : PE X e t) (m : ∀ c, isTrue e X.env c = (do let v ← c; standAt e.pos; holding [v] (truthy v)) := by intro _; rfl) : PT X e (tB t) := by
  intro f s σ H Q I g
  refine isTrue_plain (thn (h f s σ H _ I g) ?_) (m _)
  rintro v s1 ⟨x, j, i, k, l⟩
  obtain ⟨d, rfl, q⟩ := l
  cases k
  exact wpAny_truthy_bool ⟨j, i, q⟩
variable {tA tB' : TT} {rest : List Expr}
def tAnd (t u : TT) : TT := fun σ H Q => t σ H fun c d => if c = true then u σ d Q else Q false d
def tOr (t u : TT) : TT := fun σ H Q => t σ H fun c d => if c = true then Q true d else u σ d Q
def tNot (t : TT) : TT := fun σ H Q => t σ H fun c d => Q (!c) d
theorem pw_and1 (f : PT X a tA) : PW X (.BoolOp .And [a] pos) tA := by
  intro wh d s σ H Q I h
  refine isTrue_and (thn (f d s σ H Q I h) fun c s1 e => ?_)
  cases c with
  | true => exact isTrue_and_nil e
  | false => exact e
theorem pw_or1 (f : PT X a tA) : PW X (.BoolOp .Or [a] pos) tA := by
  intro wh d s σ H Q I h
  refine isTrue_or (thn (f d s σ H Q I h) fun c s1 e => ?_)
  cases c with
  | false => exact isTrue_or_nil e
  | true => exact e
theorem pw_and (j : PT X a tA) (l : PW X (.BoolOp .And (b :: rest) pos) tB') : PW X (.BoolOp .And (a :: b :: rest) pos) (tAnd tA tB') := by
  intro i d s σ H Q I h
  refine isTrue_and (thn (j d s σ H _ I h) ?_)
  rintro c k ⟨e, f, g⟩
  cases c with
  | true => exact l i d k σ e Q f g
  | false => exact ⟨e, f, g⟩
theorem pw_or (j : PT X a tA) (l : PW X (.BoolOp .Or (b :: rest) pos) tB') : PW X (.BoolOp .Or (a :: b :: rest) pos) (tOr tA tB') := by
  intro i d s σ H Q I h
  refine isTrue_or (thn (j d s σ H _ I h) ?_)
  rintro c k ⟨e, f, g⟩
  cases c with
  | true => exact ⟨e, f, g⟩
  | false => exact l i d k σ e Q f g
theorem pt_not (f : PT X a tA) : PT X (.UnaryOp .Not a pos) (tNot tA) := by
  intro d s σ H Q I h
  exact isTrue_not (f d s σ H (fun c e => Q (!c) e) I h)
def tAndV (ta tb : TE) : TE := fun σ H Q => ta σ H fun x d => ∃ c, x = .bl c ∧ if c = true then tb σ d Q else Q (.bl false) d
def tNotV (ta : TE) : TE := fun σ H Q => ta σ H fun x d => ∃ c, x = .bl c ∧ Q (.bl (!c)) d
theorem pe_one {op} (h : PE X a t) : PE X (.BoolOp op [a] pos) t := fun c s σ H Q I d => BoolOp_one (h c s σ H Q I d)
theorem pe_and (k : PE X a ta) (i : PE X (.BoolOp .And (b :: rest) pos) tb) : PE X (.BoolOp .And (a :: b :: rest) pos) (tAndV ta tb) := by
  intro d s σ H Q I h
  refine BoolOp_and (thn (k d s σ H _ I h) ?_)
  rintro v l ⟨x, f, g, j, e⟩
  obtain ⟨c, rfl, e⟩ := e
  cases j
  refine wpAny_truthy_bool ?_
  cases c with
  | true => exact i d l σ f Q g e
  | false => exact ⟨.bl false, f, g, rfl, e⟩
theorem pe_not (j : PE X a ta) : PE X (.UnaryOp .Not a pos) (tNotV ta) := by
  intro d s σ H Q I h
  refine UnaryOp_ (thn (j d s σ H _ I h) ?_)
  rintro v s1 ⟨x, g, i, f, e⟩
  obtain ⟨c, rfl, e⟩ := e
  cases f
  exact not_of (wpAny_truthy_bool ⟨.bl (!c), g, i, rfl, e⟩)
def tIf (t : TT) (ta tb : TE) : TE := fun σ H Q => t σ H fun c d => if c = true then ta σ d Q else tb σ d Q
theorem pe_ifExp (m : PT X c tA) (l : PE X a ta) (k : PE X b tb) : PE X (.IfExp c a b pos) (tIf tA ta tb) := by
  intro e s σ H Q I h
  refine wpAny_IfExp (thn (m e s σ H _ I h) ?_)
  rintro d i ⟨j, g, f⟩
  cases d with
  | true => exact l e i σ j Q g f
  | false => exact k e i σ j Q g f
end
end L2
namespace L2
open PySem PySem.Spec PyProof.Rows
def SqL (K : PySem.W.Frag) (H : Hp) (a : Addr) (xs : List V) : Prop :=
  Rd H a (.lst xs) ∨
    ∃ (o : Obj) (b : Array Value) (n : Nat), K.lookup a = some o ∧ o.cls = .type "list" ∧ o.dict = none ∧ o.data = .seq b n ∧ b.size ≤ sizeLine ∧ Vals xs b.toList
def SqT (K : PySem.W.Frag) (H : Hp) (a : Addr) (xs : List V) : Prop :=
  Rd H a (.tup xs) ∨
    ∃ (o : Obj) (b : Array Value) (n : Nat), K.lookup a = some o ∧ o.cls = .type "tuple" ∧ o.data = .seq b n ∧ b.size ≤ sizeLine ∧ Vals xs b.toList
def absV : Value → Option V
  | .none => some .non
  | .bool b => some (.bl b)
  | .int i _ => some (.int i)
  | .str x _ => some (.str x)
  | .bytes b _ => some (.byt b)
  | .float b _ => some (.flt b)
  | .ref a => some (.ref a)
  | .type n => some (.ty n)
  | _ => none
theorem RelV.abs (r : RelV x u) : absV u = some x := by
  cases x with
  | non => cases r; rfl
  | bl _ => cases r; rfl
  | int _ => obtain ⟨t, rfl⟩ := r; rfl
  | str _ => obtain ⟨t, rfl⟩ := r; rfl
  | byt _ => obtain ⟨t, rfl⟩ := r; rfl
  | flt _ => obtain ⟨t, rfl⟩ := r; rfl
  | ref _ => cases r; rfl
  | ty _ => cases r; rfl
theorem RelV.inj (r : RelV x u) (q : RelV y u) : x = y := Option.some.inj (r.abs.symm.trans q.abs)
theorem Vals.inj : ∀ {xs ys : List V} {us : List Value}, Vals xs us → Vals ys us → xs = ys
  | _, _, _, .nil, .nil => rfl
  | _, _, _, .cons r t, .cons a b => by rw [r.inj a, Vals.inj t b]
section
variable {X : Cx} {pins : List (Addr × Obj)} {σ : St} {H : Hp} {s : Shared} {a : Addr} {xs ys : List V}
theorem SqL.of {K : PySem.W.Frag} (h : H a = some (.lst xs)) : SqL K H a xs := .inl (.inl h)
theorem SqT.of {K : PySem.W.Frag} (h : H a = some (.tup xs)) : SqT K H a xs := .inl (.inl h)
theorem Inv.list (I : Inv X pins σ H s) (h : SqL X.K H a xs) : ∃ b : List Value, Vals xs b ∧ PlainL s.heap a b.toArray ∧ xs.length ≤ sizeLine := by
  rcases h with h | ⟨o, b, n, d, f, c, hs, hz, r⟩
  · obtain ⟨z, b, n, r, e⟩ := h.ok I.hok
    exact ⟨b, r, ⟨_, n, e, rfl, rfl, rfl⟩, z⟩
  · refine ⟨b.toList, r, ⟨o, n, I.kIn a o d, f, c, by simp_all⟩, ?_⟩
    have e := r.length
    grind
theorem Inv.tuple (I : Inv X pins σ H s) (h : SqT X.K H a xs) : ∃ b : List Value, Vals xs b ∧ IsTup s.heap a b.toArray ∧ xs.length ≤ sizeLine := by
  rcases h with h | ⟨o, b, n, d, c, hs, hz, r⟩
  · obtain ⟨z, b, r, p⟩ := h.ok I.hok
    grind
  · refine ⟨b.toList, r, ⟨o, I.kIn a o d, c, n, by simp_all⟩, ?_⟩
    have e := r.length
    grind
theorem Inv.list_inj (I : Inv X pins σ H s) (h : SqL X.K H a xs) (h' : SqL X.K H a ys) : xs = ys := by
  obtain ⟨c, r, ⟨o, n, e, _, _, d⟩, _⟩ := I.list h
  obtain ⟨b, f, ⟨o', n', e', _, _, d'⟩, _⟩ := I.list h'
  have : c = b := by grind
  subst this
  exact r.inj f
end
abbrev Cx.wish (X : Cx) (E : Value → Shared → Prop) : Cx := { X with xe := E }
abbrev Cx.nox (X : Cx) : Cx := X.wish fun _ _ => False
theorem Cx.Ok.wish {X : Cx} (a : X.Ok) (E : Value → Shared → Prop) : (X.wish E).Ok :=
  ⟨a.mod, a.kind, a.glob, a.blt, a.above, a.inj, a.has, a.cab, a.hd, a.frames, a.stk, a.exf, a.bs, a.bsz, a.noex, a.exfs, a.funs, a.frf⟩
theorem Cx.Ok.unwish {X : Cx} (a : (X.wish E).Ok) : X.Ok :=
  ⟨a.mod, a.kind, a.glob, a.blt, a.above, a.inj, a.has, a.cab, a.hd, a.frames, a.stk, a.exf, a.bs, a.bsz, a.noex, a.exfs, a.funs, a.frf⟩
section
variable {X : Cx} {pins : List (Addr × Obj)} {σ : St} {H : Hp} {s : Shared} {E : Value → Shared → Prop}
theorem Inv.wish (I : Inv X pins σ H s) (E : Value → Shared → Prop) : Inv (X.wish E) pins σ H s := ⟨I.ok.wish E, I.os, I.bare, I.base, I.loc, I.cell, I.free, I.freeC, I.pin, I.hok, I.len⟩
theorem Inv.unwish (I : Inv (X.wish E) pins σ H s) : Inv X pins σ H s := ⟨I.ok.unwish, I.os, I.bare, I.base, I.loc, I.cell, I.free, I.freeC, I.pin, I.hok, I.len⟩
theorem SP.unwish (h : SP (X.wish E) pins D f s') : SP X pins D f s' := by
  cases f with
  | next => obtain ⟨a, b, I, q⟩ := h; exact ⟨a, b, I.unwish, q⟩
  | brk => obtain ⟨a, b, I, q⟩ := h; exact ⟨a, b, I.unwish, q⟩
  | cont => obtain ⟨a, b, I, q⟩ := h; exact ⟨a, b, I.unwish, q⟩
  | ret u => obtain ⟨v, a, b, I, r, q⟩ := h; exact ⟨v, a, b, I.unwish, r, q⟩
theorem PSs.nox {st : List Stmt} {t : TS} (h : PSs X.nox st t) : PSs X st t := fun pins s σ H D I a =>
  wpAny_mono (h pins s σ H D (I.wish _) a) (fun _ _ q => q.unwish) fun _ _ z => False.elim z
end
section
variable {X : Cx} {st : Stmt} {rest : List Stmt} {t u : TS} {e : Expr} {te : TE} {pos : Pos}
def tNext : TS := fun D σ H => D.nx σ H
def tSeq (t u : TS) : TS := fun D σ H => t { D with nx := u D } σ H
theorem pss_nil : PSs X [] tNext := fun _ _ σ H _ I h => wpAny_execs_nil ⟨σ, H, I, h⟩
theorem pss_cons (d : PS X st t) (h2 : PSs X rest u) : PSs X (st :: rest) (tSeq t u) := by
  intro a s σ H D I h
  refine wpAny_execs_cons (thn (d a s σ H { D with nx := u D } I h) fun f i q => ?_)
  cases f with
  | next =>
    obtain ⟨g, b, c, q⟩ := q
    exact h2 a i g b D c q
  | ret v => exact q
  | brk => exact q
  | cont => exact q
theorem pss_one (b : PS X st t) : PSs X [st] t := by
  intro a s σ H D I h
  refine wpAny_execs_cons (thn (b a s σ H D I h) fun f s1 q => ?_)
  cases f with
  | next => exact wpAny_execs_nil q
  | ret v => exact q
  | brk => exact q
  | cont => exact q
theorem Inv.quiet (I : Inv X pins σ H s) : interactive X.env = false := by simp [interactive, I.ok.kind]
def tDrop (te : TE) : TS := fun D σ H => te σ H fun _ a => D.nx σ a
theorem ps_expr (f : PE X e te) (g : swapsWith e none pos.line X.env = pure false := by rfl) : PS X (.Expr e pos) (tDrop te) := by
  intro a s σ H D I h
  exact wpAny_Expr_any (thn (f a s σ H _ I h) (by rintro v s1 ⟨x, c, b, r1, d⟩; exact ⟨σ, c, b, d⟩)) I.quiet g
def tRet (te : TE) : TS := fun D σ H => te σ H D.rt
theorem ps_ret (g : PE X e te) : PS X (.Return (some e) pos) (tRet te) := by
  intro a s σ H D I h
  exact wpAny_Return_some (thn (g a s σ H _ I h) (by rintro v s1 ⟨x, d, c, b, f⟩; exact ⟨x, σ, d, c, b, f⟩))
def tIfS (c : TT) (t u : TS) : TS := fun D σ H => c σ H fun b a => if b = true then t D σ a else u D σ a
theorem ps_if (n : PT X c o) (m : PSs X a t) (l : PSs X b u) : PS X (.If c a b pos) (tIfS o t u) := by
  intro f s σ H D I h
  refine wpAny_If (thn (n f s σ H _ I h) ?_)
  rintro d k ⟨g, i, j⟩
  cases d with
  | true => exact m f k σ g D i j
  | false => exact l f k σ g D i j
def tNever : TS := fun _ _ _ => False
theorem pss_never : PSs X sts tNever := fun _ _ _ _ _ _ h => h.elim
end
abbrev TG := V → St → Hp → (St → Hp → Prop) → Prop
abbrev TGs := List V → St → Hp → (St → Hp → Prop) → Prop
def PG (X : Cx) (a : Expr) (t : TG) : Prop :=
  ∀ (b : List (Addr × Obj)) (s : Shared) (σ : St) (H : Hp) (v : V) (u : Value) (Q : St → Hp → Prop), Inv X b σ H s → RelV v u → t v σ H Q →
    wpAny (model X.prog X.w) X.A (assign a X.env u) (fun _ e => ∃ d c, Inv X b d c e ∧ Q d c) X.xe s
def PGs (X : Cx) (ts : List Expr) (t : TGs) : Prop :=
  ∀ (a : List (Addr × Obj)) (s : Shared) (σ : St) (H : Hp) (c : List V) (d : List Value) (Q : St → Hp → Prop), Inv X a σ H s → Vals c d → t c σ H Q →
    wpAny (model X.prog X.w) X.A (assignInOrder ((assignEach ts X.env).map (·.2)) d) (fun _ f => ∃ e b, Inv X a e b f ∧ Q e b) X.xe s
abbrev TSet := V → V → V → Hp → (Hp → Prop) → Prop
def PSet (X : Cx) (t : TSet) : Prop :=
  ∀ (a : List (Addr × Obj)) (s : Shared) (σ : St) (H : Hp) (o i v : V) (b d u : Value) (Q : Hp → Prop), Inv X a σ H s → RelV o b → RelV i d → RelV v u → t o i v H Q →
    wpAny (model X.prog X.w) X.A (setItem b d u) (fun _ e => ∃ c, Inv X a σ c e ∧ Q c) X.xe s
section
variable {X : Cx} {pos : Pos}
def gName (i : Nat) : TG := fun v σ H Q => Q (σ.set i (some v)) H
theorem pg_name (a : X.N.Nodup) (c : X.N[i]? = some x) (d : Loc X.env.scope x) (e : X.fn x = true ∨ X.env.scope.names.lookup x = some .local := by first | exact .inl rfl | exact .inr rfl | assumption) : PG X (.Name x pos) (gName i) := by
  intro pins s σ H v u Q I r h
  exact wpAny_assign_Name (store_ok I a c d r (fun s' b => ⟨_, H, b, h⟩) e)
def gNil : TGs := fun a σ H Q => a = [] ∧ Q σ H
def gCons (t : TG) (u : TGs) : TGs := fun a σ H Q => ∃ v r, a = v :: r ∧ t v σ H fun c b => u r c b Q
theorem pgs_nil : PGs X [] gNil := by
  intro pins s σ H vs us Q I r h
  obtain ⟨e, h⟩ := h
  exact assignInOrder_nil ⟨σ, H, I, h⟩
theorem pgs_cons (g : PG X e t) (h2 : PGs X es u)
    (l : (assignEach (e :: es) X.env).map (·.2) = assign e X.env :: (assignEach es X.env).map (·.2) := by rfl) : PGs X (e :: es) (gCons t u) := by
  intro a s σ H vs us Q I r h
  obtain ⟨v, vr, d, h⟩ := h
  subst d
  cases r with
  | cons r c =>
    rw [l]
    refine assignInOrder_cons (thn (g a s σ H _ _ _ I r h) ?_)
    rintro _ b ⟨i, j, f, k⟩
    exact h2 a b i j _ _ Q f c k
def gTup (K : PySem.W.Frag) (n : Nat) (t : TGs) : TG := fun v σ H Q => ∃ a c, v = .ref a ∧ SqT K H a c ∧ c.length = n ∧ t c σ H Q
theorem pg_tup (x : X.calm = true) (h : PGs X es t)
    (j : (assignEach es X.env).length = n := by rfl) (f : (assignEach es X.env).findIdx? (·.1) = none := by rfl) : PG X (.Tuple es k pos) (gTup X.K n t) := by
  intro c s σ H v u Q I r d
  obtain ⟨a, p, i, g, q, d⟩ := d
  subst i
  cases r
  obtain ⟨its, y, l, hz⟩ := I.tuple g
  refine assign_Tuple_tuple (I.ok.hd x) l (by simp [j, ← q, y.length]) f fun h' w => ?_
  have m := I.kept (t' := s.toks) fun b o e => w b o (Nat.ne_of_lt (Heap.lt_size e)) e
  exact h c _ σ H p _ Q m (by grind) d
def gSub (d a : TE) (t : TSet) : TG := fun v σ H Q => d σ H fun o b => a σ b fun i e => t o i v e fun c => Q σ c
theorem pg_sub (f : PE X o E) (A : PE X i p) (l : PSet X t)
    (ha : ∀ v, assign (.Subscript o i pos) X.env v = (do
      let b ← holding [v] (eval o X.env)
      let c ← holding [v, b] (eval i X.env)
      standAt pos
      holding [v, b, c] (setItem b c v)
      release [v, b, c] []) := by intro _; rfl) : PG X (.Subscript o i pos) (gSub E p t) := by
  intro a s σ H v u Q I r h
  refine wpAny_bind (wpAny_holding (thn (f a s σ H _ I h) ?_))
  rintro b n ⟨x, g, z, q, j⟩
  refine wpAny_bind (wpAny_holding (thn (A a n σ g _ z j) ?_))
  rintro c B ⟨y, d, e, D, m⟩
  refine wpAny_bind (wpAny_standAt (wpAny_bind (wpAny_holding (thn (l a B σ d x y v b c u _ e q D r m) ?_))))
  rintro _ s3 ⟨k, w, C⟩
  exact wpAny_release ⟨σ, k, w, C⟩
def tAsg (te : TE) (g : TG) : TS := fun D σ H => te σ H fun x a => g x σ a D.nx
theorem ps_asg (m : PE X e te) (o : PG X b g) (n : swapsWithSole [b] e pos.line X.env = pure false := by rfl) (c : swappedStores [b] e X.env = pure none := by rfl)
    (i : (assignEach [b] X.env).map (·.2) = [assign b X.env] := by rfl) : PS X (.Assign [b] e pos) (tAsg te g) := by
  intro a s σ H D I h
  refine wpAny_Assign_stores (thn (m a s σ H _ I h) ?_) n c
  rintro v j ⟨x, k, f, d, l⟩
  rw [i]
  exact thn (o a j σ k x v _ f d l) fun _ s2 q => q
theorem ps_set (c : X.N.Nodup) (f : X.N[i]? = some x) (j : Loc X.env.scope x) (m : PE X e te) (o : swapsWith e (some (.Name x b)) pos.line X.env = pure false := by rfl) (n : X.fn x = true ∨ X.env.scope.names.lookup x = some .local := by first | exact .inl rfl | exact .inr rfl | assumption) :
    PS X (.Assign [.Name x b] e pos) (tAsg te (gName i)) := by
  intro a s σ H D I h
  refine wpAny_Assign_Name (thn (m a s σ H _ I h) ?_) o
  rintro v s1 ⟨y, k, d, p, l⟩
  exact store_ok d c f j p (fun s2 g => ⟨_, k, g, l⟩) n
end
structure It where
  go : Nat → Hp → Prop
  yld : Nat → Hp → V → Hp → Prop
  stop : Nat → Hp → Prop
def FpOk (X : Cx) (d : List (Addr × Obj)) (H : Hp) (b : Addr) : Prop :=
  H b = none ∧ b ≠ X.env.locals ∧ b ∉ X.fs ∧ (b ∈ X.ex ∨ X.s₀.heap.objs.size ≤ b) ∧ (∀ x c, X.env.cells.lookup x = some c → c ≠ b) ∧ ∀ p ∈ X.pn ++ d, p.1 ≠ b
theorem Inv.fpOk (I : Inv X pins σ H s) (hb : s.heap.objs.size ≤ b) (hn : H' b = none) : FpOk X pins H' b := by
  refine ⟨hn, Nat.ne_of_gt (Nat.lt_of_lt_of_le I.lt hb), I.nofs hb, .inr (Nat.le_trans I.sz hb), fun x c e z => ?_, fun p hp z => ?_⟩
  · obtain ⟨v, q⟩ := I.cell x c e
    exact absurd (Nat.lt_of_lt_of_le q.lt (by rw [z]; exact hb)) (Nat.lt_irrefl _)
  · exact absurd (Nat.lt_of_lt_of_le (Heap.lt_size (I.pin p hp).1) (by rw [z]; exact hb)) (Nat.lt_irrefl _)
structure Turn (P : Program) (w : World) (K : PySem.W.Frag) (tg : Expr) (J : It) (fp : List Addr) (it : Addr) (tn : Nat → Heap → Prop) : Prop where
  mem : it ∈ fp
  obj : ∀ i h, tn i h → ∀ b ∈ fp, ∃ o, h.get? b = some o ∧ ∀ v, o.data ≠ .cell v
  keep : ∀ i h h', tn i h → (∀ b ∈ fp, ∀ o, h.get? b = some o → h'.get? b = some o) → tn i h'
  item : ∀ (X : Cx), X.prog = P → X.w = w → X.K = K → X.calm = true → ∀ (i : Nat) (pins : List (Addr × Obj)) (s : Shared) (σ : St) (H : Hp) (E : Value → Shared → Prop), Inv X pins σ H s → (∀ b ∈ fp, FpOk X pins H b) → tn i s.heap → J.go i H →
    wpAny (model P w) X.A (pyNext (.ref it)) (fun r s1 => ∃ u, r = some u ∧
      wpAny (model P w) X.A (letOwnedTupleGo tg (.ref it) u) (fun _ s2 => ∃ x H', Inv X pins σ H' s2 ∧ RelV x u ∧ J.yld i H x H' ∧ tn (i + 1) s2.heap ∧ ∀ b ∈ fp, H' b = none) E s1) E s
  done : ∀ (X : Cx), X.prog = P → X.w = w → X.K = K → X.calm = true → ∀ (i : Nat) (pins : List (Addr × Obj)) (s : Shared) (σ : St) (H : Hp) (E : Value → Shared → Prop), Inv X pins σ H s → (∀ b ∈ fp, FpOk X pins H b) → tn i s.heap → J.stop i H →
    wpAny (model P w) X.A (pyNext (.ref it)) (fun r s1 => r = none ∧ Inv X pins σ H s1) E s
  self : ∀ (A : Around) (i : Nat) (s : Shared) (Q : Value → Shared → Prop) (E : Value → Shared → Prop), tn i s.heap → Q (.ref it) s → wpAny (model P w) A (pyIter (.ref it)) Q E s
abbrev TI := St → Hp → (It → Hp → Prop) → Prop
def PIE (X : Cx) (a : List (Addr × Obj)) (σ : St) (i : Expr) (R : It → Hp → Prop) (c : Value) (h : Shared) : Prop :=
  ∃ (f : Addr) (e : List Addr) (g : Nat → Heap → Prop) (J : It) (d : Hp), c = .ref f ∧ Inv X a σ d h ∧ Turn X.prog X.w X.K i J e f g ∧ g 0 h.heap ∧ (∀ b ∈ e, FpOk X a d b) ∧ R J d
def PI (X : Cx) (d b : Expr) (c : TI) : Prop :=
  ∀ (a : List (Addr × Obj)) (s : Shared) (σ : St) (H : Hp) (R : It → Hp → Prop), Inv X a σ H s → c σ H R →
    wpAny (model X.prog X.w) X.A (eval b X.env) (fun v e => wpAny (model X.prog X.w) X.A (pyIter v) (PIE X a σ d R) X.xe e) X.xe s
theorem go_of {s : Shared} {Q : Unit → Shared → Prop} (c : s.heap.get? d = some o) (e : o.cls = .type n) (f : o.data = .fields vs)
    (hn : ["enumerate", "zip", "dict_itemiterator", "dict_reverseitemiterator", "odict_iterator", "itertools.zip_longest", "itertools.pairwise"].contains n = false) (a : Q () s) : wpAny M A (letOwnedTupleGo b (.ref d) u) Q E s := by
  unfold letOwnedTupleGo
  cases b <;> first
    | exact wpAny_pure a
    | (cases u <;> first
        | exact wpAny_pure a
        | (refine wpAny_bind (wpAny_load c ?_)
           rw [e, f]
           show wpAny M A (if (["enumerate", "zip", "dict_itemiterator", "dict_reverseitemiterator", "odict_iterator", "itertools.zip_longest", "itertools.pairwise"].contains n && vs[0]? == some (rawInt _)) = true then _ else _) Q E s
           rw [if_neg (by grind)]
           exact wpAny_pure a))
def Itl (K : PySem.W.Frag) (a : Addr) : It :=
  ⟨fun i H => ∃ b x, SqL K H a b ∧ b[i]? = some x, fun i H x c => c = H ∧ ∀ b, SqL K H a b → b[i]? = some x, fun i H => ∃ b, SqL K H a b ∧ b.length ≤ i⟩
def Itr (lo : Int) (n : Nat) : It := ⟨fun i _ => i < n, fun i H x a => a = H ∧ x = .int (lo + i), fun i _ => n ≤ i⟩
theorem turn_list {P : Program} {w : World} {K : PySem.W.Frag} {O : Expr} (a g : Addr) : Turn P w K O (Itl K a) [g] g (fun i h => h.IsListIter g a i) where
  mem := by simp
  obj := fun i h st b j => by
    have e : b = g := by simpa using j
    subst e
    obtain ⟨o, e, c, d⟩ := st
    grind
  keep := fun i h m st k => st.at fun o e => k g (by simp) o e
  item := by
    intro X v D B L i f s σ H E I q st J
    subst v D B
    obtain ⟨N, x, n, t⟩ := J
    obtain ⟨A, z, p, R⟩ := I.list n
    obtain ⟨u, U, Y⟩ := z.get t
    obtain ⟨G, F, Q, y, r, C⟩ := q g (by simp)
    refine wpAny_pyNext_list_item st p.isList (x := u) (by simpa using U) fun m l Z => ?_
    have M : Inv X f σ H { s with heap := m } := I.turned (t' := s.toks) (fun b o j e => (Z.2 b j).trans e) G F y r C
    obtain ⟨o, e, c, d⟩ := id l
    exact ⟨u, rfl, go_of (s := { s with heap := m }) e c d (by decide) ⟨x, H, M, Y, ⟨rfl, fun ys T => by rw [I.list_inj T n]; exact t⟩, l, fun b j => (q b j).1⟩⟩
  done := by
    intro X v D B L i f s σ H E I q st J
    subst v D B
    obtain ⟨N, n, t⟩ := J
    obtain ⟨A, z, p, R⟩ := I.list n
    obtain ⟨G, F, Q, y, r, C⟩ := q g (by simp)
    have hl := z.length
    exact wpAny_pyNext_list_end (I.ok.hd L) st p.isList (by simp; lia) fun m S => ⟨rfl, I.turned (t' := s.toks) (fun b o j e => S b o j e) G F y r C⟩
  self := fun _ _ _ _ _ st h => wpAny_pyIter_listiter st h
theorem turn_range {P : Program} {w : World} {K : PySem.W.Frag} {G : Expr} (c : Addr) (lo : Int) (n : Nat) : Turn P w K G (Itr lo n) [c] c (fun i h => IsRangeIter h c (lo + (i : Nat) * 1) ((n : Int) - (i : Nat)) 1) where
  mem := by simp
  obj := fun i h st b d => by
    grind
  keep := fun i h g st k => k c (by simp) _ st
  item := by
    intro X l q m x i a s σ H E I j st u
    subst l q m
    obtain ⟨y, r, L, z, A, p⟩ := j c (by simp)
    have W := Walks.range (prog := X.prog) (w := X.w) (I.ok.hd x) c lo 1 n
    refine W.item i s _ _ u st fun v g B F f C => ?_
    obtain ⟨t, rfl⟩ := F
    have J : Inv X a σ H { s with heap := g, toks := B } := I.turned (fun b o d e => C b o (by simpa using d) e) y r z A p
    refine ⟨_, rfl, go_of (s := { s with heap := g, toks := B }) (n := "range_iterator") f rfl rfl (by decide) ⟨.int (lo + i), H, J, ⟨t, ?_⟩, ⟨rfl, rfl⟩, f, fun b d => (j b d).1⟩⟩
    grind
  done := by
    intro X l q m x i a s σ H E I j st u
    subst l q m
    obtain ⟨y, r, L, z, A, p⟩ := j c (by simp)
    exact wpAny_pyNext_range_end (I.ok.hd x) st (by have : n ≤ i := u; lia) fun g D => ⟨rfl, I.turned (t' := s.toks) (fun b o d e => D b o d e) y r z A p⟩
  self := fun _ _ _ _ _ st h => wpAny_pyIter_rangeiter st h
end L2
namespace L2
open PySem PySem.Spec PyProof.Rows
section
variable {X : Cx} {tg : Expr}
def iList (K : PySem.W.Frag) (c : TE) : TI := fun σ H R => c σ H fun x b => ∃ a, x = .ref a ∧ (∃ d, SqL K b a d) ∧ R (Itl K a) b
theorem pi_list (j : PE X l k) : PI X tg l (iList X.K k) := by
  intro c s σ H R I h
  refine thn (j c s σ H _ I h) ?_
  rintro v f ⟨x, m, d, i, n⟩
  obtain ⟨a, e, ⟨xs, g⟩, q⟩ := n
  subst e
  cases i
  obtain ⟨its, rv, p, hz⟩ := d.list g
  refine wpAny_pyIter_list p.isList ?_
  refine ⟨f.heap.objs.size, [f.heap.objs.size], _, _, m, rfl, d.kept fun b o e => Heap.get?_push_of_some _ e, turn_list a _, ⟨_, Heap.get?_push_size _ rfl, rfl, rfl⟩, fun b hb => ?_, q⟩
  have e : b = f.heap.objs.size := by grind
  subst e
  exact d.fpOk (Nat.le_refl _) (d.hok.fresh (Nat.le_refl _))
theorem range_it {d : List (Addr × Obj)} {σ : St} {H : Hp} {s : Shared} {R : It → Hp → Prop} {E : Value → Shared → Prop} {lo c : Int} {t u v : Tok} {g : Nat} (I : Inv X d σ H s) (k : -(2 ^ 62) ≤ lo) (h2 : lo < 2 ^ 62) (l : -(2 ^ 62) ≤ c) (h : c < 2 ^ 62)
    (q : R (Itr lo (c - lo).toNat) H) : wpAny (model X.prog X.w) X.A (pyIter (.ref s.heap.objs.size)) (PIE X d σ tg R) E { s with heap := s.heap.push { cls := .type "range", data := .fields #[.int lo t, .int c u, .int 1 v] }, toks := g } := by
  refine wpAny_pyIter_range (IsRange.new ..) (small_one k h2 l h) ?_
  have f : Inv X d σ H { s with heap := s.heap.push { cls := .type "range", data := .fields #[.int lo t, .int c u, .int 1 v] }, toks := g } := I.kept fun b o e => Heap.get?_push_of_some _ e
  refine ⟨(s.heap.push { cls := .type "range", data := .fields #[.int lo t, .int c u, .int 1 v] }).objs.size, [(s.heap.push { cls := .type "range", data := .fields #[.int lo t, .int c u, .int 1 v] }).objs.size], _, _, H, rfl,
    f.kept (t' := g) fun b o e => Heap.get?_push_of_some _ e, turn_range _ lo (c - lo).toNat, ?_, fun b hb => ?_, q⟩
  · have i : lo + ((0 : Nat) : Int) * 1 = lo := by simp
    have j : (((c - lo).toNat : Nat) : Int) - ((0 : Nat) : Int) = Builtin.Range.rangeSize lo c 1 := by rw [rangeSize_one]; grind
    rw [i, j]
    exact Heap.get?_push_size _ rfl
  · have e : b = (s.heap.push { cls := .type "range", data := .fields #[.int lo t, .int c u, .int 1 v] }).objs.size := by grind
    subst e
    exact f.fpOk (Nat.le_refl _) (f.hok.fresh (Nat.le_refl _))
def iRng1 (c : TA) : TI := fun σ H R => c σ H fun a b => ∃ j : Int, a = [.int j] ∧ -(2 ^ 62) ≤ j ∧ j < 2 ^ 62 ∧ R (Itr 0 j.toNat) b
theorem pi_range1 (l : Gl X "range") (d : X.mg "range" = none) (m : PA X [a] k) (i : starEach [a] X.env = [(false, eval a X.env)] := by rfl) : PI X tg (.Call (.Name "range" p) [a] [] pos) (iRng1 k) := by
  intro b s σ H R I h
  refine Call_ (ld_blt I l d boot_range (PyProof.Rows.callWith_type1 (thn (m pos b s σ H _ I h) ?_) i rfl))
  rintro us s1 ⟨vs, H1, f, n, c⟩
  obtain ⟨j, e, c, o, q⟩ := c
  subst e
  cases n with
  | cons r g =>
    cases g
    obtain ⟨t, rfl⟩ := r
    exact call_range_1 (range_it f (by lia) (by lia) c o (by simp_all))
def tFor (e : TI) (g : TG) (k : TS) : TS := fun D σ H => e σ H fun J f => ∃ W : Nat → Nat → St → Hp → Prop, (∃ m, W 0 m σ f) ∧ ∀ i m σ H, W i m σ H →
  (J.stop i H ∧ D.nx σ H) ∨ (J.go i H ∧ ∃ N : St → Hp → Prop, (∀ d b, N d b → ∃ c, c < m ∧ W (i + 1) c d b) ∧ ∀ x b, J.yld i H x b → g x σ b fun j h => k { D with nx := N, ct := N, bk := D.nx } j h)
def pinsAt (fp : List Addr) (h : Heap) : List (Addr × Obj) := fp.filterMap fun b => (h.get? b).map fun o => (b, o)
theorem mem_pinsAt {h : Heap} (hb : b ∈ fp) (e : h.get? b = some o) : (b, o) ∈ pinsAt fp h := List.mem_filterMap.mpr ⟨b, hb, by rw [e]; rfl⟩
theorem of_pinsAt (a : p ∈ pinsAt fp h) : p.1 ∈ fp ∧ h.get? p.1 = some p.2 := by
  obtain ⟨b, hb, e⟩ := List.mem_filterMap.mp a
  cases q : h.get? b with
  | none => grind
  | some o =>
    grind
theorem Inv.pinned (I : Inv X a σ H s) (d : ∀ b ∈ fp, FpOk X a H b) (ho : ∀ b ∈ fp, ∃ o, s.heap.get? b = some o ∧ ∀ v, o.data ≠ .cell v) : Inv X (a ++ pinsAt fp s.heap) σ H s :=
  I.pins_of fun p c => (List.mem_append.mp c).elim (fun z => I.pin p (List.mem_append_right _ z)) fun z => by
    obtain ⟨f, e⟩ := of_pinsAt z
    obtain ⟨f0, f1, f2, _⟩ := d p.1 f
    grind
theorem Inv.unpinned (I : Inv X (a ++ pl) σ H s) : Inv X a σ H s := I.pins_of fun p b => I.pin p (List.mem_append_right _ (List.mem_append_left _ b))
theorem ps_for (Q : PassesOwn (model X.prog X.w) X.A X.env X.xe) (hc : X.calm = true) (hi : PI X tg y wi) (hg : PG X tg g) (c : PSs X B tb)
    (hs : ∀ x, foldedSetIterable y X.env x = pure x := by intro _; rfl) : PS X (.For tg y B [] pos) (tFor wi g tb) := by
  intro a s σ H D I h
  refine wpAny_For (thn (hi a s σ H _ I h) fun v s1 h1 => thn h1 fun itv s2 h2 => ?_) hs
  obtain ⟨it, L, tn, J, H2, e, I2, T, U, f2, W, ⟨m0, w0⟩, E⟩ := h2
  subst e
  have l : ∀ {q : Hp}, (∀ b ∈ L, q b = none) → ∀ b ∈ L, FpOk X a q b := fun hn b c => ⟨hn b c, (f2 b c).2⟩
  refine codeAny_forLoop_any (fun n s' => ∃ i G q, Inv X a G q s' ∧ tn i s'.heap ∧ (∀ b ∈ L, q b = none) ∧ W i n G q) ?_ m0 ⟨0, σ, H2, I2, U, fun b c => (f2 b c).1, w0⟩
  rintro n s3 ⟨i, O, R, I3, M, F, w3⟩
  rcases E i n O R w3 with ⟨C, qn⟩ | ⟨go, N, hN, step⟩
  · refine wpAny_passesOwn Q (thn (T.done X rfl rfl rfl hc i a s3 O R X.xe I3 (l F) M C) fun r s4 ⟨S, I4⟩ => ?_)
    subst S
    exact wpAny_execs_nil ⟨O, R, I4, qn⟩
  · refine wpAny_passesOwn Q (thn (T.item X rfl rfl rfl hc i a s3 O R X.xe I3 (l F) M go) fun r s4 ⟨u, S, h4⟩ => ?_)
    subst S
    refine wpAny_passesOwn Q (thn h4 ?_)
    rintro _ s5 ⟨x, H5, I5, r5, y5, z, Y⟩
    have I5' := I5.pinned (l Y) (T.obj _ _ z)
    refine wpAny_passesOwn Q (thn (hg _ s5 O H5 x u _ I5' r5 (step x H5 y5)) ?_)
    rintro _ s6 ⟨σ6, H6, I6, q6⟩
    refine wpAny_passesOwn Q (thn (c _ s6 σ6 H6 _ I6 q6) fun f Z t => ?_)
    have again : ∀ {j : St} {k : Hp}, Inv X (a ++ pinsAt L s5.heap) j k Z → N j k → ∃ m, m < n ∧ ∃ i G q, Inv X a G q Z ∧ tn i Z.heap ∧ (∀ b ∈ L, q b = none) ∧ W i m G q := fun {j k} p P => by
      obtain ⟨m', hm, w7⟩ := hN j k P
      refine ⟨m', hm, i + 1, j, k, p.unpinned, T.keep _ _ _ z fun b c o e => (p.pin (b, o) (List.mem_append_right _ (List.mem_append_right _ (mem_pinsAt c e)))).1, fun b c => ?_, w7⟩
      obtain ⟨o, e, d⟩ := T.obj _ _ z b c
      exact (p.pin (b, o) (List.mem_append_right _ (List.mem_append_right _ (mem_pinsAt c e)))).2.1
    cases f with
    | next => obtain ⟨j, k, p, P⟩ := t; exact again p P
    | cont => obtain ⟨j, k, p, P⟩ := t; exact again p P
    | brk => obtain ⟨j, k, p, t⟩ := t; exact ⟨j, k, p.unpinned, t⟩
    | ret v => obtain ⟨x7, j, k, p, r7, t⟩ := t; exact ⟨x7, j, k, p.unpinned, r7, t⟩
end
theorem for_list {K : PySem.W.Frag} {a : Addr} {xs : List V} {g : TG} {tb : TS} {D : Ends} {σ : St} {H : Hp} (Pv : Nat → St → Hp → Prop) (h0 : Pv 0 σ H) (hl : ∀ i σ H, i ≤ xs.length → Pv i σ H → SqL K H a xs)
    (hs : ∀ i x σ H, xs[i]? = some x → Pv i σ H → g x σ H fun σ2 H2 => tb { D with nx := Pv (i + 1), ct := Pv (i + 1), bk := D.nx } σ2 H2) (hd : ∀ σ H, Pv xs.length σ H → D.nx σ H) :
    ∃ W : Nat → Nat → St → Hp → Prop, (∃ m, W 0 m σ H) ∧ ∀ i m σ H, W i m σ H →
      ((Itl K a).stop i H ∧ D.nx σ H) ∨ ((Itl K a).go i H ∧ ∃ N : St → Hp → Prop, (∀ σ' H', N σ' H' → ∃ m', m' < m ∧ W (i + 1) m' σ' H') ∧ ∀ x H', (Itl K a).yld i H x H' → g x σ H' fun σ2 H2 => tb { D with nx := N, ct := N, bk := D.nx } σ2 H2) := by
  refine ⟨fun i m σ H => m = xs.length - i ∧ i ≤ xs.length ∧ Pv i σ H, ⟨xs.length, by simp, Nat.zero_le _, h0⟩, ?_⟩
  rintro i m σ H ⟨rfl, hi, p⟩
  have q := hl i σ H hi p
  by_cases hlt : i < xs.length
  · refine .inr ⟨⟨xs, xs[i], q, by simp [hlt]⟩, Pv (i + 1), fun σ' H' p' => ⟨xs.length - (i + 1), by omega, rfl, hlt, p'⟩, fun x H' y => ?_⟩
    obtain ⟨e, y⟩ := y
    subst e
    exact hs i x σ _ (y xs q) p
  · have e : i = xs.length := by omega
    subst e
    exact .inl ⟨⟨xs, q, Nat.le_refl _⟩, hd σ H p⟩
end L2
namespace L2
open PySem PySem.Spec PyProof.Rows
abbrev R2 := V → V → Hp → VK → Prop
def OpR (X : Cx) (f : Value → Value → Sem Value) (r : R2) : Prop :=
  ∀ (b : List (Addr × Obj)) (s : Shared) (σ : St) (H : Hp) (x y : V) (v u : Value) (Q : VK), Inv X b σ H s → RelV x v → RelV y u → r x y H Q →
    wpAny (model X.prog X.w) X.A (f v u) (EP X b σ Q) X.xe s
def UnR (X : Cx) (f : Value → Sem Value) (r : V → Hp → VK → Prop) : Prop :=
  ∀ (b : List (Addr × Obj)) (s : Shared) (σ : St) (H : Hp) (x : V) (v : Value) (Q : VK), Inv X b σ H s → RelV x v → r x H Q →
    wpAny (model X.prog X.w) X.A (f v) (EP X b σ Q) X.xe s
def CallR (X : Cx) (f : Value) (r : List V → Hp → VK → Prop) : Prop :=
  ∀ (b : List (Addr × Obj)) (s : Shared) (σ : St) (H : Hp) (c : List V) (d : List Value) (Q : VK), Inv X b σ H s → Vals c d → r c H Q →
    wpAny (model X.prog X.w) X.A (call f d) (EP X b σ Q) X.xe s
def tOp (r : R2) (a d : TE) : TE := fun σ H Q => a σ H fun x c => d σ c fun y b => r x y b Q
def tUn (r : V → Hp → VK → Prop) (a : TE) : TE := fun σ H Q => a σ H fun x b => r x b Q
def rI (C : Int → Int → Prop) (g : Int → Int → V) : R2 := fun x y H Q => ∃ i j, x = .int i ∧ y = .int j ∧ C i j ∧ Q (g i j) H
def rI0 (g : Int → Int → V) : R2 := fun x y H Q => ∃ i j, x = .int i ∧ y = .int j ∧ Q (g i j) H
def rU (g : Int → V) : V → Hp → VK → Prop := fun x H Q => ∃ i, x = .int i ∧ Q (g i) H
section
variable {X : Cx} {a b c : Expr} {ta tb tc : TE} {pos : Pos}
theorem binT (ha : PE X a ta) (hb : PE X b tb) {R : V → V → Hp → Prop} (I : Inv X pins σ H s)
    (h : ta σ H fun x H1 => tb σ H1 fun y H2 => R x y H2) {f : Value → Value → Sem Value}
    (hf : ∀ v u s2 x y H2, Inv X pins σ H2 s2 → RelV x v → RelV y u → R x y H2 → wpAny (model X.prog X.w) X.A (f v u) Q X.xe s2) :
    wpAny (model X.prog X.w) X.A (eval a X.env) (fun v s₁ => wpAny (model X.prog X.w) X.A (eval b X.env) (fun u s₂ => wpAny (model X.prog X.w) X.A (f v u) Q X.xe s₂) X.xe s₁) X.xe s := by
  refine thn (ha pins s σ H _ I h) fun v s1 ⟨x, H1, I1, r1, q1⟩ => ?_
  refine thn (hb pins s1 σ H1 _ I1 q1) fun u s2 ⟨y, H2, I2, r2, q2⟩ => ?_
  exact hf v u s2 x y H2 I2 r1 r2 q2
theorem pe_op (g : OpR X (binaryOp op) r) (i : PE X a ta) (m : PE X b tb) : PE X (.BinOp a op b pos) (tOp r ta tb) := by
  intro d s σ H Q I h
  exact wpAny_BinOp (binT i m I h fun v u f x y l k j e q => g d f σ l x y v u Q k j e q)
theorem pe_un (i : UnR X (unaryOp op) r) (l : PE X a ta) : PE X (.UnaryOp op a pos) (tUn r ta) := by
  intro d s σ H Q I h
  exact UnaryOp_ (thn (l d s σ H _ I h) (by rintro v e ⟨x, j, g, f, k⟩; exact i d e σ j x v Q g f k))
theorem opI {f : Value → Value → Sem Value} {C : Int → Int → Prop} {g : Int → Int → Int}
    (rule : ∀ (i j : Int) (t u : Tok) (s : Shared) (Q : Value → Shared → Prop) (E : Value → Shared → Prop), C i j → Q (.int (g i j) s.toks) { s with toks := s.toks + 1 } → wpAny (model X.prog X.w) X.A (f (.int i t) (.int j u)) Q E s) :
    OpR X f (rI C fun i j => .int (g i j)) := by
  intro pins s σ H x y v u Q I l d h
  obtain ⟨i, j, rfl, rfl, k, q⟩ := h
  obtain ⟨t, rfl⟩ := l
  obtain ⟨e, rfl⟩ := d
  exact rule i j t e s _ _ k ⟨.int (g i j), H, I.tok _, ⟨_, rfl⟩, q⟩
theorem opI0 {f : Value → Value → Sem Value} {g : Int → Int → Int}
    (rule : ∀ (i j : Int) (t u : Tok) (s : Shared) (Q : Value → Shared → Prop) (E : Value → Shared → Prop), Q (.int (g i j) s.toks) { s with toks := s.toks + 1 } → wpAny (model X.prog X.w) X.A (f (.int i t) (.int j u)) Q E s) :
    OpR X f (rI0 fun i j => .int (g i j)) := by
  intro pins s σ H x y v u Q I k d h
  obtain ⟨i, j, rfl, rfl, q⟩ := h
  obtain ⟨t, rfl⟩ := k
  obtain ⟨e, rfl⟩ := d
  exact rule i j t e s _ _ ⟨.int (g i j), H, I.tok _, ⟨_, rfl⟩, q⟩
theorem opB0 {f : Value → Value → Sem Value} {g : Int → Int → Bool}
    (rule : ∀ (i j : Int) (t u : Tok) (s : Shared) (Q : Value → Shared → Prop) (E : Value → Shared → Prop), Q (.bool (g i j)) s → wpAny (model X.prog X.w) X.A (f (.int i t) (.int j u)) Q E s) :
    OpR X f (rI0 fun i j => .bl (g i j)) := by
  intro pins s σ H x y v u Q I k d h
  obtain ⟨i, j, rfl, rfl, q⟩ := h
  obtain ⟨t, rfl⟩ := k
  obtain ⟨e, rfl⟩ := d
  exact rule i j t e s _ _ ⟨.bl (g i j), H, I, rfl, q⟩
def CDiv (i j : Int) : Prop := 0 < j ∧ j < 1073741824
def CPow (i j : Int) : Prop := 0 ≤ j ∧ j ≤ 1000000 ∧ i.natAbs < 2 ^ 64
theorem op_add : OpR X (binaryOp .Add) (rI0 fun i j => .int (i + j)) := opI0 fun _ _ _ _ _ _ _ q => add_int q
theorem op_sub : OpR X (binaryOp .Sub) (rI0 fun i j => .int (i - j)) := opI0 fun _ _ _ _ _ _ _ q => sub_int q
theorem op_fdiv : OpR X (binaryOp .FloorDiv) (rI CDiv fun i j => .int (i / j)) := opI fun i j _ _ _ _ _ d q => by
  have h1 : (0 : Int) < j := d.1
  have h2 := d.2
  exact floordiv_int (by lia) (by grind) (.inl (PyProof.noPylong_small (by lia)))
theorem op_mod : OpR X (binaryOp .Mod) (rI (fun _ j => 0 < j) fun i j => .int (i % j)) := opI fun i j _ _ _ _ _ hc q => by
  exact mod_int' (by lia) (by grind)
theorem op_pow : OpR X (binaryOp .Pow) (rI CPow fun i j => .int (i ^ j.toNat)) := opI fun _ _ _ _ _ _ _ d q => pow_int_small d.1 d.2.1 d.2.2 q
theorem unI {f : Value → Sem Value} {g : Int → Int}
    (rule : ∀ (i : Int) (t : Tok) (s : Shared) (Q : Value → Shared → Prop) (E : Value → Shared → Prop), Q (.int (g i) s.toks) { s with toks := s.toks + 1 } → wpAny (model X.prog X.w) X.A (f (.int i t)) Q E s) :
    UnR X f (rU fun i => .int (g i)) := by
  intro pins s σ H x v Q I d h
  obtain ⟨i, rfl, q⟩ := h
  obtain ⟨t, rfl⟩ := d
  exact rule i t s _ _ ⟨.int (g i), H, I.tok _, ⟨_, rfl⟩, q⟩
theorem un_neg : UnR X (unaryOp .USub) (rU fun i => .int (-i)) := unI fun _ _ _ _ _ q => neg_int q
end
def scal : V → V → Bool
  | .non, .non => true | .non, .int _ => true | .int _, .non => true | .non, .bl _ => true | .bl _, .non => true | .non, .str _ => true | .str _, .non => true
  | .int _, .int _ => true | .bl _, .bl _ => true | .str _, .str _ => true | .byt _, .byt _ => true
  | .int _, .str _ => true | .str _, .int _ => true | .bl _, .str _ => true | .str _, .bl _ => true
  | _, _ => false
def rNe : R2 := fun x y H Q => scal x y = true ∧ Q (.bl (!decide (x = y))) H
theorem dec_int : decide (V.int i = V.int j) = (i == j) := by
  grind
theorem dec_bl : decide (V.bl i = V.bl j) = (i == j) := by
  grind
theorem dec_str : decide (V.str i = V.str j) = (i == j) := by
  grind
theorem dec_byt : decide (V.byt i = V.byt j) = (i.toList == j.toList) := by
  rw [Bool.eq_iff_iff]
  cases i
  cases j
  simp
section
variable {X : Cx} {a b c : Expr} {ta tb tc : TE} {pos : Pos}
theorem fin_bl (I : Inv X d σ H s) (q : Q (.bl k) H) (e : k = k') : EP X d σ Q (.bool k') s := by
  subst e
  exact ⟨.bl k, H, I, rfl, q⟩
theorem op_ne : OpR X (compareOp .NotEq) rNe := by
  intro pins s σ H x y v u Q I rx ry h
  obtain ⟨hs, q⟩ := h
  cases x with
  | non =>
    cases rx
    cases y with
    | non => cases ry; exact PySem.EqNone.ne_none_none (fin_bl I q (by simp))
    | bl j => cases ry; exact PySem.EqNone.ne_none_bool (fin_bl I q (by simp))
    | int j => obtain ⟨t', rfl⟩ := ry; exact PySem.EqNone.ne_none_int (fin_bl I q (by simp))
    | str j => obtain ⟨t', rfl⟩ := ry; exact PySem.EqNone.ne_none_str (fin_bl I q (by simp))
    | _ => exact absurd (show false = true from hs) Bool.false_ne_true
  | bl i =>
    cases rx
    cases y with
    | non => cases ry; exact PySem.EqNone.ne_bool_none (fin_bl I q (by simp))
    | bl j => cases ry; exact ne_bool (fin_bl I q (congrArg not dec_bl))
    | str j => obtain ⟨t', rfl⟩ := ry; exact PySem.EqMixed.ne_bool_str (fin_bl I q (by simp))
    | _ => exact absurd (show false = true from hs) Bool.false_ne_true
  | int i =>
    obtain ⟨t, rfl⟩ := rx
    cases y with
    | non => cases ry; exact PySem.EqNone.ne_int_none (fin_bl I q (by simp))
    | int j => obtain ⟨t', rfl⟩ := ry; exact ne_int (fin_bl I q (congrArg not dec_int))
    | str j => obtain ⟨t', rfl⟩ := ry; exact PySem.EqMixed.ne_int_str (fin_bl I q (by simp))
    | _ => exact absurd (show false = true from hs) Bool.false_ne_true
  | str i =>
    obtain ⟨t, rfl⟩ := rx
    cases y with
    | non => cases ry; exact PySem.EqNone.ne_str_none (fin_bl I q (by simp))
    | bl j => cases ry; exact PySem.EqMixed.ne_str_bool (fin_bl I q (by simp))
    | int j => obtain ⟨t', rfl⟩ := ry; exact PySem.EqMixed.ne_str_int (fin_bl I q (by simp))
    | str j => obtain ⟨t', rfl⟩ := ry; exact ne_str (fin_bl I q (congrArg not dec_str))
    | _ => exact absurd (show false = true from hs) Bool.false_ne_true
  | byt i =>
    obtain ⟨t, rfl⟩ := rx
    cases y with
    | byt j => obtain ⟨t', rfl⟩ := ry; exact PySem.W.ne_bytes (fin_bl I q (congrArg not dec_byt))
    | _ => exact absurd (show false = true from hs) Bool.false_ne_true
  | _ => cases y <;> exact absurd (show false = true from hs) Bool.false_ne_true
theorem op_lt : OpR X (compareOp .Lt) (rI0 fun i j => .bl (decide (i < j))) := opB0 fun _ _ _ _ _ _ _ q => lt_int q
theorem op_le : OpR X (compareOp .LtE) (rI0 fun i j => .bl (decide (i ≤ j))) := opB0 fun _ _ _ _ _ _ _ q => le_int q
theorem op_gt : OpR X (compareOp .Gt) (rI0 fun i j => .bl (decide (j < i))) := opB0 fun _ _ _ _ _ _ _ q => gt_int q
theorem op_ge : OpR X (compareOp .GtE) (rI0 fun i j => .bl (decide (j ≤ i))) := opB0 fun _ _ _ _ _ _ _ q => ge_int q
theorem op_in_str : OpR X (compareOp .In) (fun x y H Q => ∃ i j, x = .str i ∧ y = .str j ∧ Q (.bl (!(Builtin.Str.occurrences j i 0 j.length 1).isEmpty)) H) := by
  intro pins s σ H x y v u Q I e d h
  obtain ⟨i, j, rfl, rfl, q⟩ := h
  obtain ⟨t, rfl⟩ := e
  obtain ⟨t', rfl⟩ := d
  exact in_str (fin_bl I q rfl)
theorem op_notin_str : OpR X (compareOp .NotIn) (fun x y H Q => ∃ i j, x = .str i ∧ y = .str j ∧ Q (.bl (!(!(Builtin.Str.occurrences j i 0 j.length 1).isEmpty))) H) := by
  intro pins s σ H x y v u Q I e d h
  obtain ⟨i, j, rfl, rfl, q⟩ := h
  obtain ⟨t, rfl⟩ := e
  obtain ⟨t', rfl⟩ := d
  exact notIn_str (fin_bl I q rfl)
theorem nomark (b : Expr) (h : op ≠ .In := by decide) (h2 : op ≠ .NotIn := by decide) : behindInMarks op b = false := by
  have d : (op == CmpOp.In) = false := by grind
  have e : (op == CmpOp.NotIn) = false := by grind
  cases b <;> simp [behindInMarks, d, e]
theorem pe_cmpR (g : OpR X (compareOp op) r) (i : PE X a ta) (m : PE X b tb) (n : behindInMarks op b = false) : PE X (.Compare a [op] [b] pos) (tOp r ta tb) := by
  intro d s σ H Q I h
  exact wpAny_Compare1 (binT i m I h fun v u f x y l k j e q => g d f σ l x y v u Q k j e q) n
def tTest (t : TE) : TT := fun σ H Q => t σ H fun x d => ∃ k, x = .bl k ∧ Q k d
theorem pt_cmpR (j : OpR X (compareOp op) r) (o : PE X a ta) (q : PE X b tb) (t : behindInMarks op b = false) : PT X (.Compare a [op] [b] pos) (tTest (tOp r ta tb)) := by
  intro d s σ H Q I h
  refine wpAny_isTrue_Compare1 (thn (o d s σ H _ I h) fun v E ⟨x, l, B, w, m⟩ => thn (q d E σ l _ B m) fun u C ⟨y, F, i, g, p⟩ =>
    thn (j d C σ F x y v u _ i w g p) ?_) t
  rintro c s3 ⟨z, n, A, f, k, e, D⟩
  subst e
  cases f
  exact wpAny_truthy_bool ⟨n, A, D⟩
def tChain (r f : R2) (ta tb tc : TE) : TE := fun σ H Q => ta σ H fun x g => tb σ g fun y i => r x y i fun z d => ∃ k, z = .bl k ∧
  (if k = true then tc σ d fun e h => f y e h Q else Q (.bl false) d)
theorem pe_chain (T : OpR X (compareOp op) r) (i : OpR X (compareOp g) S) (A : PE X a ta) (D : PE X b tb) (w : PE X c tc)
    (E : lastMarks [op, g] [b, c] = false := by with_unfolding_all rfl) : PE X (.Compare a [op, g] [b, c] pos) (tChain r S ta tb tc) := by
  intro f s σ H Q I h
  refine Compare_chain (thn (A f s σ H _ I h) fun v q ⟨x, U, O, M, p⟩ => chain_link (thn (D f q σ U _ O p) fun u R ⟨y, Y, F, n, B⟩ =>
    thn (T f R σ Y x y v u _ F M n B) ?_)) E
  rintro d C ⟨z, j, m, o, k, e, l⟩
  subst e
  cases o
  refine wpAny_truthy_bool ?_
  cases k with
  | false => exact ite_ff ⟨.bl false, j, m, rfl, l⟩
  | true => exact ite_tt (chain_last (thn (w f C σ j _ m l) (by rintro P t ⟨W, L, G, N, J⟩; exact i f t σ L y W u P Q G n N J)))
theorem line63 : (sizeLine : Nat) < 2 ^ 63 := by decide
theorem op_add_str : OpR X (binaryOp .Add) (fun x y H Q => ∃ i j, x = .str i ∧ y = .str j ∧ i.length + j.length ≤ sizeLine ∧ Q (.str (i ++ j)) H) := by
  intro pins s σ H x y v u Q I g d h
  obtain ⟨i, j, rfl, rfl, f, q⟩ := h
  obtain ⟨t, rfl⟩ := g
  obtain ⟨e, rfl⟩ := d
  exact add_str (fun e tk => ⟨.str (i ++ j), H, I.tok _, ⟨_, rfl⟩, q⟩) f
def PlainIxT (b : Expr) : Prop := ∀ o i, subscripted b false o i = operate [o, i] (getItem o i)
theorem pe_item_str (n : PE X a ta) (r : PE X b tb) (l : PlainIxT b) :
    PE X (.Subscript a b pos) (tOp (fun x y H Q => ∃ z i c, x = .str z ∧ y = .int i ∧ 0 ≤ i ∧ i < 2 ^ 63 ∧ i < z.length ∧ z.cps[i.toNat]? = some c ∧ Q (.str ⟨#[c]⟩) H) ta tb) := by
  intro pins s σ H Q I h
  refine Subscript_ (binT n r I h fun v u j x y p f o d q => ?_)
  obtain ⟨z, i, c, rfl, rfl, k, h63, g, m, q⟩ := q
  obtain ⟨t, rfl⟩ := o
  obtain ⟨t', rfl⟩ := d
  have e := PySem.StrLaws.seqIndex_nonneg k g
  exact tail_any (typeIs_str j z t) slot_str_getitem.lookup (getItem_str (c := c) (by
    grind) (by rw [e]; exact m) ⟨.str ⟨#[c]⟩, p, f.tok _, ⟨_, rfl⟩, q⟩) (l _ _)
theorem vals1 (r : Vals [x] us) : ∃ u, us = [u] ∧ RelV x u := by
  cases r with
  | cons r1 r2 => cases r2; exact ⟨_, rfl, r1⟩
theorem vals2 (r : Vals [x, y] us) : ∃ u w', us = [u, w'] ∧ RelV x u ∧ RelV y w' := by
  cases r with
  | cons r1 e =>
    cases e with
    | cons r3 d => cases d; grind
theorem call_min2 (e : X.calm = true) : CallR X (.builtin "min") (fun xs H Q => ∃ i j, xs = [.int i, .int j] ∧ Q (.int (if j < i then j else i)) H) := by
  intro pins s σ H xs us Q I r h
  obtain ⟨i, j, rfl, q⟩ := h
  obtain ⟨u, w', rfl, ⟨t, rfl⟩, ⟨t', rfl⟩⟩ := vals2 r
  refine min_two_ints (I.ok.hd e) fun h' tk k => ⟨_, H, I.kept k, ?_, q⟩
  by_cases d : j < i
  · rw [if_pos d, if_pos d]; exact ⟨_, rfl⟩
  · rw [if_neg d, if_neg d]; exact ⟨_, rfl⟩
def LenV (K : PySem.W.Frag) (x : V) (H : Hp) (n : Nat) : Prop :=
  match x with
  | .str y => y.length ≤ sizeLine ∧ n = y.length
  | .byt y => y.size ≤ sizeLine ∧ n = y.size
  | .ref p => (∃ d, SqL K H p d ∧ n = d.length) ∨ ∃ d, SqT K H p d ∧ n = d.length
  | _ => False
theorem call_len : CallR X (.builtin "len") (fun xs H Q => ∃ x n, xs = [x] ∧ LenV X.K x H n ∧ Q (.int n) H) := by
  intro pins s σ H xs us Q I r h
  obtain ⟨x, n, rfl, e, q⟩ := h
  obtain ⟨u, rfl, rx⟩ := vals1 r
  have hl := line63
  have hs : sizeLine = 16777216 := sizeLine_eq
  cases x with
  | str y =>
    obtain ⟨t, rfl⟩ := rx
    obtain ⟨hy, e'⟩ : y.length ≤ sizeLine ∧ n = y.length := e
    subst e'
    exact len_str (by omega) ⟨.int _, H, I.tok _, ⟨_, rfl⟩, q⟩
  | byt y =>
    obtain ⟨t, rfl⟩ := rx
    obtain ⟨hy, e'⟩ : y.size ≤ sizeLine ∧ n = y.size := e
    subst e'
    exact PySem.W.len_bytes (by omega) ⟨.int _, H, I.tok _, ⟨_, rfl⟩, q⟩
  | ref p =>
    cases rx
    have e' : (∃ xs, SqL X.K H p xs ∧ n = xs.length) ∨ ∃ xs, SqT X.K H p xs ∧ n = xs.length := e
    rcases e' with ⟨xs, hx, e'⟩ | ⟨xs, hx, e'⟩
    · subst e'
      obtain ⟨its, r', pl, hz⟩ := I.list hx
      have hlen := r'.length
      exact Calls.call_len_list pl.isList (by simp only [List.size_toArray]; omega) ⟨.int xs.length, H, I.tok _, ⟨_, by simp only [List.size_toArray]; rw [hlen]⟩, q⟩
    · subst e'
      obtain ⟨its, r', pl, hz⟩ := I.tuple hx
      have hlen := r'.length
      exact len_tuple pl (by simp only [List.size_toArray]; omega) ⟨.int xs.length, H, I.tok _, ⟨_, by simp only [List.size_toArray]; rw [hlen]⟩, q⟩
  | _ => exact (show False from e).elim
end
end L2
namespace L2
open PySem PySem.Spec PyProof.Rows
structure ObjM (h : Heap) (x dx C : Addr) (mA : Str → Option Value) : Prop where
  obj : h.get? x = some (PySem.W.instObj C dx)
  ns : h.Ns1 dx mA
  ne : dx ≠ x
theorem lookIn_ns {h : Heap} (n : h.Ns1 l m) : ∃ od, h.get? l = some od ∧ ∀ name, PySem.W.lookIn name od = some (m name) := by
  obtain ⟨o, k, ep, g, j, f, _, d⟩ := n
  refine ⟨o, g, fun name => ?_⟩
  have e := d name
  unfold nsFind findBy at e
  unfold PySem.W.lookIn
  rw [j]
  dsimp only
  split
  · grind
  · have a : k.toList.any (·.refKey) = false := by
      rw [List.any_eq_false]
      intro y i
      obtain ⟨z, t, c⟩ := f y (Array.mem_toList_iff.mp i)
      simp [DictEntry.refKey, c]
    grind
theorem ObjM.look (I : ObjM h x c C d) : ∃ od, PySem.W.InstAt h x (PySem.W.instObj C c) C (some od) ∧ ∀ name, PySem.W.lookIn name od = some (d name) :=
  let ⟨od, b, e⟩ := lookIn_ns I.ns
  ⟨od, ⟨I.obj, rfl, rfl, b⟩, e⟩
section
variable {prog : Program} {w : World} {A : Around} {E : Value → Shared → Prop} {s : Shared} {K : PySem.W.Frag} {x dx C f : Addr} {mA : Str → Option Value} {name : Str} {v : Value}
theorem get_map {Q : Value → Shared → Prop} (X : K.In s.heap) (I : ObjM s.heap x dx C mA) (d : PySem.W.plainGet K C name = true) (c : PySem.W.hasDictIn K C = true)
    (b : PySem.W.findIn K (.ref C) name = some none) (hv : mA name = some v) (a : PySem.W.handedIn v = true) (h : Q v { s with toks := s.toks + 1 }) :
    wpAny (model prog w) A (getAttr (.ref x) name expr) Q E s := by
  obtain ⟨od, J, hl⟩ := I.look
  exact PySem.W.get_value X J (PySem.W.plainGet_of d).1 (PySem.W.findObj_own c b rfl (by grind)) a h
theorem set_map {Q : Unit → Shared → Prop} (X : K.In s.heap) (I : ObjM s.heap x dx C mA)
    (k : PySem.W.findIn K (.ref C) "__setattr__" = some (some (.builtin "object.__setattr__"))) (l : PySem.W.plainOver K C = true) (o : PySem.W.takerIn K C name = some none) (n : PySem.W.hasDictIn K C = true)
    (q : PySem.Within mA ns) (hsz : ns.length ≤ sizeLine)
    (h : ∀ h', ObjM h' x dx C (fun y => if y = name then some v else mA y) → Heap.SameBut dx s.heap h' → Q () { s with heap := h', toks := s.toks + 2 }) :
    wpAny (model prog w) A (setAttr (.ref x) name v) Q E s := by
  obtain ⟨od, J, hl⟩ := I.look
  refine PySem.W.set_plain X J k (PySem.W.osa_open (s := { s with toks := s.toks + 1 }) (r := none) X J l o fun b => ?_)
  obtain ⟨cd, p, i⟩ := PySem.W.any_some n
  have m := I.obj
  refine wpAny_bind (wpAny_pure (wpAny_bind (wpAny_bind (wpAny_loadPart m (wpAny_bind (PySem.W.Looks.here (s := { s with toks := s.toks + 1 }) (PySem.W.looks_clsIn X p) ?_))))))
  rw [i]
  refine wpAny_pure (a := some dx) (wpAny_bind (wpAny_pure (wpAny_bind ?_)))
  refine wpAny_nsSet1 (s := { s with toks := s.toks + 1 }) I.ns fun h' d c => ?_
  obtain ⟨oD, esD, epD, e, g, j⟩ := d.count (PySem.Within.cons name v q)
  refine wpAny_bind (wpAny_lookBehind e (by rw [g]; exact pastItsLine_dict (Nat.le_trans j (by grind))) ?_)
  exact wpAny_pure (h _ ⟨(c.2 _ (Ne.symm I.ne)).trans I.obj, d, I.ne⟩ c)
theorem make_map (X : K.In s.heap) (d : PySem.W.makesIn K C = true)
    (e : PySem.W.findIn K (.ref C) "__init__" = some (some (.ref f))) (c : PySem.W.typeIn K (.ref f) = some (.type "function"))
    (h : codeAny (model prog w) (A.under (.builtin "type.__call__" ⟨.ref C :: vs, b⟩)) (.call (.ref f) ⟨.ref (s.heap.objs.size + 1) :: vs, b⟩) (PySem.W.InitBack (s.heap.objs.size + 1) R)
      { s with heap := (s.heap.push PySem.W.emptyDict).push (PySem.W.instObj C s.heap.objs.size) }) :
    codeAny (model prog w) A (.call (.ref C) ⟨vs, b⟩) R s := by
  exact PySem.W.make_core (PySem.W.makes_of X d) (PySem.W.looks_findIn X e) (fun a => PySem.W.bind_fn X a c) (.inl rfl) h
end
def putF (f : Str) (v : V) : List (Str × V) → List (Str × V)
  | [] => [(f, v)]
  | (g, x) :: r => if g = f then (g, v) :: r else (g, x) :: putF f v r
theorem lookup_putF (f g : Str) (v : V) : ∀ fs : List (Str × V), (putF f v fs).lookup g = if g = f then some v else fs.lookup g
  | [] => by
    show List.lookup g [(f, v)] = _
    grind
  | (k, x) :: r => by
    have ih := lookup_putF f g v r
    rw [show putF f v ((k, x) :: r) = (if k = f then (k, v) :: r else (k, x) :: putF f v r) from rfl]
    grind
theorem keys_putF (f : Str) (v : V) : ∀ fs : List (Str × V), f ∈ (putF f v fs).map (·.1) ∧ ∀ g, g ∈ fs.map (·.1) → g ∈ (putF f v fs).map (·.1)
  | [] => ⟨by simp [putF], fun g h => by simp at h⟩
  | (k, x) :: r => by
    obtain ⟨i1, i2⟩ := keys_putF f v r
    rw [show putF f v ((k, x) :: r) = (if k = f then (k, v) :: r else (k, x) :: putF f v r) from rfl]
    grind
theorem length_putF (f : Str) (v : V) : ∀ fs : List (Str × V), (putF f v fs).length ≤ fs.length + 1
  | [] => by simp [putF]
  | (k, x) :: r => by
    have ih := length_putF f v r
    rw [show putF f v ((k, x) :: r) = (if k = f then (k, v) :: r else (k, x) :: putF f v r) from rfl]
    grind
theorem RelO.some_of (r : RelO (some v) o) : ∃ u, o = some u ∧ RelV v u := by
  cases o with
  | none => exact (r).elim
  | some u => exact ⟨u, rfl, r⟩
theorem handed_of (r : RelV v u) : PySem.W.handedIn u = true := by
  cases v with
  | non => cases (r); rfl
  | bl b => cases (r); rfl
  | int i => obtain ⟨t, e⟩ := (r); cases e; rfl
  | str x => obtain ⟨t, e⟩ := (r); cases e; rfl
  | byt b => obtain ⟨t, e⟩ := (r); cases e; rfl
  | flt b => obtain ⟨t, e⟩ := (r); cases e; rfl
  | ref a => cases (r); rfl
  | ty n => cases (r); rfl
section
variable {P : Program} {w : World} {H H' : Hp} {h h' : Heap} {a C dx : Addr} {fs fs' : List (Str × V)}
theorem ins_get (c : HOk P w H h) (e : H a = some (.ins C dx fs)) : ∃ b, ObjM h a dx C b ∧ (∀ f, RelO (fs.lookup f) (b f)) ∧ PySem.Within b (fs.map (·.1)) ∧ fs.length ≤ 1000 ∧ H dx = some (.own a) := by
  obtain ⟨d, z, g, i, b, n, r, q⟩ := (c a _ e)
  exact ⟨b, ⟨i, n, g⟩, r, q, z, d⟩
end
structure Cls (K : PySem.W.Frag) (C : Addr) : Prop where
  pg : PySem.W.plainGet K C Str.empty = true
  hd : PySem.W.hasDictIn K C = true
  po : PySem.W.plainOver K C = true
  sa : PySem.W.findIn K (.ref C) "__setattr__" = some (some (.builtin "object.__setattr__"))
theorem Cls.get {K : PySem.W.Frag} {C : Addr} (c : Cls K C) (f : Str) : PySem.W.plainGet K C f = true := c.pg
def NoAttr (K : PySem.W.Frag) (C : Addr) (f : Str) : Prop := PySem.W.findIn K (.ref C) f = some none
theorem NoAttr.taker {K : PySem.W.Frag} {C : Addr} {f : Str} (n : NoAttr K C f) : PySem.W.takerIn K C f = some none := by
  unfold PySem.W.takerIn
  rw [n]
  rfl
section
variable {X : Cx} {pins : List (Addr × Obj)} {σ : St} {H : Hp} {s : Shared} {a C dx : Addr} {fs : List (Str × V)} {f : Str} {v : V} {A : Around} {E : Value → Shared → Prop}
theorem getattr_ok {Q : Value → Shared → Prop} (I : Inv X pins σ H s) (e : H a = some (.ins C dx fs)) (c : Cls X.K C) (n : NoAttr X.K C f) (l : fs.lookup f = some v)
    (h : ∀ u s', Inv X pins σ H s' → RelV v u → Q u s') : wpAny (model X.prog X.w) A (getAttr (.ref a) f b) Q E s := by
  obtain ⟨g, O, r, _, _, _⟩ := ins_get I.hok e
  obtain ⟨u, i, d⟩ := RelO.some_of (v := v) (o := g f) (by grind)
  exact get_map I.kIn O (c.get f) c.hd n i (handed_of d) (h u _ (I.tok _) d)
theorem setattr_ok {Q : Unit → Shared → Prop} (I : Inv X pins σ H s) (e : H a = some (.ins C dx fs)) (c : Cls X.K C) (n : NoAttr X.K C f) (hl : fs.length < 1000) (p : RelV y u)
    (h : ∀ s', Inv X pins σ (upd H a (.ins C dx (putF f y fs))) s' → Q () s') : wpAny (model X.prog X.w) A (setAttr (.ref a) f u) Q E s := by
  obtain ⟨m, O, r, i, _, j⟩ := ins_get I.hok e
  have B : (fs.map (·.1)).length ≤ sizeLine := by rw [List.length_map, sizeLine_eq]; lia
  refine set_map I.kIn O c.sa c.po n.taker c.hd i B fun D d k => h _ ?_
  have t : ∃ o, D.get? dx = some o := let ⟨o, _, _, G, _⟩ := d.ns; ⟨o, G⟩
  refine I.write (x := a) (e := dx) (by rw [e]; exact True.intro) (.inr j) (fun b q l z => (k.2 b l).trans z) t ?_
  refine ⟨by rw [upd_ne O.ne]; exact j, ?_, O.ne, d.obj, _, d.ns, fun g => ?_, fun g F => ?_⟩
  · have := length_putF f y fs; lia
  · show RelO ((putF f y fs).lookup g) (if g = f then some u else m g)
    rw [lookup_putF]
    by_cases q : g = f
    · rw [if_pos q, if_pos q]; exact p
    grind
  · by_cases q : g = f
    · rw [q]; exact (keys_putF f y fs).1
    · refine (keys_putF f y fs).2 g (i g fun z => F ?_)
      grind
theorem Inv.made (I : Inv X pins σ H s) : Inv X pins σ (upd (upd H s.heap.objs.size (.own (s.heap.objs.size + 1))) (s.heap.objs.size + 1) (.ins C s.heap.objs.size []))
    { s with heap := (s.heap.push PySem.W.emptyDict).push (PySem.W.instObj C s.heap.objs.size) } := by
  have d : (s.heap.push PySem.W.emptyDict).get? s.heap.objs.size = some PySem.W.emptyDict := Heap.get?_push_size s.heap rfl
  have j := by
    have := Heap.get?_push_size (s.heap.push PySem.W.emptyDict) (o := PySem.W.instObj C s.heap.objs.size) rfl
    rwa [Heap.size_push] at this
  have k : (s.heap.push PySem.W.emptyDict).Ns s.heap.objs.size (fun _ => none) := ⟨PySem.W.emptyDict, #[], _, d, rfl, (fun e l => absurd l (by simp)), fun _ => rfl⟩
  have h := I.laid (o := .own (s.heap.objs.size + 1)) (t' := s.toks) (fun b u q => Heap.get?_push_of_some _ q) (Nat.le_refl _) ⟨_, d⟩
  refine h.laid (fun b u q => Heap.get?_push_of_some _ q) (Nat.le_of_eq (Heap.size_push _ _)) ?_
  have g : s.heap.objs.size ≠ s.heap.objs.size + 1 := Nat.ne_of_lt (Nat.lt_succ_self _)
  refine ⟨by rw [upd_ne g, upd_same], Nat.zero_le _, g, j, fun _ => none, (Heap.Ns1.of_empty k).at fun o q => Heap.get?_push_of_some _ q, fun _ => True.intro, fun y i => absurd rfl i⟩
theorem attr_of (b : attributeBase e f env (eval e env) = eval e env)
    (h : wpAny (model prog w) A (eval e env) (fun o c => wpAny (model prog w) A (getAttr o f true) Q E c) E s) : wpAny (model prog w) A (eval (.Attribute e f pos) env) Q E s :=
  Attribute_any_ h (by rw [arm_eval_Attribute, b])
end
def tFld (K : PySem.W.Frag) (d : TE) (f : Str) : TE := fun σ H Q => d σ H fun x c => ∃ a C g b v, x = .ref a ∧ c a = some (.ins C g b) ∧ Cls K C ∧ NoAttr K C f ∧ b.lookup f = some v ∧ Q v c
def sFld (K : PySem.W.Frag) (h g : TE) (f : Str) : TS := fun D σ H => g σ H fun y i => h σ i fun x d => ∃ a C c b, x = .ref a ∧ d a = some (.ins C c b) ∧ Cls K C ∧ NoAttr K C f ∧ b.length < 1000 ∧
  D.nx σ (upd d a (.ins C c (putF f y b)))
section
variable {X : Cx} {o e value : Expr} {f : Str} {pos pos' tpos : Pos} {ta tv : TE}
theorem pe_fld (p : PE X e ta) (d : attributeBase e f X.env (eval e X.env) = eval e X.env) : PE X (.Attribute e f pos) (tFld X.K ta f) := by
  intro b s σ H Q I h
  refine attr_of d (thn (p b s σ H _ I h) ?_)
  rintro u s1 ⟨x, m, j, r, a, C, dx, fs, v, t, i, c, n, l, q⟩
  subst t
  obtain rfl : u = Value.ref a := r
  exact getattr_ok j i c n l fun u' s2 g k => ⟨v, m, g, k, q⟩
theorem ps_fld (m : PE X o ta) (i : PE X value tv) (k : swapsWith value (some (.Attribute o f pos')) pos.line X.env = pure false) : PS X (.Assign [.Attribute o f pos'] value pos) (sFld X.K ta tv f) := by
  intro b s σ H D I h
  refine plainObj_wpAny_Assign_Attribute (thn (i b s σ H _ I h) fun u d ⟨y, j, B, v, q⟩ => thn (m b d σ j _ B q) ?_) k
  rintro t s2 ⟨x, H2, g, p, a, C, dx, fs, w, z, c, n, l, r⟩
  subst w
  obtain rfl : t = Value.ref a := p
  exact setattr_ok g z c n l v fun s3 A => ⟨σ, _, A, r⟩
end
section
variable {X : Cx} {pins : List (Addr × Obj)} {σ : St} {H : Hp} {s : Shared} {A : Around} {E : Value → Shared → Prop} {Q : Value → Shared → Prop} {c : Value} {b : Bool}
inductive TyOf (K : PySem.W.Frag) (H : Hp) : V → Value → Prop where
  | non : TyOf K H .non (.type "NoneType")
  | bl (x : Bool) : TyOf K H (.bl x) (.type "bool")
  | int (i : Int) : TyOf K H (.int i) (.type "int")
  | str (x : Str) : TyOf K H (.str x) (.type "str")
  | flt (x : UInt64) : TyOf K H (.flt x) (.type "float")
  | lst {a : Addr} {xs : List V} (e : H a = some (.lst xs)) : TyOf K H (.ref a) (.type "list")
  | frz {a : Addr} {o : Obj} {xs : List V} (e : H a = some (.frz o (.lst xs))) : TyOf K H (.ref a) (.type "list")
  | tup {a : Addr} {xs : List V} (e : H a = some (.tup xs)) : TyOf K H (.ref a) (.type "tuple")
  | dK {a : Addr} {kvs : List (Key × V)} (e : H a = some (.dK kvs)) : TyOf K H (.ref a) (.type "dict")
  | dT {a : Addr} {kvs : List (List Key × V)} (e : H a = some (.dT kvs)) : TyOf K H (.ref a) (.type "dict")
  | ins {a C dx : Addr} {fs : List (Str × V)} (e : H a = some (.ins C dx fs)) (cl : Cls K C) (ha : PySem.W.findIn K (.ref C) "__class__" = some (some (.builtin "object.__class__")))
      (hn : PySem.W.specialIn K (.builtin "object.__class__") "__get__" = some (some (.builtin "getset_descriptor.__get__"))) (htk : PySem.W.takesIn K (.builtin "object.__class__") = some true)
      (hm : PySem.W.mroIn K C (.type "object") = some true) : TyOf K H (.ref a) (.ref C)
theorem isinst_ok (I : Inv X pins σ H s) (g : RelV x u) (F : TyOf X.K H x t) (e : PySem.W.kitOne X.K t c = some b) (h : ∀ tk, Q (.bool b) { s with toks := tk }) :
    wpAny (model X.prog X.w) A (call (.builtin "isinstance") [u, c]) Q E s := by
  cases F with
  | non => cases (show u = Value.none from g); exact PySem.W.kia_one PySem.W.kitx_none I.kIn True.intro e (fun z => nomatch z) h
  | bl y => cases (show u = Value.bool y from g); exact PySem.W.kia_one PySem.W.kitx_bool I.kIn True.intro e (fun z => nomatch z) h
  | int i => obtain ⟨t, q⟩ := (show ∃ t, u = Value.int i t from g); cases q; exact PySem.W.kia_one PySem.W.kitx_int I.kIn True.intro e (fun z => nomatch z) h
  | str y => obtain ⟨t, q⟩ := (show ∃ t, u = Value.str y t from g); cases q; exact PySem.W.kia_one PySem.W.kitx_str I.kIn True.intro e (fun z => nomatch z) h
  | flt y => obtain ⟨t, q⟩ := (show ∃ t, u = Value.float y t from g); cases q; exact PySem.W.kia_one PySem.W.kitx_float I.kIn True.intro e (fun z => nomatch z) h
  | @lst a l f =>
    cases (show u = Value.ref a from g)
    obtain ⟨_, _, n, _, j⟩ := (show ObjOk X.prog X.w H s.heap a (.lst l) from I.hok a _ f)
    exact PySem.W.kia_one PySem.W.kitx_list I.kIn ⟨_, j, rfl⟩ e (fun z => nomatch z) h
  | @frz a ob l f =>
    cases (show u = Value.ref a from g)
    obtain ⟨_, _, _, n, _, j⟩ := (show ObjOk X.prog X.w H s.heap a (.frz ob (.lst l)) from I.hok a _ f)
    exact PySem.W.kia_one PySem.W.kitx_list I.kIn ⟨_, j, rfl⟩ e (fun z => nomatch z) h
  | @tup a l f =>
    cases (show u = Value.ref a from g)
    obtain ⟨_, _, _, p⟩ := (show ObjOk X.prog X.w H s.heap a (.tup l) from I.hok a _ f)
    obtain ⟨o, j, m, _⟩ := p
    exact PySem.W.kia_one PySem.W.kitx_tuple I.kIn ⟨o, j, m⟩ e (fun z => nomatch z) h
  | @dK a k f =>
    cases (show u = Value.ref a from g)
    obtain ⟨_, _, vs, _, p⟩ := (show ObjOk X.prog X.w H s.heap a (.dK k) from I.hok a _ f)
    obtain ⟨o, B, G, j, m, _⟩ := p
    exact PySem.W.kia_one PySem.W.kitx_dict I.kIn ⟨o, j, m.1⟩ e (fun z => nomatch z) h
  | @dT a k f =>
    cases (show u = Value.ref a from g)
    obtain ⟨_, _, l, _, o, B, G, j, m, _⟩ := (show ObjOk X.prog X.w H s.heap a (.dT k) from I.hok a _ f)
    exact PySem.W.kia_one PySem.W.kitx_dict I.kIn ⟨o, j, m.1⟩ e (fun z => nomatch z) h
  | @ins a C dx fs f v L hn r D =>
    cases (show u = Value.ref a from g)
    obtain ⟨mA, O, _⟩ := ins_get I.hok f
    obtain ⟨od, J, _⟩ := O.look
    exact PySem.W.kia_one (PySem.W.kitx_own (v.get _) v.hd L hn r D) I.kIn J e (fun z => nomatch z) h
end
end L2
namespace L2
open PySem PySem.Spec PyProof.Rows
structure Room (k : Nat) (A : Around) : Prop where
  hd : A.handled = none
  dp : A.depth + 3 * k + 5 < recursionLimit
  un : A.units + 16 * k + 200 < cLine
theorem Room.mono (r : Room k A) (h : j ≤ k) : Room j A := ⟨r.hd, by have := r.dp; lia, by have := r.un; omega⟩
theorem Room.deeper (r : Room (k + 1) A) (env : Env) : Room k (A.deeper env) :=
  ⟨r.hd, by have := r.dp; show A.depth + 1 + 3 * k + 5 < _; lia, by have := r.un; show A.units + 3 + 16 * k + 200 < _; omega⟩
theorem make_depth {A : Around} : (A.under (.builtin "type.__call__" ⟨.ref C :: us, kw⟩)).depth = A.depth + 1 := by
  first | rfl | grind
theorem make_units {A : Around} : (A.under (.builtin "type.__call__" ⟨.ref C :: us, kw⟩)).units = A.units + 1 := by
  first | rfl | grind
theorem Room.make (r : Room (k + 1) A) (C : Addr) (us : List Value) (a : List (Str × Value)) : Room k (A.under (.builtin "type.__call__" ⟨.ref C :: us, a⟩)) :=
  ⟨r.hd, by have := r.dp; rw [make_depth]; lia, by have := r.un; rw [make_units]; omega⟩
theorem Room.depth (r : Room k A) : A.depth < recursionLimit := by have := r.dp; lia
theorem Room.units (r : Room k A) : A.units + 64 < cLine := by have := r.un; lia
def tNil : TA := fun _ H Q => Q [] H
def tCons (a : TE) (e : TA) : TA := fun σ H Q => a σ H fun x c => e σ c fun d b => Q (x :: d) b
section
variable {X : Cx} {e : Expr} {es : List Expr} {te : TE} {t : TA} {pos : Pos}
theorem pa_nil : PA X [] tNil := fun _ _ _ _ H Q I h => Calls.spliced_nil ⟨[], H, I, .nil, h⟩
theorem pa_cons (n : PE X e te) (k : PA X es t) (m : starEach (e :: es) X.env = (false, eval e X.env) :: starEach es X.env := by rfl) : PA X (e :: es) (tCons te t) := by
  intro pos a s σ H Q I h
  rw [m]
  refine Calls.spliced_cons (thn (n a s σ H _ I h) ?_)
  rintro u o ⟨x, j, g, f, l⟩
  exact thn (k pos a o σ j _ g l) (by rintro us s2 ⟨i, p, d, c, b⟩; exact ⟨x :: i, p, d, .cons f c, b⟩)
def tTup (t : TA) : TE := fun σ H Q => t σ H fun b c => b.length ≤ sizeLine ∧ ∀ p, c p = none → Q (.ref p) (upd c p (.tup b))
def tLst (t : TA) : TE := fun σ H Q => t σ H fun a b => a.length ≤ sizeLine ∧ ∀ p, b p = none → Q (.ref p) (upd b p (.lst a))
theorem pe_tup {f} (h : PA X es t) : PE X (.Tuple es f pos) (tTup t) := by
  intro a s σ H Q I l
  refine wpAny_Tuple_spliced (thn (h pos a s σ H _ I l) fun k d ⟨g, i, c, r, z, q⟩ => ⟨by rw [← r.length]; exact z, ?_⟩)
  have j := c.hok.fresh (Nat.le_refl _)
  refine ⟨.ref d.heap.objs.size, upd i d.heap.objs.size (.tup g), c.laid (fun b u e => Heap.get?_push_of_some _ e) (Nat.le_refl _) ?_, rfl, q _ j⟩
  exact ⟨z, k, r, ⟨_, Heap.get?_push_size _ rfl, rfl, _, rfl⟩⟩
theorem pe_lst (h : PA X es t) : PE X (.List es pos) (tLst t) := by
  intro a s σ H Q I f
  refine wpAny_List_spliced (thn (h pos a s σ H _ I f) fun k c ⟨g, i, d, r, z, q⟩ => ⟨by rw [← r.length]; exact z, ?_⟩)
  have j := d.hok.fresh (Nat.le_refl _)
  refine ⟨.ref c.heap.objs.size, upd i c.heap.objs.size (.lst g), d.laid (fun b u e => Heap.get?_push_of_some _ e) (Nat.le_refl _) ?_, rfl, q _ j⟩
  exact ⟨z, k, 0, r, Heap.get?_push_size _ rfl⟩
end
abbrev Sp := List V → Hp → VK → XK → Prop
abbrev CXT := List Env → Hp → Shared → XK → Value → Shared → Prop
structure Env0 (P : Program) (w : World) (K : PySem.W.Frag) (mg : Str → Option Value) (base : Heap) (A : Around) (outer : List Env) (s : Shared) (H : Hp) : Prop where
  frames : A.frames = some outer
  mod : Mod K mg base
  bs : ∀ b o, base.get? b = some o → s.heap.get? b = some o ∧ H b = none
  bsz : base.objs.size ≤ s.heap.objs.size
  funs : s.heap.FunFrames base outer
  frf : ∀ b ∈ frs outer, H b = none
  hok : HOk P w H s.heap
  bare : AllBare s.gens
def CE (b : List Env) (P : Program) (w : World) (H : Hp) (s : Shared) (Q : VK) (u : Value) (s' : Shared) : Prop :=
  ∃ v c, s'.os = s.os ∧ AllBare s'.gens ∧ Un (frs b) [] H c s.heap s'.heap ∧ HOk P w c s'.heap ∧ RelV v u ∧ Q v c
def CR (CX : CXT) (a : List Env) (P : Program) (w : World) (H : Hp) (s : Shared) (Q : VK) (E : XK) (r : Result) (s' : Shared) : Prop :=
  match r with
  | .ok (.ret u) => CE a P w H s Q u s'
  | .ok _ => False
  | .error e => CX a H s E e s'
structure FnOk (P : Program) (w : World) (K : PySem.W.Frag) (mg : Str → Option Value) (base : Heap) (CX : CXT) (k : Nat) (f : Addr) (fd : FuncData) (ps : List Str) (sp : Sp) : Prop where
  len : ∀ vs H Q E, sp vs H Q E → vs.length = ps.length
  run : ∀ (A : Around) (outer : List Env) (s : Shared) (H : Hp) (args : Args) (us : List Value) (vs : List V) (Q : VK) (E : XK), Room k A → Env0 P w K mg base A outer s H → BindsTo s fd args (ps.zip us) → Vals vs us → sp vs H Q E →
    codeAny (model P w) A (.call (.ref f) args) (CR CX outer P w H s Q E) s
theorem FnOk.mono {P : Program} {w : World} {K : PySem.W.Frag} {mg : Str → Option Value} {base : Heap} {CX : CXT} {j k : Nat} {f : Addr} {c : FuncData} {ps : List Str} {sp : Sp} (F : FnOk P w K mg base CX j f c ps sp) (h : j ≤ k) :
    FnOk P w K mg base CX k f c ps sp := ⟨F.len, fun A a s H b g d Q E e => F.run A a s H b g d Q E (e.mono h)⟩
theorem FnOk.imp {P : Program} {w : World} {K : PySem.W.Frag} {mg : Str → Option Value} {base : Heap} {CX : CXT} {k : Nat} {f : Addr} {e : FuncData} {ps : List Str} {sp d : Sp} (F : FnOk P w K mg base CX k f e ps sp)
    (h : ∀ vs H Q E, d vs H Q E → sp vs H Q E) : FnOk P w K mg base CX k f e ps d :=
  ⟨fun vs H Q E q => F.len vs H Q E (h _ _ _ _ q), fun A b s H c l vs Q E n i g m j => F.run A b s H c l vs Q E n i g m (h _ _ _ _ j)⟩
theorem Env0.make {P : Program} {w : World} {K : PySem.W.Frag} {mg : Str → Option Value} {base : Heap} {A : Around} {a : List Env} {s : Shared} {H : Hp} (e : Env0 P w K mg base A a s H) (C : Addr) (us : List Value) (b : List (Str × Value)) :
    Env0 P w K mg base (A.under (.builtin "type.__call__" ⟨.ref C :: us, b⟩)) a s H := ⟨by first | exact e.frames | grind, e.mod, e.bs, e.bsz, e.funs, e.frf, e.hok, e.bare⟩
section
variable {X : Cx} {pins : List (Addr × Obj)} {σ : St} {H : Hp} {s s' : Shared}
theorem Inv.env0 (I : Inv X pins σ H s) : Env0 X.prog X.w X.K X.mg X.base X.A X.stack s H :=
  ⟨I.ok.frames, I.ok.mod, I.bs, Nat.le_trans I.ok.bsz I.sz, I.stack, I.stkFree, I.hok, I.bare⟩
theorem Inv.after (I : Inv X pins σ H s) (h : CE X.stack X.prog X.w H s Q u s') : EP X pins σ Q u s' := by
  obtain ⟨v, j, os, c, i, e, r, q⟩ := h
  obtain ⟨hh, g, d, t, f⟩ := s'
  obtain rfl : f = s.os := os
  exact ⟨v, j, I.call i e c (fun b z => absurd z (by simp)), r, q⟩
end
def tCall (sp : Sp) (a : List V) (E : XK) (t : TA) : TE := fun σ H Q => t σ H fun b c => sp (b ++ a) c Q E
def tMake (C : Addr) (sp : Sp) (c : List V) (E : XK) (t : TA) : TE := fun σ H Q => t σ H fun e d => ∀ x b, d x = none → d b = none → b ≠ x →
  sp (.ref x :: (e ++ c)) (upd (upd d b (.own x)) x (.ins C b [])) (fun v f => v = .non ∧ Q (.ref x) f) E
def Binds (K : PySem.W.Frag) (c : FuncData) (ps : List Str) (b : List Value) : Prop :=
  ∀ (s : Shared) (a : List Value), K.In s.heap → (a ++ b).length = ps.length → BindsTo s c ⟨a, []⟩ (ps.zip (a ++ b))
theorem Binds.all {K : PySem.W.Frag} {b : FuncData} {ps : List Str} (h : ∀ us : List Value, us.length = ps.length → bindArgs b ⟨us, []⟩ = pure (ps.zip us)) : Binds K b ps [] := fun s us _ a => by
  rw [List.append_nil] at a ⊢
  exact .of_eq (h us a)
def Passes (CX : CXT) (X : Cx) (E : XK) : Prop := ∀ (b : List (Addr × Obj)) (σ : St) (H : Hp) (s : Shared) (e : Value) (c : Shared), Inv X b σ H s → CX X.stack H s E e c → X.xe e c
section
variable {X : Cx} {CX : CXT} {k : Nat} {f C : Addr} {fd : FuncData} {ps : List Str} {sp : Sp} {dvs : List V} {ds : List Value} {E : XK} {x m : Str} {p pos apos : Pos} {e o : Expr} {es : List Expr} {ta : TE} {t : TA}
theorem run_fn (F : FnOk X.prog X.w X.K X.mg X.base CX k f fd ps sp) (j : Room k X.A) (d : Binds X.K fd ps ds) (n : Vals dvs ds) (i : Passes CX X E)
    (I : Inv X a σ H s) (r : Vals vs us) (h : sp (vs ++ dvs) H Q E) : wpAny (model X.prog X.w) X.A (call (.ref f) us) (EP X a σ Q) X.xe s := by
  have c := r.append n
  have q : (us ++ ds).length = ps.length := by rw [← c.length]; exact F.len _ _ _ _ h
  refine wpAny_call (codeAny_mono (F.run X.A X.stack s H ⟨us, []⟩ (us ++ ds) (vs ++ dvs) Q E j I.env0 (d s us I.kIn q) c h) fun r l b => ?_)
  cases r with
  | error e => exact i a σ H s e l I b
  | ok g =>
    cases g with
    | ret u => exact I.after b
    | next => exact False.elim b
    | brk => exact False.elim b
    | cont => exact False.elim b
theorem pe_call (F : FnOk X.prog X.w X.K X.mg X.base CX k f fd ps sp) (i : Room k X.A) (z : Gl X x) (l : X.mg x = some (.ref f)) (v : PySem.W.keepIn X.K (.ref f) = true) (j : Binds X.K fd ps ds) (u : Vals dvs ds) (B : Passes CX X E)
    (n : PA X (e :: es) t) (d : (x == ("__debug__" : Str)) = false := by decide) (y : starEach (e :: es) X.env = (false, eval e X.env) :: starEach es X.env := by rfl) (c : (backTo pos (starEach es X.env)).any (·.1) = false := by rfl) :
    PE X (.Call (.Name x p) (e :: es) [] pos) (tCall sp dvs E t) := by
  intro b s σ H Q I h
  refine wpAny_Call_Name_kw (ld_glob I z l ?_ d)
  refine PySem.W.callWith_K I.ok.mod.kin v (thn (n pos b s σ H _ I h) fun us s1 ⟨vs, H1, g, r, q⟩ => ⟨g.kIn, ?_⟩) y c
  exact run_fn F i j u B g r q
structure Mk (K : PySem.W.Frag) (C f : Addr) : Prop where
  makes : PySem.W.makesIn K C = true
  init : PySem.W.findIn K (.ref C) "__init__" = some (some (.ref f))
  fn : PySem.W.isFn K (.ref f) = true
  kp : PySem.W.keepIn K (.ref C) = true
theorem run_make (M : Mk X.K C f) (F : FnOk X.prog X.w X.K X.mg X.base CX k f fd ps sp) (hr : Room (k + 1) X.A) (hb : Binds X.K fd ps ds) (hd : Vals dvs ds)
    (hx : Passes CX X E) (I : Inv X pins σ H s) (r : Vals vs us)
    (h : ∀ x dx, H x = none → H dx = none → dx ≠ x → sp (.ref x :: (vs ++ dvs)) (upd (upd H dx (.own x)) x (.ins C dx [])) (fun v H2 => v = .non ∧ Q (.ref x) H2) E) :
    wpAny (model X.prog X.w) X.A (call (.ref C) us) (EP X pins σ Q) X.xe s := by
  have hq := h (s.heap.objs.size + 1) s.heap.objs.size (I.hok.fresh (Nat.le_succ _)) (I.hok.fresh (Nat.le_refl _)) (Nat.ne_of_lt (Nat.lt_succ_self _))
  have I2 := Inv.made (C := C) I
  have r2 : Vals (V.ref (s.heap.objs.size + 1) :: (vs ++ dvs)) (Value.ref (s.heap.objs.size + 1) :: (us ++ ds)) := .cons rfl (r.append hd)
  have hl : (Value.ref (s.heap.objs.size + 1) :: us ++ ds).length = ps.length := by
    have e := r2.length
    rw [F.len _ _ _ _ hq] at e
    exact e.symm
  refine wpAny_call (make_map (f := f) I.kIn M.makes M.init (beq_iff_eq.mp M.fn) (codeAny_mono (F.run _ X.stack _ _ ⟨Value.ref (s.heap.objs.size + 1) :: us, []⟩ (Value.ref (s.heap.objs.size + 1) :: (us ++ ds)) _ _ E (hr.make C us [])
    (I2.env0.make C us []) (hb _ (Value.ref (s.heap.objs.size + 1) :: us) I2.kIn hl) r2 hq) fun r s' hq' => ?_))
  cases r with
  | error e => exact hx pins σ _ _ e s' I2 hq'
  | ok fl =>
    cases fl with
    | ret u =>
      obtain ⟨v, H', I3, rv, ev, q3⟩ := I2.after hq'
      subst ev
      exact ⟨rv, ⟨V.ref (s.heap.objs.size + 1), H', I3, rfl, q3⟩⟩
    | next => exact False.elim hq'
    | brk => exact False.elim hq'
    | cont => exact False.elim hq'
theorem pe_make (M : Mk X.K C f) (F : FnOk X.prog X.w X.K X.mg X.base CX k f fd ps sp) (n : Room (k + 1) X.A) (y : Gl X x) (l : X.mg x = some (.ref C)) (j : Binds X.K fd ps ds) (u : Vals dvs ds) (g : Passes CX X E)
    (i : PA X (e :: es) t) (c : (x == ("__debug__" : Str)) = false := by decide) (v : starEach (e :: es) X.env = (false, eval e X.env) :: starEach es X.env := by rfl) (b : (backTo pos (starEach es X.env)).any (·.1) = false := by rfl) :
    PE X (.Call (.Name x p) (e :: es) [] pos) (tMake C sp dvs E t) := by
  intro a s σ H Q I h
  refine wpAny_Call_Name_kw (ld_glob I y l ?_ c)
  refine PySem.W.callWith_K I.ok.mod.kin M.kp (thn (i pos a s σ H _ I h) fun us s1 ⟨vs, H1, d, r, q⟩ => ⟨d.kIn, ?_⟩) v b
  exact run_make M F n j u g d r q
end
structure FnScope (N P : List Str) (sc : Scope) : Prop where
  kind : sc.kind = .function
  co : sc.isCoroutine = false
  gen : sc.isGenerator = false
  nd : N.Nodup
  pre : N.take P.length = P
  par : ∀ x ∈ P, sc.names.lookup x = some .local ∨ sc.names.lookup x = some .cell
  nofree : ∀ y ∈ sc.names, y.2 ≠ .free
theorem bindL_out {kindOf : Str → Option NameKind} {x : Str} : ∀ {a : List (Str × Value)} {m : Str → Option Value}, (∀ v, (x, v) ∉ a) → bindL kindOf a m x = m x
  | [], _, _ => rfl
  | (n, v) :: r, m, h => by
    unfold bindL
    rw [bindL_out fun w b => h w (List.mem_cons_of_mem _ b)]
    split
    · grind
    · rfl
theorem bindC_out {kindOf : Str → Option NameKind} {x : Str} : ∀ {a : List (Str × Value)} {m : Str → Option Value}, (∀ v, (x, v) ∉ a) → bindC kindOf a m x = m x
  | [], _, _ => rfl
  | (n, v) :: r, m, h => by
    unfold bindC
    rw [bindC_out fun w b => h w (List.mem_cons_of_mem _ b)]
    split
    · rfl
    grind
theorem bindL_get {kindOf : Str → Option NameKind} : ∀ {P : List Str} {vs : List Value} {i : Nat} {m : Str → Option Value}, P.Nodup → P[i]? = some x → vs[i]? = some v → kindOf x = some .local →
    bindL kindOf (P.zip vs) m x = some v
  | [], _, _, _, _, h, _, _ => by simp at h
  | _ :: _, [], _, _, _, _, h, _ => by simp at h
  | p :: P, w :: vs, 0, m, nd, h1, h2, hk => by
    simp at h1 h2; subst h1; subst h2
    show bindL kindOf ((p, w) :: P.zip vs) m p = _
    unfold bindL
    rw [bindL_out fun v hv => (List.nodup_cons.mp nd).1 (List.of_mem_zip hv).1, if_pos hk]
    simp
  | p :: P, w :: vs, i + 1, m, nd, h1, h2, hk => by
    show bindL kindOf ((p, w) :: P.zip vs) m x = _
    unfold bindL
    exact bindL_get (i := i) (List.nodup_cons.mp nd).2 (by simpa using h1) (by simpa using h2) hk
theorem bindC_get {kindOf : Str → Option NameKind} : ∀ {P : List Str} {vs : List Value} {i : Nat} {m : Str → Option Value}, P.Nodup → P[i]? = some x → vs[i]? = some v → kindOf x ≠ some .local →
    bindC kindOf (P.zip vs) m x = some v
  | [], _, _, _, _, h, _, _ => by simp at h
  | _ :: _, [], _, _, _, _, h, _ => by simp at h
  | p :: P, w :: vs, 0, m, c, b, a, d => by
    simp at b a; subst b; subst a
    show bindC kindOf ((p, w) :: P.zip vs) m p = _
    unfold bindC
    rw [bindC_out fun v e => (List.nodup_cons.mp c).1 (List.of_mem_zip e).1, if_neg d]
    simp
  | p :: P, w :: vs, i + 1, m, c, b, a, d => by
    unfold bindC
    exact bindC_get (i := i) (List.nodup_cons.mp c).2 (by grind) (by grind) d
def start (N : List Str) (vs : List V) : St := vs.map some ++ List.replicate (N.length - vs.length) none
def cxOf (CX : CXT) (P : Program) (w : World) (K : PySem.W.Frag) (mg : Str → Option Value) (base : Heap) (N : List Str) (d : Str) (b : Scope) (f : Addr) (h : Value) (A : Around) (c : List Env) (s : Shared) (H : Hp) (E : XK) : Cx where
  prog := P
  w := w
  K := K
  mg := mg
  base := base
  A := A.deeper (envOfC d b s.heap.objs.size f h)
  N := N
  s₀ := s
  H₀ := H
  env := envOfC d b s.heap.objs.size f h
  outer := c
  stack := envOfC d b s.heap.objs.size f h :: c
  ex := []
  calm := true
  fn := fun _ => true
  pn := []
  xe := fun e i => wpAny (model P w) (A.deeper (envOfC d b s.heap.objs.size f h)) (leaving (envOfC d b s.heap.objs.size f h) e) (fun _ g => CX c H s E e g) (fun j g => CX c H s E j g) i
theorem cell_has {a : Scope} (h : a.names.lookup x = some .cell) : ∃ c, (cellsFrom n a.names []).lookup x = some c := by
  have q := PySem.W.cellsFrom_some a.names n [] (.inl h)
  exact Option.isSome_iff_exists.mp q
theorem inv_start {CX : CXT} {P : Program} {w : World} {K : PySem.W.Frag} {mg : Str → Option Value} {base : Heap} {N ps : List Str} {qual : Str} {scope : Scope} {f : Addr} {cd : Value} {A : Around} {outer : List Env} {s s1 : Shared} {H : Hp} {E : XK} {us : List Value} {vs : List V}
    (S : FnScope N ps scope) (hd : A.handled = none) (e0 : Env0 P w K mg base A outer s H) (hl : vs.length = ps.length) (r : Vals vs us)
    (x : InCallC s s.heap.objs.size (bindL (envOfC qual scope s.heap.objs.size f cd).kindOf (ps.zip us) fun _ => none) (cellsFrom (s.heap.objs.size + 1) scope.names []) (bindC (envOfC qual scope s.heap.objs.size f cd).kindOf (ps.zip us) fun _ => none) s1) :
    Inv (cxOf CX P w K mg base N qual scope f cd A outer s H E) [] (start N vs) H s1 := by
  have hpl : ps.length ≤ N.length := by have := congrArg List.length S.pre; rw [List.length_take] at this; omega
  obtain ⟨h1, tk, rfl, hk⟩ := x.done
  have noA : ∀ b : Addr, b ∉ (cxOf CX P w K mg base N qual scope f cd A outer s H E).ex := fun b z => absurd (show b ∈ ([] : List Addr) from z) (by simp)
  refine ⟨⟨e0.mod, S.kind, rfl, rfl, Nat.le_refl _, fun y z c h1 h2 => ?_, fun y hy => ?_, fun y c _ h => ?_, fun _ => hd, Around.frames_deeper e0.frames, .inr ⟨rfl, rfl⟩, fun b z => absurd z (noA b), e0.bs, e0.bsz, fun b _ _ => noA b, fun b z => absurd z (noA b), e0.funs, e0.frf⟩,
    rfl, e0.bare, Un.kept hk, ⟨_, x.toInCall.ns, fun i y v h1 h2 h3 => ?_⟩, fun y c h => ⟨_, x.cell y c h⟩, e0.hok.fresh (Nat.le_refl _), fun y c h => ?_, fun p hp => absurd (show p ∈ ([] : List (Addr × Obj)) from hp) (by simp), e0.hok.kept hk, ?_⟩
  · exact name_of_addr x.apart (PySem.mem_of_lookup h1) (PySem.mem_of_lookup h2)
  · have hy : scope.names.lookup y = some .cell ∨ scope.names.lookup y = some .free := hy
    rcases hy with hy | hy
    · exact cell_has hy
    · exact absurd rfl (S.nofree _ (PySem.mem_of_lookup hy))
  · exact Nat.le_of_lt (x.above y c (PySem.mem_of_lookup h))
  · have hi : i < vs.length := by
      unfold start at h2
      by_cases hi : i < vs.length
      · exact hi
      · rw [List.getElem?_append_right (by simpa using hi)] at h2
        rw [List.getElem?_replicate] at h2
        split at h2 <;> cases h2
    have ha : vs[i]? = some v := by
      unfold start at h2
      rw [List.getElem?_append_left (by simpa using hi), List.getElem?_map] at h2
      cases e : vs[i]? with
      | none => rw [e] at h2; cases h2
      | some a => rw [e] at h2; cases h2; rfl
    obtain ⟨u, hu, rv⟩ := r.get ha
    have hp : ps[i]? = some y := by
      rw [← S.pre, List.getElem?_take_of_lt (by omega)]; exact h1
    have ndP : ps.Nodup := by rw [← S.pre]; exact S.nd.sublist (List.take_sublist _ _)
    refine ⟨u, rv, ?_⟩
    rcases S.par y (List.mem_of_getElem? hp) with k | k
    · exact .inl ⟨k, bindL_get ndP hp hu k⟩
    · obtain ⟨c, e⟩ := cell_has (n := s.heap.objs.size + 1) k
      refine .inr ⟨.inl k, c, e, ?_⟩
      have q := x.cell y c e
      rw [bindC_get ndP hp hu (by show scope.names.lookup y ≠ _; rw [k]; decide)] at q
      exact q
  · exact e0.hok.fresh (Nat.le_of_lt (x.above y c (PySem.mem_of_lookup h)))
  · unfold start
    show _ = N.length
    rw [List.length_append, List.length_map, List.length_replicate]
    omega
theorem fn_of {CX : CXT} {P : Program} {w : World} {K : PySem.W.Frag} {mg : Str → Option Value} {base : Heap} {k : Nat} {f : Addr} {name qual : Str} {params : Arguments} {body : List Stmt} {scope : Scope} {dV kV doc pm cdv ct oc : Value} {an od : Option Addr}
    {osl : Array (Option Value)} {N ps : List Str} {sp : Sp} (lk : K.lookup f = some ⟨oc, od, .func (PySem.W.fnOf name qual params body scope dV kV doc pm an cdv ct), osl⟩) (hcd : PySem.W.codeIn K cdv qual = true) (S : FnScope N ps scope)
    (len : ∀ vs H Q E, sp vs H Q E → vs.length = ps.length)
    (hbody : ∀ (A : Around) (outer : List Env) (s : Shared) (H : Hp) (vs : List V) (Q : VK) (E : XK), Room k (A.deeper (envOfC qual scope s.heap.objs.size f cdv)) → sp vs H Q E →
      ∃ t, PSs (cxOf CX P w K mg base N qual scope f cdv A outer s H E) body t ∧ t { nx := fun _ H' => Q .non H', rt := Q } (start N vs) H) :
    FnOk P w K mg base CX (k + 1) f (PySem.W.fnOf name qual params body scope dV kV doc pm an cdv ct) ps sp := by
  refine ⟨len, fun A outer s H args us vs Q E hr e0 hb r hsp => ?_⟩
  have hl := len _ _ _ _ hsp
  have KX : K.In s.heap := e0.mod.kin.keeps fun b o e => (e0.bs b o e).1
  have lim : s.heap.NoLimit := e0.mod.nolimit.keeps fun b o e => (e0.bs b o e).1
  have hkind : ∀ y ∈ ps.zip us, scope.names.lookup y.1 = some .local ∨ (scope.names.lookup y.1 = some .cell ∧ ((cellsFrom (s.heap.objs.size + 1) scope.names []).lookup y.1).isSome = true) := fun ⟨n, v⟩ hy => by
    rcases S.par n (List.of_mem_zip hy).1 with q | q
    · exact .inl q
    · exact .inr ⟨q, PySem.W.cellsFrom_some _ _ _ (.inl q)⟩
  refine codeAny_call_function hr.depth (KX _ _ lk) rfl S.co S.gen rfl (PySem.W.codeRec_of KX hcd) (hb _ _ _ _ ?_)
  refine wpAny_newFunctionEnv_cells S.kind hkind fun env he s1 x => ?_
  subst he
  refine ⟨lim.keeps x.toInCall.keep, codeAny_func ?_⟩
  obtain ⟨t, ht, hq⟩ := hbody A outer s H vs Q E (hr.deeper _) hsp
  have I : Inv (cxOf CX P w K mg base N qual scope f cdv A outer s H E) [] (start N vs) H s1 := inv_start S hr.hd e0 hl r x
  refine wpAny_mono (ht [] s1 (start N vs) H _ I hq) (fun fl s' hs => ?_) fun e s' hs => hs
  have fin : ∀ {σ' : St} {H' : Hp} {v : V} {u : Value}, Inv (cxOf CX P w K mg base N qual scope f cdv A outer s H E) [] σ' H' s' → RelV v u → Q v H' → CE outer P w H s Q u s' :=
    fun {σ' H' v u} J rv q => ⟨v, H', J.os, J.bare, J.base, J.hok, rv, q⟩
  cases fl with
  | ret u =>
    obtain ⟨v, σ', H', J, rv, q⟩ := hs
    exact fin J rv q
  | next =>
    obtain ⟨σ', H', J, q⟩ := hs
    exact fin (v := V.non) (u := Value.none) J rfl q
  | brk =>
    obtain ⟨_, _, _, q⟩ := hs
    exact False.elim q
  | cont =>
    obtain ⟨_, _, _, q⟩ := hs
    exact False.elim q
end L2
namespace L2
open PySem PySem.Spec PyProof.Rows
section
variable {X : Cx} {x : Str} {p pos : Pos} {e : Expr} {es : List Expr} {t : TA} {id T : String} {r : List V → Hp → VK → Prop}
def tCB (r : List V → Hp → VK → Prop) (t : TA) : TE := fun σ H Q => t σ H fun a b => r a b Q
theorem pe_callB (k : CallR X (.builtin id) r) (z : Gl X x) (n : X.mg x = none) (o : bootBuiltins x = some (.builtin id)) (m : PA X (e :: es) t) (q : x ≠ "__name__" := by decide) (d : (x == ("__debug__" : Str)) = false := by decide)
    (y : starEach (e :: es) X.env = (false, eval e X.env) :: starEach es X.env := by rfl) (c : (backTo pos (starEach es X.env)).any (·.1) = false := by rfl) : PE X (.Call (.Name x p) (e :: es) [] pos) (tCB r t) := by
  intro b s σ H Q I h
  refine wpAny_Call_Name_kw (ld_blt I z n o ?_ q d)
  exact PyProof.Rows.callWith_builtin1 (thn (m pos b s σ H _ I h) (by rintro l g ⟨w, i, v, u, j⟩; exact k b g σ i w l Q v u j)) y c
theorem pe_callTy (j : CallR X (.type T) r) (y : Gl X x) (m : X.mg x = none) (n : bootBuiltins x = some (.type T)) (l : PA X (e :: es) t) (o : x ≠ "__name__" := by decide) (d : (x == ("__debug__" : Str)) = false := by decide)
    (w : starEach (e :: es) X.env = (false, eval e X.env) :: starEach es X.env := by rfl) (c : (backTo pos (starEach es X.env)).any (·.1) = false := by rfl) : PE X (.Call (.Name x p) (e :: es) [] pos) (tCB r t) := by
  intro b s σ H Q I h
  refine wpAny_Call_Name_kw (ld_blt I y m n ?_ o d)
  exact PyProof.Rows.callWith_type1 (thn (l pos b s σ H _ I h) (by rintro k f ⟨v, g, u, q, i⟩; exact j b f σ g v k Q u q i)) w c
end
end L2
namespace L2
open PySem PySem.Spec PyProof.Rows
section
variable {κ : Type} [DecidableEq κ]
noncomputable def valV (kvs : List (κ × V)) (k : κ) : Option V := (kvs.find? fun a => decide (a.1 = k)).map (·.2)
def putK (kvs : List (κ × V)) (k : κ) (v : V) : List (κ × V) :=
  if (kvs.any fun a => decide (a.1 = k)) = true then kvs.map (fun a => if a.1 = k then (a.1, v) else a) else kvs ++ [(k, v)]
theorem valV_pos {p : κ × V} {r : List (κ × V)} {k : κ} (e : p.1 = k) : valV (p :: r) k = some p.2 := by simp [valV, e]
theorem valV_neg {p : κ × V} {r : List (κ × V)} {k : κ} (e : ¬ p.1 = k) : valV (p :: r) k = valV r k := by simp [valV, e]
theorem valV_any (k : κ) : ∀ kvs : List (κ × V), (kvs.any fun a => decide (a.1 = k)) = (valV kvs k).isSome
  | [] => rfl
  | p :: r => by
    rw [List.any_cons]
    by_cases e : p.1 = k
    · simp only [valV_pos e, decide_eq_true e, Bool.true_or, Option.isSome_some]
    · rw [valV_neg e, decide_eq_false e]; exact valV_any k r
theorem length_putK (kvs : List (κ × V)) (k : κ) (v : V) : (putK kvs k v).length ≤ kvs.length + 1 := by
  unfold putK
  grind
theorem RelO.isSome_eq (r : RelO o u) : o.isSome = u.isSome := by
  cases o with
  | none => cases u with
    | none => rfl
    | some _ => exact (r).elim
  | some _ => cases u with
    | none => exact (r).elim
    | some _ => rfl
theorem RelO.getD (r : RelO o u) (a : RelV d d') : RelV (o.getD d) (u.getD d') := by
  cases o with
  | none => cases u with
    | none => exact a
    | some _ => exact (r).elim
  | some _ => cases u with
    | none => exact (r).elim
    | some _ => exact r
theorem KV.val (r : KV kvs vs) (k : κ) : RelO (valV kvs k) (valueAt vs k) := by
  induction r with
  | nil => exact True.intro
  | @cons p q ps c h t ih =>
    obtain ⟨d, f⟩ := h
    by_cases e : p.1 = k
    · have a := d.symm.trans e
      have b : valueAt (q :: c) k = some q.2 := by simp [valueAt, a]
      rw [valV_pos e, b]; exact f
    · have a : ¬ q.1 = k := fun z => e (d.trans z)
      have b : valueAt (q :: c) k = valueAt c k := by simp [valueAt, a]
      rw [valV_neg e, b]; exact ih
theorem KV.any (r : KV kvs vs) (k : κ) : (kvs.any fun kv => decide (kv.1 = k)) = vs.any fun kv => decide (kv.1 = k) := by
  unfold KV at r
  induction r with
  | nil => rfl
  | cons h t ih => rw [List.any_cons, List.any_cons, ih, h.1]
theorem KV.repl (r : KV kvs vs) (k : κ) (ry : RelV y u) :
    KV (kvs.map fun a => if a.1 = k then (a.1, y) else a) (vs.map fun a => if a.1 = k then (a.1, u) else a) := by
  induction r with
  | nil => exact .nil
  | @cons p q ps qs h t ih =>
    refine .cons ?_ ih
    grind
theorem KV.put (r : KV kvs vs) (k : κ) (a : RelV y u) : KV (putK kvs k y) (stored vs k u) := by
  unfold putK stored
  rw [r.any k]
  by_cases e : (vs.any fun b => decide (b.1 = k)) = true
  · rw [if_pos e, if_pos e]; exact r.repl k a
  · rw [if_neg e, if_neg e]; exact Paired.snoc r ⟨rfl, a⟩
theorem KV.length (r : KV kvs vs) : kvs.length = vs.length := Paired.length r
end
theorem kV_is (r : RelV (kV k) u) : (mixKind P w).is k u = true := by
  cases k with
  | inl i => obtain ⟨t, e⟩ := (r); subst e; exact mixKind_int P w i t
  | inr x => obtain ⟨t, e⟩ := (r); subst e; exact mixKind_str P w x t
theorem items_are : ∀ {ks : List Key} {us : List Value}, Vals (ks.map kV) us → ItemsAre (mixKind P w) ks us
  | [], _, r => by cases r; exact .nil
  | k :: ks, _, r => by
    cases r with
    | cons h t => exact .cons (kV_is h) (items_are t)
abbrev KT (H : Hp) : List (List Key × V) → List (List Key × Addr × Value) → Prop := Paired fun p q => p.1 = q.1 ∧ H q.2.1 = some (.tup (p.1.map kV)) ∧ RelV p.2 q.2.2
theorem KT.val (r : KT H kvs xs) (k : List Key) : RelO (valV kvs k) ((atKey xs k).map (·.2)) := by
  induction r with
  | nil => exact True.intro
  | @cons p q ps c h t ih =>
    obtain ⟨d, _, f⟩ := h
    by_cases e : p.1 = k
    · have a := d.symm.trans e
      have b : atKey (q :: c) k = some q.2 := by simp [atKey, a]
      rw [valV_pos e, b]; exact f
    · have a : ¬ q.1 = k := fun z => e (d.trans z)
      have b : atKey (q :: c) k = atKey c k := by simp [atKey, a]
      rw [valV_neg e, b]; exact ih
theorem KT.repl (r : KT H kvs xs) (k : List Key) (ry : RelV y u) :
    KT H (kvs.map fun a => if a.1 = k then (a.1, y) else a) (xs.map (putAt k u)) := by
  induction r with
  | nil => exact .nil
  | @cons p q ps qs h t ih =>
    refine .cons ?_ ih
    unfold putAt
    grind
theorem KT.put (r : KT H kvs xs) (k : List Key) (d : H b = some (.tup (k.map kV))) (a : RelV y u) :
    KT H (putK kvs k y) (storedH xs k b u) := by
  have e : (kvs.any fun c => decide (c.1 = k)) = (atKey xs k).isSome := by
    rw [valV_any, (r.val k).isSome_eq, Option.isSome_map]
  unfold putK storedH
  rw [e]
  by_cases q : (atKey xs k).isSome = true
  · rw [if_pos q, if_pos q]; exact r.repl k a
  · rw [if_neg q, if_neg q]; exact Paired.snoc r ⟨rfl, d, a⟩
theorem KT.keeps (r : KT H kvs xs) (a : ∀ b ys, H b = some (.tup ys) → H' b = some (.tup ys)) : KT H' kvs xs :=
  Paired.mapP r fun _ _ z => ⟨z.1, a _ _ z.2.1, z.2.2⟩
section
variable {P : Program} {w : World} {H : Hp} {h : Heap} {a : Addr}
theorem rd_of (b : HOk P w H h) (e : Rd H a u) : ObjOk P w H h a u := e.ok b
theorem dk_rd (b : HOk P w H h) (e : Rd H a (.dK kvs)) : kvs.length ≤ sizeLine ∧ (a == sysModules) = false ∧ ∃ vs, KV kvs vs ∧ h.DictOf (mixKind P w) a vs :=
  rd_of b e
theorem dk_of (b : HOk P w H h) (e : H a = some (.dK kvs)) : kvs.length ≤ sizeLine ∧ (a == sysModules) = false ∧ ∃ vs, KV kvs vs ∧ h.DictOf (mixKind P w) a vs := dk_rd b (.inl e)
theorem key_of {ks : List Key} (g : HOk P w H h) (e : H a = some (.tup (ks.map kV))) : (tupleKind (mixKind P w)).is h ks a := by
  obtain ⟨_, b, r, o, c, f, n, d⟩ := (g a _ e)
  exact ⟨o, b.toArray, n, c, f, d, by simpa using items_are r⟩
theorem dt_rd (ok : HOk P w H h) (e : Rd H a (.dT kvs)) : kvs.length ≤ sizeLine ∧ (a == sysModules) = false ∧
    ∃ xs, KT H kvs xs ∧ h.DictOfH (tupleKind (mixKind P w)) a xs := by
  obtain ⟨z, y, xs, r, o, es, ep, h1, h2, h3, h4, h5⟩ := (show ObjOk P w H h a (.dT kvs) from rd_of ok e)
  refine ⟨z, y, xs, r, o, es, ep, h1, h2, h3, h4, fun x hx => ?_, h5⟩
  have all : ∀ {l : List (List Key × V)} {m : List (List Key × Addr × Value)}, KT H l m → ∀ x ∈ m, (tupleKind (mixKind P w)).is h x.1 x.2.1 := by
    intro l m q
    induction q with
    | nil => intro x hx; exact nomatch hx
    | @cons p q ps qs hq t ih =>
      intro x hx
      rcases List.mem_cons.mp hx with e | hx
      · subst e
        exact key_of ok (by rw [← hq.1]; exact hq.2.1)
      · exact ih x hx
  exact all r x hx
theorem dt_of (b : HOk P w H h) (e : H a = some (.dT kvs)) : kvs.length ≤ sizeLine ∧ (a == sysModules) = false ∧
    ∃ xs, KT H kvs xs ∧ h.DictOfH (tupleKind (mixKind P w)) a xs := dt_rd b (.inl e)
end
noncomputable def DGet (H : Hp) (a : Addr) (y : V) (r : Option V) : Prop :=
  (∃ c k, Rd H a (.dK c) ∧ y = kV k ∧ r = valV c k) ∨ ∃ c k b, Rd H a (.dT c) ∧ y = .ref b ∧ H b = some (.tup (k.map kV)) ∧ r = valV c k
def DPut (H : Hp) (a : Addr) (y v : V) (H' : Hp) : Prop :=
  (∃ c k, H a = some (.dK c) ∧ y = kV k ∧ c.length < sizeLine ∧ H' = upd H a (.dK (putK c k v))) ∨
  ∃ c k b, H a = some (.dT c) ∧ y = .ref b ∧ H b = some (.tup (k.map kV)) ∧ c.length < sizeLine ∧ H' = upd H a (.dT (putK c k v))
theorem DGet.k {H : Hp} {a : Addr} {kvs : List (Key × V)} {k : Key} (e : H a = some (.dK kvs)) : DGet H a (kV k) (valV kvs k) := .inl ⟨kvs, k, .inl e, rfl, rfl⟩
theorem DPut.k {H : Hp} {a : Addr} {kvs : List (Key × V)} {k : Key} {v : V} (e : H a = some (.dK kvs)) (b : kvs.length < sizeLine) : DPut H a (kV k) v (upd H a (.dK (putK kvs k v))) := .inl ⟨kvs, k, e, rfl, b, rfl⟩
section
variable {X : Cx} {pins : List (Addr × Obj)} {σ : St} {H : Hp} {s : Shared} {a : Addr} {y v : V} {u r : Value} {o : Option V} {A : Around} {E : Value → Shared → Prop}
theorem Inv.big (I : Inv X pins σ H s) : sysModules < s.heap.objs.size := by
  have h := (I.mod.glob.keeps I.bk).lt
  exact Nat.lt_trans (by decide) h
theorem d_in {Q : Value → Shared → Prop} (p : A.units + 1 < cLine) (I : Inv X pins σ H s) (g : DGet H a y o) (n : RelV y u) (h : ∀ s', Inv X pins σ H s' → Q (.bool o.isSome) s') :
    wpAny (model X.prog X.w) A (compareOp .In u (.ref a)) Q E s := by
  rcases g with ⟨j, k, e, m, l⟩ | ⟨j, k, b, e, m, t, l⟩
  · subst m
    obtain ⟨z, f, vs, c, i⟩ := dk_rd I.hok e
    refine wpAny_in_of (kV_is n) f i.mapOf ?_
    rw [← (c.val k).isSome_eq, ← l]
    exact h _ (I.tok _)
  · subst m
    cases (n)
    obtain ⟨z, f, xs, c, i⟩ := dt_rd I.hok e
    refine wpAny_in_heap (tupleKind_room_in1 p) (key_of I.hok t) f i ?_
    have q := (c.val k).isSome_eq
    rw [Option.isSome_map] at q
    rw [← q, ← l]
    exact h _ (I.tok _)
theorem d_write (I : Inv X pins σ H s) (g : Mut (H a)) (f : Heap.SameBut a s.heap h') (e : ∃ q, h'.get? a = some q) (c : ObjOk X.prog X.w (upd H a ob) h' a ob) :
    Inv X pins σ (upd H a ob) { s with heap := h', toks := t' } :=
  I.write g (.inl rfl) (fun b q d z => (f.2 b d).trans z) e c
theorem dk_new {h' : Heap} {kvs : List (Key × V)} (z : kvs.length ≤ sizeLine) (c : (a == sysModules) = false) (b : KV kvs vs) (dd : h'.DictOf (mixKind P w) a vs) :
    ObjOk P w H' h' a (.dK kvs) := ⟨z, c, vs, b, dd⟩
theorem d_setItem {Q : Unit → Shared → Prop} (Z : A.units + 1 < cLine) (I : Inv X pins σ H s) (g : DPut H a y v H') (F : RelV y u) (J : RelV v r) (h : ∀ s', Inv X pins σ H' s' → Q () s') :
    wpAny (model X.prog X.w) A (setItem (.ref a) u r) Q E s := by
  rcases g with ⟨f, k, e, p, l, n⟩ | ⟨f, k, b, e, p, M, l, n⟩
  · subst p n
    obtain ⟨z, B, S, i, t⟩ := dk_of I.hok e
    have C : S.length ≤ sizeLine := by rw [← i.length]; exact z
    have D : (putK f k v).length ≤ sizeLine := by have := length_putK f k v; lia
    refine wpAny_setItem_pairs (hsz := C) (kV_is F) t fun L j x => h _ ?_
    have Y : ∃ q, L.get? a = some q := let ⟨q, _, _, m, _⟩ := j; ⟨q, m⟩
    exact d_write I (by rw [e]; exact True.intro) x Y (dk_new D B (i.put k J) j)
  · subst p n
    cases (show u = Value.ref b from F)
    obtain ⟨z, B, R, i, t⟩ := dt_of I.hok e
    have C : R.length ≤ sizeLine := by rw [← Paired.length i]; exact z
    have D : (putK f k v).length ≤ sizeLine := by have := length_putK f k v; lia
    refine wpAny_setItem_heap (hsz := C) (tupleKind_room_in1 Z) (key_of I.hok M) t fun L j x => h _ ?_
    obtain ⟨q, T, W, m, P, U, O, _, N⟩ := j
    refine d_write I (by rw [e]; exact True.intro) x ⟨q, m⟩ ⟨D, B, _, (i.put k M J).keeps fun c ys G => ?_, q, T, W, m, P, U, O, N⟩
    rw [upd_ne (ne_of G e (fun z => nomatch z))]
    exact G
end
def tDIn (e f : TE) : TE := fun σ H Q => e σ H fun y c => f σ c fun x b => ∃ a o, x = .ref a ∧ DGet b a y o ∧ Q (.bl o.isSome) b
def sDPut (e f c : TE) : TS := fun D σ H => c σ H fun v h => e σ h fun x i => f σ i fun y g => ∃ a b, x = .ref a ∧ DPut g a y v b ∧ D.nx σ b
section
variable {X : Cx} {o i e value : Expr} {pos pos' tpos : Pos} {td ty tv : TE}
theorem pc_din (q : X.A.units + 1 < cLine) (l : PE X i ty) (m : PE X o td) : PC X .In i o (tDIn ty td) := by
  intro b s σ H Q I h
  refine thn (l b s σ H _ I h) fun iv t ⟨y, n, k, c, p⟩ => thn (m b t σ n _ k p) ?_
  rintro u s2 ⟨x, v, f, r, a, z, d, g, w⟩
  subst d
  obtain rfl : u = Value.ref a := r
  exact d_in q f g c fun s3 j => ⟨.bl z.isSome, v, j, rfl, w⟩
theorem ps_dput (L : X.A.units + 1 < cLine) (j : PE X o td) (F : PE X i ty) (f : PE X value tv) (m : swapsWith value (some (.Subscript o i pos')) pos.line X.env = pure false) :
    PS X (.Assign [.Subscript o i pos'] value pos) (sDPut td ty tv) := by
  intro b s σ H D I h
  refine wpAny_Assign_Subscript (thn (f b s σ H _ I h) fun r M ⟨v, k, E, w, l⟩ => thn (j b M σ k _ E l) fun u G ⟨x, c, d, n, p⟩ => thn (F b G σ c _ d p) ?_) m
  rintro iv s3 ⟨y, H3, C, q, a, B, t, g, J⟩
  subst t
  obtain rfl : u = Value.ref a := n
  exact d_setItem L C g q w fun s4 z => ⟨σ, B, z, J⟩
end
theorem dk_empty (h : Heap) (a : sysModules < h.objs.size) : ObjOk P w H (h.push { cls := .type "dict", data := .dict #[] }) h.objs.size (.dK []) :=
  ⟨Nat.zero_le _, beq_eq_false_iff_ne.mpr (Ne.symm (Nat.ne_of_lt a)), [], .nil, Heap.DictOf.new h⟩
def tDNewK : TE := fun _ H Q => ∀ p, H p = none → Q (.ref p) (upd H p (.dK []))
section
variable {X : Cx} {pos : Pos}
theorem pe_dnewK : PE X (.Dict [] [] pos) tDNewK := fun pins s σ H Q I h =>
  wpAny_Dict_empty ⟨.ref s.heap.objs.size, _, I.laid (fun _ _ q => Heap.get?_push_of_some _ q) (Nat.le_refl _) (dk_empty s.heap I.big), rfl, h _ (I.hok.fresh (Nat.le_refl _))⟩
end
end L2
namespace HT
open PySem PyProof.Rows
section
open PySem.SeqAt
open PySem.AutoSeq1 (wpAny_loadPart')
open PySem.MeetsSeq PySem.MeetsSeq2 PySem.MeetsSeq3
end
section
variable {prog : Program} {w : World} {A : Around} {E : Value → Shared → Prop} {s : Shared}
noncomputable def sIx (n d : Nat) : Option Int → Nat
  | none => d
  | some v => if v < 0 then (v + (n : Int)).toNat else min v.toNat n
theorem sIx_none (n d : Nat) : sIx n d none = d := rfl
theorem sIx_nat (n d k : Nat) : sIx n d (some (k : Int)) = min k n := by
  show (if (k : Int) < 0 then ((k : Int) + (n : Int)).toNat else min (k : Int).toNat n) = min k n
  rw [if_neg (by omega), Int.toNat_natCast]
end
end HT
namespace L2
open PySem PySem.Spec PyProof.Rows
abbrev TO := St → Hp → (Option Int → Hp → Prop) → Prop
noncomputable def PO (X : Cx) (e : Option Expr) (t : TO) : Prop :=
  ∀ (b : List (Addr × Obj)) (s : Shared) (σ : St) (H : Hp) (Q : Option Int → Hp → Prop), Inv X b σ H s → t σ H Q →
    wpAny (model X.prog X.w) X.A (evalPart e X.env) (fun u d => ∃ o c, Inv X b σ c d ∧ IsPart u o ∧ Q o c) X.xe s
def tNoPart : TO := fun _ H Q => Q none H
def tPart (t : TE) : TO := fun σ H Q => t σ H fun x a => ∃ i, x = .int i ∧ Q (some i) a
section
variable {X : Cx} {e : Expr} {te : TE} {lo hi : Option Expr} {tl th : TO} {pos p2 : Pos}
theorem po_none : PO X none tNoPart := by
  intro pins s σ H Q I h
  exact wpAny_pure ⟨none, H, I, .none, h⟩
theorem po_some (h : PE X e te) : PO X (some e) (tPart te) := by
  intro a s σ H Q I b
  refine thn (h a s σ H _ I b) ?_
  rintro u s1 ⟨x, f, d, c, g⟩
  obtain ⟨i, rfl, q⟩ := g
  obtain ⟨t, rfl⟩ := c
  exact ⟨some i, f, d, .int i t, q⟩
def SlR (X : Cx) (r : V → Option Int → Option Int → Hp → VK → Prop) : Prop :=
  ∀ (b : List (Addr × Obj)) (s : Shared) (σ : St) (H : Hp) (x : V) (v f d : Value) (lo hi : Option Int) (c : Addr) (Q : VK), Inv X b σ H s → RelV x v → s.heap.IsSliceOf c f d .none → IsPart f lo → IsPart d hi → r x lo hi H Q →
    ∃ T id, typeLookup (.type T) "__getitem__" = pure (some (.builtin id)) ∧ s.TypeIs v T ∧ wpAny (model X.prog X.w) X.A (getItem v (.ref c)) (EP X b σ Q) X.xe s
def tSl (r : V → Option Int → Option Int → Hp → VK → Prop) (te : TE) (tl th : TO) : TE := fun σ H Q => te σ H fun x b => tl σ b fun l a => th σ a fun u c => r x l u c Q
theorem pe_slice (G : SlR X r) (J : PE X e te) (D : PO X lo tl) (L : PO X hi th) : PE X (.Subscript e (.Slice lo hi none p2) pos) (tSl r te tl th) := by
  intro c s σ H Q I h
  refine Subscript_ (thn (J c s σ H _ I h) ?_)
  rintro v k ⟨x, t, A, w, N⟩
  refine wpAny_Slice (thn (D c k σ t _ A N) fun f C ⟨l, j, n, B, m⟩ => thn (L c C σ j _ n m) ?_)
  rintro g d ⟨u, i, z, o, F⟩
  refine wpAny_pure ?_
  have p : Inv X c σ i { d with heap := d.heap.push { cls := .type "slice", data := .fields #[f, g, .none] } } := z.kept fun b ob q => Heap.get?_push_of_some _ q
  obtain ⟨T, id, E, y, M⟩ := G c { d with heap := d.heap.push { cls := .type "slice", data := .fields #[f, g, .none] } } σ i x v f g l u d.heap.objs.size Q p w (Heap.IsSliceOf.new ..) B o F
  exact tail_any y E M (by with_unfolding_all rfl)
noncomputable def cutV (xs : List V) (lo hi : Option Int) : List V := (xs.drop (HT.sIx xs.length 0 lo)).take (HT.sIx xs.length xs.length hi - HT.sIx xs.length 0 lo)
theorem cutV_length (xs : List V) (lo hi : Option Int) : (cutV xs lo hi).length ≤ xs.length := by
  unfold cutV
  rw [List.length_take, List.length_drop]
  omega
end
end L2
namespace L2
open PySem PySem.Spec PyProof.Rows
noncomputable def ixN (n : Nat) (i : Int) : Option Nat := if 0 ≤ i then (if i < n then some i.toNat else none) else if -(n : Int) ≤ i then some (i + n).toNat else none
noncomputable def atI {α : Type} (xs : List α) (i : Int) : Option α := (ixN xs.length i).bind fun j => xs[j]?
theorem ixN_seq (h : ixN n i = some j) : seqIndex? i n = some j ∧ j < n ∧ -(n : Int) ≤ i ∧ i < n := by
  unfold ixN at h
  by_cases h0 : 0 ≤ i
  · rw [if_pos h0] at h
    by_cases h1 : i < n
    · rw [if_pos h1] at h
      have e : i.toNat = j := Option.some.inj h
      exact ⟨by rw [seqIndex_of h0 h1, e], by omega, by omega, h1⟩
    · rw [if_neg h1] at h; cases h
  · rw [if_neg h0] at h
    by_cases h1 : -(n : Int) ≤ i
    · rw [if_pos h1] at h
      have e : (i + n).toNat = j := Option.some.inj h
      exact ⟨by rw [seqIndex_neg (by omega) h1, e], by omega, h1, by omega⟩
    · rw [if_neg h1] at h; cases h
theorem atI_get {α : Type} {xs : List α} {v : α} (h : atI xs i = some v) : ∃ j, seqIndex? i xs.length = some j ∧ xs[j]? = some v ∧ j < xs.length ∧ -(xs.length : Int) ≤ i ∧ i < xs.length := by
  unfold atI at h
  cases e : ixN xs.length i with
  | none => rw [e] at h; cases h
  | some j =>
    rw [e] at h
    obtain ⟨h1, h2, h3, h4⟩ := ixN_seq e
    exact ⟨j, h1, h, h2, h3, h4⟩
theorem atI_nat {α : Type} {xs : List α} {j : Nat} {v : α} (h : xs[j]? = some v) : atI xs (j : Int) = some v := by
  have hj : j < xs.length := (List.getElem?_eq_some_iff.mp h).1
  have e : ixN xs.length (j : Int) = some j := by
    unfold ixN
    rw [if_pos (by omega), if_pos (by omega)]; simp
  unfold atI; rw [e]; exact h
def PlainIx (b : Expr) : Prop := ∀ o i, subscripted b false o i = operate [o, i] (getItem o i)
def IxR (X : Cx) (r : R2) : Prop :=
  ∀ (d b : Expr) (c : List (Addr × Obj)) (s : Shared) (σ : St) (H : Hp) (x y : V) (v u : Value) (Q : VK), Inv X c σ H s → RelV x v → RelV y u → r x y H Q →
    subscripted b false v u = operate [v, u] (getItem v u) → wpAny (model X.prog X.w) X.A (subscriptTail d b v u) (EP X c σ Q) X.xe s
def MtR (X : Cx) (id : String) (r : V → List V → Hp → VK → Prop) : Prop :=
  ∀ (b : List (Addr × Obj)) (s : Shared) (σ : St) (H : Hp) (x : V) (c : List V) (v : Value) (d : List Value) (Q : VK), Inv X b σ H s → RelV x v → Vals c d → r x c H Q →
    wpAny (model X.prog X.w) X.A (call (.builtin id) (v :: d)) (EP X b σ Q) X.xe s
section
variable {X : Cx} {a b : Expr} {ta tb : TE} {pos : Pos}
theorem pe_ix (f : IxR X r) (i : PE X a ta) (m : PE X b tb) (g : PlainIx b) : PE X (.Subscript a b pos) (tOp r ta tb) := by
  intro c s σ H Q I h
  exact Subscript_ (binT i m I h fun v u e x y l k j d q => f a b c e σ l x y v u Q k j d q (g _ _))
def rIxL (K : PySem.W.Frag) : R2 := fun x y H Q => ∃ p c i v, x = .ref p ∧ y = .int i ∧ SqL K H p c ∧ atI c i = some v ∧ Q v H
def rIxT (K : PySem.W.Frag) : R2 := fun x y H Q => ∃ p c i v, x = .ref p ∧ y = .int i ∧ SqT K H p c ∧ atI c i = some v ∧ Q v H
theorem ix_list : IxR X (rIxL X.K) := by
  intro value slice pins s σ H x y v u Q I rx ry h hs
  obtain ⟨p, xs, i, z, rfl, rfl, hq, he, q⟩ := h
  cases rx
  obtain ⟨t, rfl⟩ := ry
  obtain ⟨its, r, pl, hz⟩ := I.list hq
  obtain ⟨j, h1, h2, h3, h4, h5⟩ := atI_get he
  obtain ⟨w, ew, rw'⟩ := r.get h2
  have hl := r.length
  have hn := line63
  have fin : EP X pins σ Q w s := ⟨z, H, I, rw', q⟩
  by_cases h0 : 0 ≤ i
  · have hj : i.toNat = j := by
      rw [seqIndex_of h0 h5] at h1
      exact Option.some.inj h1
    exact item_listR pl.isList h0 (by omega) (by rw [hj]; simpa using ew) fin hs
  · have hj : (i + (its.toArray.size : Int)).toNat = j := by
      rw [seqIndex_neg (by omega) h4] at h1
      rw [List.size_toArray, ← hl]
      exact Option.some.inj h1
    exact subscriptTail_builtinR (x := w) pl.isList.typeIs slot_list_getitem.lookup
      (wpAny_getItem_list_neg (Q := fun r s' => r = w ∧ EP X pins σ Q r s') pl.isList (by omega) (by rw [List.size_toArray] <;> omega) (by omega) (by rw [hj]; simpa using ew) ⟨rfl, fin⟩) hs
theorem ix_tup : IxR X (rIxT X.K) := by
  intro value slice c s σ H x y v u Q I o k h m
  obtain ⟨p, xs, i, z, rfl, rfl, l, n, q⟩ := h
  cases o
  obtain ⟨t, rfl⟩ := k
  obtain ⟨its, r, f, hz⟩ := I.tuple l
  obtain ⟨j, h1, g, h3, h4, h5⟩ := atI_get n
  obtain ⟨w, ew, e⟩ := r.get g
  have hl := r.length
  have hn := line63
  have d : EP X c σ Q w s := ⟨z, H, I, e, q⟩
  exact subscriptTail_builtinR f.typeIs slot_tuple_getitem.lookup
    (getItem_tuple (j := j) f (by lia) (by lia) (by grind) (by grind) ⟨rfl, d⟩) m
theorem mapSeq_set (c : List Value) (n j : Nat) (u : Value) : Obj.mapSeq (·.setIfInBounds j u) { cls := .type "list", data := .seq c.toArray n } = { cls := .type "list", data := .seq (c.set j u).toArray n } := by
  simp [Obj.mapSeq]
theorem Inv.lst (I : Inv X pins σ H s) (h : H p = some (.lst xs)) :
    ∃ (its : List Value) (n : Nat), Vals xs its ∧ s.heap.get? p = some { cls := .type "list", data := .seq its.toArray n } ∧ xs.length ≤ sizeLine := by
  obtain ⟨z, its, n, r, e⟩ := I.hok p _ h
  exact ⟨its, n, r, e, z⟩
theorem Inv.lstUpd {d its' : List Value} (I : Inv X c σ H s) (h : H p = some (.lst xs))
    (j : s.heap.get? p = some { cls := .type "list", data := .seq d.toArray n }) (g : f { cls := .type "list", data := .seq d.toArray n } = { cls := .type "list", data := .seq its'.toArray n' }) (r : Vals ys its') (hz : ys.length ≤ sizeLine) (t : Nat) :
    Inv X c σ (upd H p (.lst ys)) { s with heap := s.heap.update p f, toks := t } := by
  have e : (s.heap.update p f).get? p = some { cls := .type "list", data := .seq its'.toArray n' } := by
    rw [Heap.get?_update_self f j (by rw [g] <;> rfl), g]
  refine I.write (by rw [h]; trivial) (.inl rfl) (fun b u i q => (Heap.get?_update_other _ _ (Ne.symm i)).trans q) ⟨_, e⟩ ?_
  exact ⟨hz, its', n', r, e⟩
def rSetL : V → V → V → Hp → (Hp → Prop) → Prop := fun o i v H Q => ∃ p c k j, o = .ref p ∧ i = .int k ∧ H p = some (.lst c) ∧ ixN c.length k = some j ∧ Q (upd H p (.lst (c.set j v)))
theorem set_list : PSet X rSetL := by
  intro pins s σ H o i v ov iv u Q I ro ri rv h
  obtain ⟨p, xs, k, j, rfl, rfl, hp, hj, q⟩ := h
  cases ro
  obtain ⟨t, rfl⟩ := ri
  obtain ⟨its, n, r, ho, hz⟩ := I.lst hp
  obtain ⟨h1, h2, h3, h4⟩ := ixN_seq hj
  have hl := r.length
  have hn := line63
  have I' : Inv X pins σ (upd H p (.lst (xs.set j v))) { s with heap := s.heap.update p (Obj.mapSeq (·.setIfInBounds j u)) } :=
    I.lstUpd hp ho (mapSeq_set its n j u) (r.set rv j) (by rw [List.length_set]; exact hz) s.toks
  by_cases h0 : 0 ≤ k
  · have hk : k.toNat = j := by
      rw [seqIndex_of h0 h4] at h1
      exact Option.some.inj h1
    exact PySem.W.ki_setAt ho h0 (by omega) (by rw [List.size_toArray, ← hl]; exact h4) (by rw [hk]; exact ⟨_, I', q⟩)
  · have hk : (k + (its.toArray.size : Int)).toNat = j := by
      rw [seqIndex_neg (by omega) h3] at h1
      rw [List.size_toArray, ← hl]
      exact Option.some.inj h1
    exact PySem.W.ki_setBack ho (by omega) (by rw [List.size_toArray, ← hl]; exact h3) (by omega) (by rw [hk]; exact ⟨_, I', q⟩)
theorem slice_bounds (lo d : Option Int) (n : Nat) : (sliceBounds lo d none n).1 = ((HT.sIx n 0 lo : Nat) : Int) ∧ (sliceBounds lo d none n).2.1 = ((HT.sIx n n d : Nat) : Int) ∧ (sliceBounds lo d none n).2.2 = 1 := by
  refine ⟨?_, ?_, rfl⟩
  · cases lo with
    | none => simp [sliceBounds, HT.sIx]
    | some i =>
      simp only [sliceBounds, HT.sIx, Option.getD_none, if_true]
      grind
  · cases d with
    | none => simp [sliceBounds, HT.sIx]
    | some i =>
      simp only [sliceBounds, HT.sIx, Option.getD_none, if_true]
      grind
theorem slicePick_cut (c : List Value) (lo d : Option Int) : slicePick c.toArray lo d none = ((c.drop (HT.sIx c.length 0 lo)).take (HT.sIx c.length c.length d - HT.sIx c.length 0 lo)).toArray := by
  obtain ⟨h, g, f⟩ := slice_bounds lo d c.toArray.size
  unfold slicePick
  rw [h, g, f]
  simp only [sliceRange_one, pick_run] <;> rfl
def rSlL (K : PySem.W.Frag) : V → Option Int → Option Int → Hp → VK → Prop := fun x lo d H Q => ∃ a c, x = .ref a ∧ SqL K H a c ∧ ∀ p, H p = none → Q (.ref p) (upd H p (.lst (cutV c lo d)))
theorem sl_list : SlR X (rSlL X.K) := by
  intro pins s σ H x v vl vu lo e sl Q I l k n i h
  obtain ⟨a, d, rfl, j, q⟩ := h
  cases l
  obtain ⟨its, r, g, m⟩ := I.list j
  have c := r.length
  refine ⟨"list", _, slot_list_getitem.lookup, g.isList.typeIs, ?_⟩
  refine wpAny_getItem_list_slice g.isList k n i .none (by simp) ?_ (by grind)
  rw [slicePick_cut, ← c]
  refine ⟨.ref s.heap.objs.size, _, I.laid (fun b ob q => Heap.get?_push_of_some _ q) (Nat.le_refl _) ?_, rfl, q _ (I.hok.fresh (Nat.le_refl _))⟩
  exact ⟨Nat.le_trans (cutV_length d lo e) m, _, 0, (r.drop (HT.sIx d.length 0 lo)).take (HT.sIx d.length d.length e - HT.sIx d.length 0 lo), Heap.get?_push_size _ rfl⟩
def flatV : V → Bool
  | .non => true
  | .bl _ => true
  | .int _ => true
  | .str _ => true
  | _ => false
def eqV : V → V → Bool
  | .non, .non => true
  | .bl a, .bl b => a == b
  | .bl a, .int b => (if a then 1 else 0) == b
  | .int a, .bl b => a == (if b then 1 else 0)
  | .int a, .int b => a == b
  | .str a, .str b => a == b
  | _, _ => false
theorem eqAt_V (ry : RelV y u) (rx : RelV x v) (fy : flatV y = true) (fx : flatV x = true) : SeqAt.EqAt A s u v (eqV y x) := by
  cases y with
  | non =>
    cases ry
    cases x with
    | non => cases rx; exact SeqAt.EqAt.same _
    | bl b => cases rx; exact SeqAt.EqAt.none_bool b
    | int b => obtain ⟨t, rfl⟩ := rx; exact SeqAt.EqAt.none_int b t
    | str b => obtain ⟨t, rfl⟩ := rx; exact SeqAt.EqAt.none_str b t
    | _ => exact absurd (show false = true from fx) Bool.false_ne_true
  | bl a =>
    cases ry
    cases x with
    | non => cases rx; exact SeqAt.EqAt.bool_none a
    | bl b => cases rx; exact SeqAt.EqAt.bool_bool a b
    | int b => obtain ⟨t, rfl⟩ := rx; exact SeqAt.EqAt.bool_int a b t
    | str b => obtain ⟨t, rfl⟩ := rx; exact SeqAt.EqAt.bool_str a b t
    | _ => exact absurd (show false = true from fx) Bool.false_ne_true
  | int a =>
    obtain ⟨t', rfl⟩ := ry
    cases x with
    | non => cases rx; exact SeqAt.EqAt.int_none a t'
    | bl b => cases rx; exact SeqAt.EqAt.int_bool a t' b
    | int b => obtain ⟨t, rfl⟩ := rx; exact SeqAt.EqAt.int_int a t' b t
    | str b => obtain ⟨t, rfl⟩ := rx; exact SeqAt.EqAt.int_str a t' b t
    | _ => exact absurd (show false = true from fx) Bool.false_ne_true
  | str a =>
    obtain ⟨t', rfl⟩ := ry
    cases x with
    | non => cases rx; exact SeqAt.EqAt.str_none a t'
    | bl b => cases rx; exact SeqAt.EqAt.str_bool a t' b
    | int b => obtain ⟨t, rfl⟩ := rx; exact SeqAt.EqAt.str_int a t' b t
    | str b => obtain ⟨t, rfl⟩ := rx; exact SeqAt.EqAt.str_str a t' b t
    | _ => exact absurd (show false = true from fx) Bool.false_ne_true
  | _ => exact absurd (show false = true from fy) Bool.false_ne_true
def eqU (x : V) (u : Value) : Bool := match u with
  | .none => eqV .non x
  | .bool b => eqV (.bl b) x
  | .int i _ => eqV (.int i) x
  | .str z _ => eqV (.str z) x
  | _ => false
theorem eqU_of (r : RelV y u) (f : flatV y = true) : eqU x u = eqV y x := by
  cases y with
  | non => cases r; rfl
  | bl b => cases r; rfl
  | int i => obtain ⟨t, rfl⟩ := r; rfl
  | str z => obtain ⟨t, rfl⟩ := r; rfl
  | _ => exact absurd (f) Bool.false_ne_true
theorem any_eqU : ∀ {xs : List V} {us : List Value}, Vals xs us → xs.all flatV = true → us.any (eqU x) = xs.any fun y => eqV y x
  | _, _, .nil, _ => rfl
  | y :: xs, u :: us, .cons r t, f => by
    rw [List.all_cons, Bool.and_eq_true] at f
    rw [List.any_cons, List.any_cons, eqU_of r f.1, any_eqU t f.2]
theorem mem_eqAt (d : RelV x v) (e : flatV x = true) : ∀ {xs : List V} {us : List Value}, Vals xs us → xs.all flatV = true → ∀ u ∈ us, SeqAt.EqAt A s u v (eqU x u)
  | _, _, .nil, _ => fun u c => by cases c
  | y :: xs, u :: us, .cons r t, f => fun g c => by
    rw [List.all_cons, Bool.and_eq_true] at f
    rcases List.mem_cons.mp c with rfl | c
    · rw [eqU_of r f.1]; exact eqAt_V r d f.1 e
    · exact mem_eqAt d e t f.2 g c
def inV (x : V) (xs : List V) : Bool := xs.any fun y => eqV y x
def rIn (K : PySem.W.Frag) (d : Bool) : R2 := fun x y H Q => ∃ p c, y = .ref p ∧ (SqL K H p c ∨ SqT K H p c) ∧ flatV x = true ∧ c.all flatV = true ∧ Q (.bl (if d then !inV x c else inV x c)) H
theorem op_in_seq : OpR X (compareOp .In) (rIn X.K false) := by
  intro pins s σ H x y v u Q I j k h
  obtain ⟨p, xs, rfl, e, i, f, q⟩ := h
  cases k
  rcases e with e | e
  · obtain ⟨c, r, g, l⟩ := I.list e
    refine SeqAt.in_listAt (eqU x) g.isList (fun w m => mem_eqAt j i r f w (by grind)) ⟨.bl _, H, I, rfl, ?_⟩
    rw [show c.toArray.any (eqU x) = c.any (eqU x) by simp, any_eqU r f]
    exact q
  · obtain ⟨c, r, g, l⟩ := I.tuple e
    refine SeqAt.in_tupleAt (eqU x) g (fun w m => mem_eqAt j i r f w (by simp_all)) ⟨.bl _, H, I, rfl, ?_⟩
    rw [show c.toArray.any (eqU x) = c.any (eqU x) by simp, any_eqU r f]
    exact q
theorem call_len_seq : CallR X (.builtin "len") (fun xs H Q => ∃ p ys, xs = [.ref p] ∧ (SqL X.K H p ys ∨ SqT X.K H p ys) ∧ Q (.int ys.length) H) := by
  intro pins s σ H xs us Q I r h
  obtain ⟨p, ys, rfl, d, q⟩ := h
  obtain ⟨u, rfl, j⟩ := vals1 r
  cases j
  have hn := line63
  rcases d with d | d
  · obtain ⟨g, e, f, i⟩ := I.list d
    have c := e.length
    exact Calls.call_len_list f.isList (by grind) ⟨.int ys.length, H, I.tok _, ⟨s.toks + 1, by grind⟩, q⟩
  · obtain ⟨g, e, f, i⟩ := I.tuple d
    have c := e.length
    exact len_tuple f (by grind) ⟨.int ys.length, H, I.tok _, ⟨s.toks + 1, by grind⟩, q⟩
theorem call_list_of : CallR X (.type "list") (fun xs H Q => ∃ p ys, xs = [.ref p] ∧ (SqL X.K H p ys ∨ SqT X.K H p ys) ∧ ∀ l, H l = none → Q (.ref l) (upd H l (.lst ys))) := by
  intro v s σ H xs us Q I r h
  obtain ⟨p, ys, rfl, t, q⟩ := h
  obtain ⟨u, rfl, C⟩ := vals1 r
  cases C
  have j : ∀ (c : List Value), Vals ys c → ys.length ≤ sizeLine → ∀ (d : Heap) (f : Nat), (∀ b B, s.heap.get? b = some B → d.get? b = some B) →
      d.get? s.heap.objs.size = some { cls := .type "list", dict := none, data := .seq c.toArray f, slots := #[] } → EP X v σ Q (.ref s.heap.objs.size) { s with heap := d } := fun c g k d f m e =>
    ⟨.ref s.heap.objs.size, _, I.laid m (Nat.le_refl _) (show ObjOk X.prog X.w _ d _ (.lst ys) from ⟨k, c, f, g, e⟩), rfl, q _ (I.hok.fresh (Nat.le_refl _))⟩
  rcases t with t | t
  · obtain ⟨c, g, y, k⟩ := I.list t
    have i := g.length
    obtain ⟨o, z, x, n, A⟩ := y.isList
    exact call_list_seq p (.inl rfl) z x A (fun d f m e => j c g k d f m e) (by grind)
  · obtain ⟨c, g, y, k⟩ := I.tuple t
    have i := g.length
    obtain ⟨o, z, x, n, A⟩ := y
    exact call_list_seq p (.inr rfl) z x A (fun d f m e => j c g k d f m e) (by grind)
def tyV (K : PySem.W.Frag) (T : String) (x : V) (H : Hp) : Prop := match x with
  | .str _ => T = "str"
  | .int _ => T = "int"
  | .ref p => (T = "list" ∧ ∃ d, SqL K H p d) ∨ (T = "tuple" ∧ ∃ o, K.lookup p = some o ∧ o.cls = .type "tuple" ∧ o.dict = none) ∨
      (T = "dict" ∧ ((∃ c, H p = some (.dK c)) ∨ ∃ c, H p = some (.dT c))) ∨ (T = "set" ∧ ∃ S n, H p = some (.set S n))
  | _ => False
theorem tyV_is (I : Inv X pins σ H s) (r : RelV x v) (ty : tyV X.K T x H) :
    s.TypeIs v T ∧ ∀ a, v = .ref a → ∃ ob, s.heap.get? a = some ob ∧ ob.dict = none := by
  cases x with
  | str z =>
    obtain ⟨t, rfl⟩ := r
    cases (show T = "str" from ty)
    exact ⟨typeIs_str s z t, fun _ e => nomatch e⟩
  | int i =>
    obtain ⟨t, rfl⟩ := r
    cases (show T = "int" from ty)
    exact ⟨typeIs_int s i t, fun _ e => nomatch e⟩
  | ref p =>
    cases r
    rcases ty with ⟨rfl, xs, hq⟩ | ⟨rfl, o, hk, hc, hd⟩ | ⟨rfl, hk⟩ | ⟨rfl, S, n, hk⟩
    · obtain ⟨its, _, pl, _⟩ := I.list hq
      refine ⟨pl.isList.typeIs, fun a e => ?_⟩
      cases e
      obtain ⟨o, n, e, c, hd, _⟩ := pl
      exact ⟨o, e, hd⟩
    · refine ⟨⟨o, I.kIn p o hk, hc⟩, fun a e => ?_⟩
      cases e
      exact ⟨o, I.kIn _ o hk, hd⟩
    · have z : ∃ o, s.heap.get? p = some o ∧ o.ExactDict := by
        rcases hk with ⟨kvs, hk⟩ | ⟨kvs, hk⟩
        · obtain ⟨_, _, _, _, o, _, _, e, ex, _⟩ := I.hok p _ hk
          exact ⟨o, e, ex⟩
        · obtain ⟨_, _, _, _, o, _, _, e, ex, _⟩ := I.hok p _ hk
          exact ⟨o, e, ex⟩
      obtain ⟨o, e, ex⟩ := z
      refine ⟨⟨o, e, ex.1⟩, fun a e2 => ?_⟩
      cases e2
      exact ⟨o, e, ex.2.1⟩
    · obtain ⟨o, _, _, _, e, ex, _⟩ := I.hok p _ hk
      refine ⟨⟨o, e, ex.1⟩, fun a e2 => ?_⟩
      cases e2
      exact ⟨o, e, ex.2.1⟩
  | _ => exact False.elim ty
def tBM0 (K : PySem.W.Frag) (T : String) (r : V → List V → Hp → VK → Prop) (d : TE) : TE := fun σ H Q => d σ H fun x c => tyV K T x c ∧ r x [] c Q
def tBM (K : PySem.W.Frag) (T : String) (r : V → List V → Hp → VK → Prop) (e : TE) (t : TA) : TE := fun σ H Q => e σ H fun x c => tyV K T x c ∧ t σ c fun d f => r x d f Q
variable {o e : Expr} {es : List Expr} {to : TE} {t : TA} {name : Str} {apos cpos : Pos} {T id : String} {r : V → List V → Hp → VK → Prop}
theorem pe_bm0 (q : PlainAttrs T) (g : Slot T name id) (i : typeOf (.builtin id) = pure (.type "method_descriptor")) (m : MtR X id r) (u : PE X o to)
    (f : attributeBase o name X.env (eval o X.env) = eval o X.env := by rfl) (d : (apos.endLine == cpos.line) = true := by rfl) : PE X (.Call (.Attribute o name apos) [] [] cpos) (tBM0 X.K T r to) := by
  intro c s σ H Q I h
  refine wpAny_Call_method0_late f d (thn (u c s σ H _ I h) ?_)
  rintro v n ⟨x, y, k, j, p, z⟩
  obtain ⟨w, l⟩ := tyV_is k j p
  exact ⟨T, id, q, g, i, w, l, Calls.callWith_builtin rfl (PySem.evalArgs_none (m c n σ y x [] v [] Q k j .nil z))⟩
theorem pe_bm (pa : PlainAttrs T) (slot : Slot T name id) (hty : typeOf (.builtin id) = pure (.type "method_descriptor")) (hm : MtR X id r) (ho : PE X o to) (ha : PA X (e :: es) t)
    (hbase : attributeBase o name X.env (eval o X.env) = eval o X.env := by rfl)
    (hfew : ((backTo cpos (starEach (e :: es) X.env)).all (fun x => !x.1) && (backToKw cpos (keywordEach [] X.env)).all (fun x => x.1.isSome)
      && decide ((e :: es).length + ([] : List Keyword).length + (if ([] : List Keyword).isEmpty then 0 else 1) < 30)) = true := by rfl)
    (hline : (apos.endLine == cpos.line) = true := by rfl) (hs : starEach (e :: es) X.env = (false, eval e X.env) :: starEach es X.env := by rfl) (hplain : (backTo cpos (starEach es X.env)).any (·.1) = false := by rfl) :
    PE X (.Call (.Attribute o name apos) (e :: es) [] cpos) (tBM X.K T r to t) := by
  intro pins s σ H Q I h
  refine wpAny_Call_method_late hbase hfew hline rfl (thn (ho pins s σ H _ I h) fun v s1 ⟨x, H1, I1, r1, ty, q1⟩ => ?_)
  obtain ⟨h1, h2⟩ := tyV_is I1 r1 ty
  refine ⟨T, id, pa, slot, hty, h1, h2, ?_⟩
  have hA := ha cpos pins s1 σ H1 _ I1 q1
  rw [hs] at hA ⊢
  refine Calls.callWith_builtin (by show (false || (backTo cpos (starEach es X.env)).any (·.1)) = false; rw [hplain] <;> rfl) (Calls.evalArgs_plain ?_)
  exact thn hA fun us s2 ⟨vs, H2, I2, r2, q2⟩ => hm pins s2 σ H2 x vs v us Q I2 r1 r2 q2
end
end L2
namespace L2
open PySem PySem.Spec PyProof.Rows
def MtM (X : Cx) (id : String) (r : V → List V → Hp → VK → Prop) : Prop :=
  ∀ (a : List (Addr × Obj)) (s : Shared) (σ : St) (H : Hp) (x : V) (b : List V) (v : Value) (c : List Value) (Q : VK), Inv X a σ H s → RelV x v → Vals b c → r x b H Q →
    wpAny (model X.prog X.w) X.A (call (.builtin id) (v :: c)) (EP X a σ Q) X.xe s
theorem Vals.one {x : V} {us : List Value} (h : Vals [x] us) : ∃ u, us = [u] ∧ RelV x u := by
  cases h with | cons r h => cases h; exact ⟨_, rfl, r⟩
theorem Vals.two {x y : V} {us : List Value} (h : Vals [x, y] us) : ∃ u v, us = [u, v] ∧ RelV x u ∧ RelV y v := by
  cases h with | cons r h => cases h with | cons q h => cases h; exact ⟨_, _, rfl, r, q⟩
theorem Vals.zero : ∀ {us : List Value}, Vals [] us → us = []
  | _, .nil => rfl
theorem Vals.dropLast (h : Vals xs us) : Vals xs.dropLast us.dropLast := by
  induction h with
  | nil => exact .nil
  | cons r t ih =>
    cases t with
    | nil => exact .nil
    | cons q t' => exact .cons r ih
theorem Vals.eraseIdx : ∀ {xs : List V} {us : List Value} (i : Nat), Vals xs us → Vals (xs.eraseIdx i) (us.eraseIdx i)
  | _, _, _, .nil => .nil
  | _, _, 0, .cons _ t => t
  | _, _, i + 1, .cons r t => .cons r (Vals.eraseIdx i t)
theorem Vals.reverse (h : Vals xs us) : Vals xs.reverse us.reverse := by
  induction h with
  | nil => exact .nil
  | cons r t ih => rw [List.reverse_cons, List.reverse_cons]; exact Vals.append ih (.cons r .nil)
theorem erase_last {α : Type} (l : List α) : l.eraseIdx (l.length - 1) = l.dropLast := by
  grind
section
variable {X : Cx} {pins : List (Addr × Obj)} {σ : St} {H : Hp} {s : Shared} {l b : Addr} {xs ys zs : List V}
theorem Inv.lset {a its' : List Value} {f : Array Value → Array Value} (I : Inv X pins σ H s) (i : H l = some (.lst xs))
    (e : s.heap.get? l = some { cls := .type "list", data := .seq a.toArray n }) (g : f a.toArray = its'.toArray) (d : Vals ys its') (hz : ys.length ≤ sizeLine) :
    Inv X pins σ (upd H l (.lst ys)) { s with heap := s.heap.update l (Obj.mapSeq f), toks := t' } := by
  have q := PySem.IsL.update e f
  rw [g] at q
  refine I.write (by rw [i]; exact trivial) (.inl rfl) (fun b' u c h => (Heap.get?_update_other s.heap (Obj.mapSeq f) (Ne.symm c)).trans h) ⟨_, q⟩ ?_
  exact ⟨hz, its', _, d, q⟩
theorem Inv.lnew (I : Inv X pins σ H s) (c : Vals ys a) (hz : ys.length ≤ sizeLine) :
    Inv X pins σ (upd H s.heap.objs.size (.lst ys)) { s with heap := s.heap.push { cls := .type "list", data := .seq a.toArray }, toks := t' } :=
  I.laid (fun _ _ q => Heap.get?_push_of_some _ q) (Nat.le_refl _) ⟨hz, a, 0, c, Heap.get?_push_size _ rfl⟩
theorem Inv.fresh (I : Inv X pins σ H s) : H s.heap.objs.size = none := I.hok.fresh (Nat.le_refl _)
theorem Inv.lstM (I : Inv X pins σ H s) (c : H l = some (.lst xs)) : xs.length ≤ sizeLine ∧ ∃ (a : List Value) (n : Nat), Vals xs a ∧ xs.length = a.length ∧ s.heap.get? l = some { cls := .type "list", data := .seq a.toArray n } := by
  obtain ⟨z, a, n, r, e⟩ := I.hok l _ c
  exact ⟨z, a, n, r, r.length, e⟩
theorem notLongL (h : n ≤ sizeLine) : Builtin.List.listTooLong n = false := by
  unfold Builtin.List.listTooLong
  grind
end
section
variable {X : Cx}
def rAppend : V → List V → Hp → VK → Prop := fun x b H Q => ∃ l a y, x = .ref l ∧ b = [y] ∧ H l = some (.lst a) ∧ a.length < sizeLine ∧ Q .non (upd H l (.lst (a ++ [y])))
theorem mt_append : MtM X "list.append" rAppend := by
  intro pins s σ H x vs v us Q I c f h
  obtain ⟨l, xs, y, rfl, rfl, b, hz, q⟩ := h
  cases c
  obtain ⟨u, rfl, d⟩ := f.one
  obtain ⟨z, a, n, r, hl, e⟩ := I.lstM b
  refine call_meets F.slot_list_append ⟨_, e, rfl⟩ F.entry_list_append (F.args_list_append_2 _ _) (PySem.list_append l a.toArray n u (by grind)) ⟨e, ?_⟩
  refine ⟨.non, _, I.lset b e (by simp) (r.append (.cons d .nil)) ?_, rfl, q⟩
  grind
def rExtend : V → List V → Hp → VK → Prop := fun x d H Q => ∃ l b c a, x = .ref l ∧ d = [.ref b] ∧ H l = some (.lst c) ∧ H b = some (.lst a) ∧ c.length + a.length ≤ sizeLine ∧ Q .non (upd H l (.lst (c ++ a)))
theorem mt_extend : MtM X "list.extend" rExtend := by
  intro pins s σ H x vs v us Q I t o h
  obtain ⟨l, b, xs, zs, rfl, rfl, g, j, hz, q⟩ := h
  cases t
  obtain ⟨u, rfl, k⟩ := o.one
  cases k
  obtain ⟨z, c, n, r, hl, e⟩ := I.lstM g
  obtain ⟨z2, a, i, p, hl2, m⟩ := I.lstM j
  have f : c.toArray.size + a.toArray.size ≤ sizeLine := by grind
  have d : ¬ (!c.toArray.isEmpty && Builtin.List.listTooLong (c.toArray.size + a.toArray.size)) = true := by
    rw [notLongL f]
    grind
  refine call_meets F.slot_list_extend ⟨_, e, rfl⟩ F.entry_list_extend (F.args_list_extend_2 _ _)
    (AutoSeq1.list_extend_list_list_0 l c.toArray n b a.toArray i d (by grind) (by lia)) ⟨e, m, ?_⟩
  refine ⟨.non, _, I.lset g e (by simp) (r.append p) ?_, rfl, q⟩
  grind
def rPop : V → List V → Hp → VK → Prop := fun x b H Q => ∃ l a y, x = .ref l ∧ b = [] ∧ H l = some (.lst a) ∧ a[a.length - 1]? = some y ∧ Q y (upd H l (.lst a.dropLast))
theorem mt_pop : MtM X "list.pop" rPop := by
  intro pins s σ H x vs v us Q I f i h
  obtain ⟨l, xs, y, rfl, rfl, d, j, q⟩ := h
  cases f
  have b := i.zero
  subst b
  obtain ⟨z, a, n, r, hl, e⟩ := I.lstM d
  obtain ⟨u, hu, g⟩ := r.get j
  have c : a.toArray[a.toArray.size - 1]? = some u := by
    grind
  refine call_meets F.slot_list_pop ⟨_, e, rfl⟩ F.entry_list_pop (F.args_list_pop_1 _) (MeetsSeq.list_pop_last l a.toArray n u c (by grind)) ⟨e, ?_⟩
  refine ⟨y, _, I.lset d e ?_ r.dropLast ?_, g, q⟩
  · grind
  grind
def rClear : V → List V → Hp → VK → Prop := fun x a H Q => ∃ l b, x = .ref l ∧ a = [] ∧ H l = some (.lst b) ∧ Q .non (upd H l (.lst []))
theorem mt_clear : MtM X "list.clear" rClear := by
  intro pins s σ H x vs v us Q I d f h
  obtain ⟨l, xs, rfl, rfl, c, q⟩ := h
  cases d
  have b := f.zero
  subst b
  obtain ⟨z, a, n, r, hl, e⟩ := I.lstM c
  refine call_meets F.slot_list_clear ⟨_, e, rfl⟩ F.entry_list_clear (F.args_list_clear_1 _) (AutoSeq1.list_clear_list_0 l a.toArray n (by grind)) ⟨e, ?_⟩
  exact ⟨.non, _, I.lset c e rfl .nil (Nat.zero_le _), rfl, q⟩
def rCat : R2 := fun x y H Q => ∃ l b c a, x = .ref l ∧ y = .ref b ∧ H l = some (.lst c) ∧ H b = some (.lst a) ∧ c.length + a.length ≤ sizeLine ∧ ∀ p, H p = none → Q (.ref p) (upd H p (.lst (c ++ a)))
theorem op_cat : OpR X (binaryOp .Add) rCat := by
  intro pins s σ H x y v u Q I m d h
  obtain ⟨l, b, xs, zs, rfl, rfl, f, j, hz, q⟩ := h
  cases m
  cases d
  obtain ⟨z, c, n, r, hl, e⟩ := I.lstM f
  obtain ⟨z2, a, n2, k, hl2, i⟩ := I.lstM j
  refine PySem.P.add_list e i ?_ (by grind)
  have g : c.toArray ++ a.toArray = (c ++ a).toArray := by simp
  rw [g]
  exact ⟨.ref _, _, I.lnew (r.append k) (by grind), rfl, q _ I.fresh⟩
end
end L2
namespace Att
open PySem PySem.W PySem.Calls PyProof.Rows
theorem ints_of_wellAll : ∀ (ns : List Int) (vs : List Value), WellAll P h vs (ns.map WData.int) → IntsAre vs ns := by
  intro ns
  induction ns with
  | nil =>
    intro vs w
    cases w
    exact .nil
  | cons n ns ih =>
    intro vs w
    cases w with
    | cons a b =>
      cases a
      exact .cons _ _ (ih _ b)
theorem script_of {l : OpenLaw} (hn : l.most = some n)
    (c : l.row.toRowW.claim.pre b = true) (j : WellAll P h g b) :
    ∃ a vs ns, g = [Value.ref a] ∧ b = [WData.list (ns.map WData.int)] ∧ h.get? a = some { cls := .type "list", data := .seq vs.toArray } ∧ IntsAre vs ns ∧ ns.length ≤ n := by
  have i := (pre_splitW c).1
  have m : l.pre.holds [] { args := b } = true := (pre_splitW c).2
  obtain ⟨d, r, rfl, p, t⟩ := hasAllW_cons i
  obtain rfl := hasAllW_nil t
  obtain ⟨xs, rfl, s⟩ := hasW_list p
  obtain ⟨ns, rfl⟩ := items_int s
  have f : ns.length ≤ n := by
    unfold OpenLaw.pre at m
    have k : (WTm.not (.lt (.lit (.int (n : Int))) (.len (.arg 0)))).holds [] { args := [.list (ns.map .int)] } = true := by
      have k := (holds_andW m).1
      grind
    have h5 := condW_of k (w_not (w_lt w_lit (w_len_list (w_arg rfl))))
    grind
  cases j with
  | cons q u =>
    cases u
    cases q with
    | list o e => exact ⟨_, _, ns, rfl, rfl, o, ints_of_wellAll ns _ e, f⟩
theorem post_true (l : OpenLaw) (a : List WData) : l.row.toRowW.claim.post a (.bool true) a = true :=
  postW_of
    (show WShape.has [] (.bool true) .bool = true by first | rfl | decide | grind)
    (w_eq_bool (w_res rfl) w_lit) rfl
theorem attach_call {l : OpenLaw} {B : World → Heap → Prop} {d : DefRec}
    (P : l.most = some n) (v : d.params.defaults = [])
    (call : ∀ (w : World) (x b : Shared) (mg t : Str → Option Value) (h : Addr) (o : Obj) (z m c : Value) (a : Addr) (vs : List Value) (ns : List Int),
      Ground q e [] L w x mg t b.heap → B w b.heap →
      b.heap.get? h = some o → o.data = .func (docDef d.name d.params d.body d.scope z m c) → b.heap.CodeRec m d.name → mg d.name = some (.ref h) →
      b.heap.get? a = some { cls := .type "list", data := .seq vs.toArray } → IntsAre vs ns → ns.length ≤ n → b.gens = #[] →
      codeAny (model l.prog w) callerA (.call (.ref h) ⟨[.ref a], []⟩) (fun r s' => r = .ok (.ret (.bool true)) ∧ OldK b.heap s'.heap ∧ s'.os = b.os ∧ AllBare s'.gens) b) :
    WalkO q e L B l.row.toRowW d [] (fun f vs => PySem.call f vs) := by
  intro w x b mg t G Y h o z m c N E C I u A p H args vals as j hlay hrd y hlo
  obtain rfl : N = .none := Dflts.none A v
  obtain rfl : E = .none := Dflts.noKw A
  obtain ⟨a, vs, ns, rfl, rfl, k, g, i⟩ := script_of P j y
  refine enter_call (codeAny_mono (call w x b mg t h o z m c a vs ns G Y C (fd_plain I) u p k g i H) fun r s' O => ?_)
  obtain ⟨rfl, J, F, D⟩ := O
  exact ⟨.inl ⟨.bool true, .bool true, [], rfl, fun _ => rfl, .bool true, post_true l _, fun _ => ⟨List.Pairwise.nil, fun _ M => (nomatch M)⟩⟩, J, F, D⟩
end Att
namespace L2
open PySem PySem.Spec PyProof.Rows
theorem vals_ints : ∀ {vs : List Value} {ns : List Int}, IntsAre vs ns → Vals (ns.map V.int) vs
  | _, _, .nil => .nil
  | _, _, .cons n t h => .cons ⟨t, rfl⟩ (vals_ints h)
def Only (H : Hp) : Prop := ∀ b, H b = none ∨ ∃ o a, H b = some (.frz o (.lst a))
theorem law_call {K : PySem.W.Frag} {c : Shared} {vs : List Value}
    (X : K.In c.heap) (D : c.heap.Ns mainGlobals mg) (g : c.heap.Ns builtinsNs Y) (L : ∀ x : Str, x ≠ "__name__" → Y x = bootBuiltins x) (t : c.heap.NoLimit) (hg : c.gens = #[])
    (J : c.heap.get? a = some { cls := .type "list", data := .seq vs.toArray }) (Z : IntsAre vs ns) (hl : ns.length ≤ sizeLine) (hr : Room k callerA)
    (F : ∀ base : Heap, K.In base → base.Ns mainGlobals mg → FnOk P w K mg base CX k T fd [x] sp) (l : ∀ (s : Shared) (u : Value), BindsTo s fd ⟨[u], []⟩ [(x, u)])
    (N : ∀ H : Hp, Only H → SqL K H a (ns.map V.int) → sp [.ref a] H (fun v _ => v = .bl true) fun _ _ _ => False)
    (M : ∀ H e s', CX [] H c (fun _ _ _ => False) e s' → False) :
    codeAny (model P w) callerA (.call (.ref T) ⟨[.ref a], []⟩) (fun r s' => r = .ok (.ret (.bool true)) ∧ OldK c.heap s'.heap ∧ s'.os = c.os ∧ AllBare s'.gens) c := by
  have U := vals_ints Z
  have B := Z.length
  have j : ∀ H : Hp, Only H → SqL K H a (ns.map V.int) → HOk P w H c.heap → (∀ b, H b ≠ none → b = a) → (H a ≠ none → K.lookup a = none) →
      codeAny (model P w) callerA (.call (.ref T) ⟨[.ref a], []⟩) (fun r s' => r = .ok (.ret (.bool true)) ∧ OldK c.heap s'.heap ∧ s'.os = c.os ∧ AllBare s'.gens) c := by
    intro H hO hS C S hK
    have f : ∀ {b : Addr} {o : Obj}, c.heap.get? b = some o → H b = none → (hidT c.heap H).get? b = some o := fun e n => hidT_get e n
    have Q : ∀ {b : Addr} {o : Obj} {y : Array DictEntry} {A : Nat}, c.heap.get? b = some o → o.data = .dict y A → H b = none := fun {b o y A} e d => by
      cases q : H b with
      | none => rfl
      | some u =>
        have R : b = a := S b (by rw [q]; simp)
        subst R
        rw [J] at e; cases e
        have d' : Data.seq vs.toArray _ = Data.dict y A := d
        cases d'
    have i : ∀ {b : Addr} {m : Str → Option Value}, c.heap.Ns b m → (hidT c.heap H).Ns b m := fun {b m} ⟨o, y, A, e, d, r⟩ => ⟨o, y, A, f e (Q e d), d, r⟩
    have p : K.In (hidT c.heap H) := fun b o e => f (X b o e) (by
      cases q : H b with
      | none => rfl
      | some u =>
        have R : b = a := S b (by rw [q]; simp)
        subst R
        rw [hK (by rw [q]; simp)] at e; cases e)
    have hM : Mod K mg (hidT c.heap H) := ⟨p, i D, ⟨Y, i g, L⟩, let ⟨mc, h1, h2⟩ := t; ⟨mc, i h1, h2⟩⟩
    have e0 : Env0 P w K mg (hidT c.heap H) callerA [] c H := ⟨rfl, hM, fun b o e => of_hidT e, Nat.le_of_eq (hidT_size _ _), trivial, fun b g => absurd (show b ∈ ([] : List Addr) from g) (by simp), C, .of_eq hg⟩
    refine codeAny_mono ((F _ p (i D)).run callerA [] c H ⟨[.ref a], []⟩ [.ref a] [.ref a] _ _ hr e0 (l c (.ref a)) (.cons rfl .nil) (N H hO hS)) fun r s' h => ?_
    cases r with
    | error e => exact (M H e s' h).elim
    | ok fl =>
      cases fl with
      | next => exact False.elim h
      | brk => exact False.elim h
      | cont => exact False.elim h
      | ret u =>
        obtain ⟨v, H', os, G, un, E, r', q⟩ := h
        have q' : v = .bl true := q
        subst q'
        obtain rfl : u = Value.bool true := r'
        refine ⟨rfl, OldK.of_keep fun b o e => ?_, os, G⟩
        cases q : H b with
        | none => exact un.keep b o e q (by intro z; exact absurd (show b ∈ ([] : List Addr) from z) (by simp)) (by simp)
        | some u =>
          rcases hO b with z | ⟨ob, xs, z⟩
          · rw [q] at z; cases z
          · have z2 := un.frzs b ob _ z
            obtain ⟨e1, _⟩ := C b _ z
            obtain ⟨e2, _⟩ := E b _ z2
            rw [e] at e1; cases e1
            exact e2
  cases O : K.lookup a with
  | some o =>
    have e := X a o O
    rw [J] at e
    cases e
    refine j (fun _ => none) (fun _ => .inl rfl) (.inr ⟨_, vs.toArray, _, O, rfl, rfl, rfl, by rw [List.size_toArray, B]; exact hl, by simpa using U⟩) (fun b u z => by have I : (none : Option HO) = some u := z; cases I) (fun b z => absurd rfl z) fun z => absurd rfl z
  | none =>
    refine j (fun b => if b = a then some (.frz { cls := .type "list", data := .seq vs.toArray } (.lst (ns.map V.int))) else none) (fun b => ?_) (.inl (.inr ⟨{ cls := .type "list", data := .seq vs.toArray }, if_pos rfl⟩)) (fun b u z => ?_) (fun b z => ?_) fun _ => O
    · by_cases g : b = a
      · exact .inr ⟨_, _, if_pos g⟩
      · exact .inl (if_neg g)
    · by_cases g : b = a
      · have I := (if_pos g).symm.trans z
        cases I
        subst g
        exact ⟨J, by rw [List.length_map]; exact hl, vs, _, U, J⟩
      · have I := (if_neg g).symm.trans z
        cases I
    · by_cases g : b = a
      · exact g
      · exact absurd (if_neg g) z
end L2
namespace L2
open PySem PySem.Spec PyProof.Rows
theorem walk_of {l : PySem.W.OpenLaw} {D : World → Heap → Prop} {d : DefRec} {K : Params → PySem.W.Frag} {CX : World → CXT} {sp : World → Sp}
    (hn : l.most = some n) (z : n ≤ sizeLine) (r : d.params.defaults = []) (hr : Room k callerA)
    (hY : ∀ (w : World) (h : Heap), D w h → (K w.params).In h)
    (F : ∀ (w : World) (mg : Str → Option Value) (p : Addr) (h : Heap), (K w.params).In h → h.Ns mainGlobals mg → mg d.name = some (.ref p) →
      ∃ y : FuncData, (∀ (s : Shared) (u : Value), BindsTo s y ⟨[u], []⟩ [(x, u)]) ∧
        ∀ base : Heap, (K w.params).In base → base.Ns mainGlobals mg → FnOk l.prog w (K w.params) mg base (CX w) k p y [x] (sp w))
    (t : ∀ (w : World) (H : Hp) (a : Addr) (ns : List Int), ns.length ≤ n → Only H → SqL (K w.params) H a (ns.map V.int) → sp w [.ref a] H (fun v _ => v = .bl true) fun _ _ _ => False)
    (B : ∀ (w : World) (H : Hp) (s : Shared) (e : Value) (s' : Shared), CX w [] H s (fun _ _ _ => False) e s' → False) :
    PySem.W.WalkO q loose XP D l.row.toRowW d [] (fun f vs => PySem.call f vs) := by
  refine Att.attach_call hn r fun w s₀ s₁ mg mb p o pm cd doc a vs ns G Y ho hd hcd A m j i hg => ?_
  have C := hY w _ Y
  obtain ⟨y, hb, hF⟩ := F w mg p _ C G.T.g A
  exact law_call C G.T.g G.T.b G.T.builtins G.T.nolimit hg m j (Nat.le_trans i z) hr hF hb (fun H hO E => t w H a ns i hO E) fun H e s' => B w H s₁ e s'
end L2
namespace L2
open PySem PySem.Spec PyProof.Rows
def inClass (s : Stmt) (j : Nat) : Stmt := match s with
  | .ClassDef _ _ _ b _ _ _ _ _ _ _ => b.getD j (.Pass ⟨0, 0, 0, 0⟩)
  | _ => .Pass ⟨0, 0, 0, 0⟩
def defArgs (s : Stmt) : Arguments := match s with
  | .FunctionDef _ a _ _ _ _ _ _ _ _ => a
  | _ => { posonlyargs := [], args := [], vararg := none, kwonlyargs := [], kw_defaults := [], kwarg := none, defaults := [] }
def defBody (s : Stmt) : List Stmt := match s with
  | .FunctionDef _ _ b _ _ _ _ _ _ _ => b
  | _ => []
def defScope (s : Stmt) : Scope := match s with
  | .FunctionDef _ _ _ _ _ _ a _ _ _ => a
  | _ => { kind := .function, names := [], isGenerator := false, isCoroutine := false }
abbrev CX0 : CXT := fun _ _ _ _ _ _ => False
abbrev E0 : XK := fun _ _ _ => False
theorem pass0 : Passes CX0 X E0 := fun _ _ _ _ _ _ _ h => h.elim
structure Fun (K : PySem.W.Frag) (x qual : Str) (st : Stmt) (f : Addr) (fd : FuncData) : Prop where
  ex : ∃ (oc : Value) (od : Option Addr) (kV doc pm : Value) (an : Option Addr) (cdv ct : Value) (osl : Array (Option Value)),
    fd = PySem.W.fnOf x qual (defArgs st) (defBody st) (defScope st) .none kV doc pm an cdv ct ∧ K.lookup f = some ⟨oc, od, .func fd, osl⟩ ∧ PySem.W.codeIn K cdv qual = true
  kp : PySem.W.keepIn K (.ref f) = true
section
variable {P : Program} {w : World} {K : PySem.W.Frag} {mg : Str → Option Value} {base : Heap}
theorem Fun.ok {x c : Str} {st : Stmt} {f : Addr} {l : FuncData} {N ps : List Str} {k : Nat} {sp : Sp} (F : Fun K x c st f l) (S : FnScope N ps (defScope st)) (i : ∀ vs H Q E, sp vs H Q E → vs.length = ps.length)
    (e : ∀ (d : Value) (A : Around) (b : List Env) (s : Shared) (H : Hp) (vs : List V) (Q : VK) (E : XK), Room k (A.deeper (envOfC c (defScope st) s.heap.objs.size f d)) → sp vs H Q E →
      ∃ t, PSs (cxOf CX0 P w K mg base N c (defScope st) f d A b s H E).nox (defBody st) t ∧ t { nx := fun _ H' => Q .non H', rt := Q } (start N vs) H) : FnOk P w K mg base CX0 (k + 1) f l ps sp := by
  obtain ⟨oc, od, kV, doc, pm, an, d, ct, osl, rfl, n, j⟩ := F.ex
  refine fn_of n j S i fun A b s H vs Q E m g => ?_
  obtain ⟨t, h, q⟩ := e d A b s H vs Q E m g
  exact ⟨t, h.nox, q⟩
theorem Fun.binds {x b : Str} {st : Stmt} {f : Addr} {j : FuncData} {ps : List Str} (F : Fun K x b st f j)
    (h : ∀ (kV d g : Value) (i : Option Addr) (c e : Value) (us : List Value), us.length = ps.length → bindArgs (PySem.W.fnOf x b (defArgs st) (defBody st) (defScope st) .none kV d g i c e) ⟨us, []⟩ = pure (ps.zip us)) : Binds K j ps [] := by
  obtain ⟨oc, od, kV, d, g, i, c, e, osl, rfl, lk, hcd⟩ := F.ex
  exact .all (h kV d g i c e)
theorem fun_mk {x a : Str} {st : Stmt} {f : Addr} {j : Value} {od i : Option Addr} {e : Array (Option Value)} {kV d g b h : Value} (l : K.lookup f = some ⟨j, od, .func (PySem.W.fnOf x a (defArgs st) (defBody st) (defScope st) .none kV d g i b h), e⟩)
    (c : PySem.W.codeIn K b a = true) (k : PySem.W.keepIn K (.ref f) = true) : Fun K x a st f (PySem.W.fnOf x a (defArgs st) (defBody st) (defScope st) .none kV d g i b h) := ⟨⟨j, od, kV, d, g, i, b, h, e, rfl, l, c⟩, k⟩
end
theorem hu_of (a : Room k A) : A.units + 1 < cLine := Nat.lt_of_le_of_lt (Nat.add_le_add_left (by decide : 1 ≤ 64) _) a.units
theorem small1000 (h : n ≤ 1000) : n < sizeLine := Nat.lt_of_le_of_lt h (by decide)
section
variable {X : Cx}
theorem pv (i : Nat) (b : X.N[i]? = some x := by rfl) (d : Vis X.env.scope x := by first | exact Or.inl rfl | exact Or.inr (Or.inl rfl) | exact Or.inr (Or.inr rfl)) (c : (x == ("__debug__" : Str)) = false := by decide)
    (a : (x == ("__classdict__" : Str)) = false := by decide) : PE X (.Name x pos) (tVar i) := pe_var b d c a
end
theorem iteF {A B : Prop} (h : B) : if false = true then A else B := by
  grind
theorem iteT {A B : Prop} (h : A) : if true = true then A else B := by
  grind
def Same (H H' : Hp) : Prop := ∀ b o, H b = some o → H' b = some o
theorem Same.refl (H : Hp) : Same H H := fun _ _ h => h
theorem Same.trans (a : Same H d) (b : Same d e) : Same H e := fun c o h => b c o (a c o h)
theorem Same.free (e : Same H H') (h : H' l = Option.none) : H l = Option.none := by
  cases q : H l with
  | none => rfl
  | some o =>
    rw [e l o q] at h
    cases h
theorem Same.seq {K : PySem.W.Frag} {H H' : Hp} {a : Addr} {xs : List V} (e : Same H H') (h : SqL K H a xs) : SqL K H' a xs := by
  rcases h with (h | ⟨o, h⟩) | h
  · exact .inl (.inl (e _ _ h))
  · exact .inl (.inr ⟨o, e _ _ h⟩)
  · exact .inr h
end L2
namespace L2
open PySem
section
variable {prog : Program} {w : World} {A : Around} {R : Result → Shared → Prop} {s : Shared}
theorem noted_false {α : Type} {t : Sem α} {Q b : α → Shared → Prop} (h : wpAny M A t Q (fun _ _ => False) s) (c : ∀ a s, Q a s → b a s) : wpAny M A t b (notedBy M A env E) s :=
  wpAny_mono h c fun _ _ z => z.elim
theorem compLoop_gen (I : Nat → Shared → Prop)
    (d : ∀ n s, I n s → wpAny (model prog w) A (pyNext k) (fun r j => match r with
      | none => R (.ok .next) j
      | some v => wpAny (model prog w) A (letOwnedTupleGo a k v) (fun _ o => wpAny (model prog w) A (assign a env v) (fun _ t =>
          wpAny (model prog w) A (forIn f true fun c r => if r = true then do let i ← isTrue c env (eval c env); pure (ForInStep.yield i) else pure (ForInStep.yield r)) (fun i l =>
            if i = true then wpAny (model prog w) A (eval g env) (fun x u =>
              wpAny (model prog w) A (call (.builtin "list.append") [acc, x]) (fun _ y => ∃ m, m < n ∧ I m y) (fun _ _ => False) u) (fun _ _ => False) l
            else ∃ m, m < n ∧ I m l) (fun _ _ => False) t) (fun _ _ => False) o) (fun _ _ => False) j) (fun _ _ => False) s)
    (n : Nat) (h : I n s) : codeAny (model prog w) A (.compLoop (.ListComp g [⟨a, e, f, 0⟩] b pos) 0 k acc env) R s := by
  refine codeAny_loop rfl I (fun n s B => ?_) n h
  show wpAny _ A ((compTurn (.ListComp g [⟨a, e, f, 0⟩] b pos) 0 k acc env).onRaise (fun x => do noteFrame x env; theTreesLotGoes x)) _ _ s
  refine wpAny_noted ?_
  rw [compTurn_list]
  refine wpAny_bind (wpAny_standAt (wpAny_bind (noted_false (d n s B) fun r j q => ?_)))
  cases r with
  | none => exact wpAny_pure q
  | some v =>
    refine wpAny_bind (noted_false q fun _ o D => ?_)
    refine wpAny_bind (noted_false D fun _ t z => wpAny_bind (noted_false z fun i l p => ?_))
    cases i with
    | false => exact wpAny_pure ⟨rfl, p⟩
    | true =>
      exact wpAny_bind (wpAny_bind (noted_false p fun x u E => wpAny_bind (noted_false E fun _ y C => wpAny_pure (wpAny_pure ⟨rfl, C⟩))))
end
def closL (env : Env) : List (Str × NameKind) → List (Str × Addr) → List (Str × Addr)
  | [], a => a
  | (n, k) :: r, a => if k == .free then closL env r ((n, (env.cells.lookup n).getD 0) :: a) else closL env r a
theorem closureFor_eq {scope : Scope} {env : Env} (h : ∀ y ∈ scope.names, y.2 = .free → ∃ c, env.cells.lookup y.1 = some c) : closureFor scope env = pure (closL env scope.names []) := by
  unfold closureFor
  generalize scope.names = l at h
  have go : ∀ (l : List (Str × NameKind)) (acc : List (Str × Addr)), (∀ y ∈ l, y.2 = .free → ∃ c, env.cells.lookup y.1 = some c) →
     (forIn l acc (fun (x : Str × NameKind) (r : List (Str × Addr)) => match x with
        | (name, kind) => if (kind == NameKind.free) = true then (do let __do_lift ← cellOf env name; pure (ForInStep.yield ((name, __do_lift) :: r))) else pure (ForInStep.yield r)) : Sem (List (Str × Addr))) = pure (closL env l acc) := by
    intro l
    induction l with
    | nil => intro acc _; rfl
    | cons x r ih =>
      intro acc hl
      obtain ⟨n, k⟩ := x
      rw [List.forIn_cons]
      unfold closL
      by_cases hk : (k == NameKind.free) = true
      · obtain ⟨c, hc⟩ := hl (n, k) List.mem_cons_self (eq_of_beq hk)
        simp only [hk, if_true]
        have hc' : env.cells.lookup n = some c := hc
        unfold cellOf
        rw [hc']
        exact ih _ fun y hy => hl y (List.mem_cons_of_mem _ hy)
      · simp only [hk, if_false]
        exact ih _ fun y hy => hl y (List.mem_cons_of_mem _ hy)
  have e := go l [] h
  simp only [bind_pure]
  exact e
theorem closL_val {env : Env} : ∀ (l : List (Str × NameKind)) (acc : List (Str × Addr)), (∀ x c, acc.lookup x = some c → (env.cells.lookup x).getD 0 = c) → ∀ x c, (closL env l acc).lookup x = some c → (env.cells.lookup x).getD 0 = c
  | [], _, h, x, c, e => h x c e
  | (n, k) :: r, acc, h, x, c, e => by
    unfold closL at e
    by_cases a : (k == NameKind.free) = true
    · rw [if_pos a] at e
      refine closL_val r _ (fun y d q => ?_) x c e
      grind
    · rw [if_neg a] at e
      exact closL_val r acc h x c e
theorem closL_name : ∀ (l : List (Str × NameKind)) (acc : List (Str × Addr)) (x : Str) (c : Addr), (closL env l acc).lookup x = some c → (acc.lookup x).isSome = true ∨ (x, NameKind.free) ∈ l
  | [], _, x, c, e => .inl (by unfold closL at e; grind)
  | (n, k) :: r, acc, x, c, e => by
    unfold closL at e
    by_cases a : (k == NameKind.free) = true
    · rw [if_pos a] at e
      rcases closL_name r _ x c e with h | h
      · grind
      grind
    · rw [if_neg a] at e
      rcases closL_name r _ x c e with h | h
      · grind
      grind
theorem closL_has : ∀ (l : List (Str × NameKind)) (acc : List (Str × Addr)) (x : Str), ((acc.lookup x).isSome = true ∨ (x, NameKind.free) ∈ l) → ((closL env l acc).lookup x).isSome = true
  | [], _, x, h => by
    rcases h with h | h
    · exact h
    grind
  | (n, k) :: r, acc, x, h => by
    unfold closL
    by_cases a : (k == NameKind.free) = true
    · rw [if_pos a]
      refine closL_has r _ x ?_
      grind
    · rw [if_neg a]
      refine closL_has r _ x ?_
      grind
theorem relabel_free {env : Env} : ∀ {a : List (Str × NameKind)} {x : Str}, a.lookup x = some .free →
    (a.map fun (n, k) => if (k == NameKind.free && env.scope.kind == .function && env.kindOf n == some .cell) then (n, NameKind.cell) else (n, k)).lookup x = some .cell ∨
    (a.map fun (n, k) => if (k == NameKind.free && env.scope.kind == .function && env.kindOf n == some .cell) then (n, NameKind.cell) else (n, k)).lookup x = some .free
  | [], _, h => by simp at h
  | (n, k) :: r, x, h => by
    have ih := @relabel_free env r x
    grind
theorem relabel_out {env : Env} : ∀ {a : List (Str × NameKind)} {x : Str} {k : NameKind}, (k = .cell ∨ k = .free) →
    (a.map fun (n, k) => if (k == NameKind.free && env.scope.kind == .function && env.kindOf n == some .cell) then (n, NameKind.cell) else (n, k)).lookup x = some k → (x, NameKind.free) ∈ a ∨ (x, NameKind.cell) ∈ a
  | [], _, _, _, h => by simp at h
  | (n, k') :: r, x, k, b, h => by
    have ih := @relabel_out env r x k b
    grind
theorem cellsFrom_app : ∀ (l : List (Str × NameKind)) (n : Nat) (acc : List (Str × Addr)), cellsFrom n l acc = cellsFrom n l [] ++ acc
  | [], _, _ => rfl
  | (x, k) :: r, n, acc => by
    unfold cellsFrom
    split
    · rw [cellsFrom_app r (n + 1) ((x, n) :: acc), cellsFrom_app r (n + 1) [(x, n)]]; simp
    · exact cellsFrom_app r n acc
theorem cellsFrom_name : ∀ (l : List (Str × NameKind)) (n : Nat) (x : Str) (c : Addr), (x, c) ∈ cellsFrom n l [] → (x, NameKind.cell) ∈ l
  | [], _, _, _, h => by cases h
  | (y, k) :: r, n, x, c, h => by
    unfold cellsFrom at h
    split at h
    · rw [cellsFrom_app] at h
      rcases List.mem_append.mp h with h | h
      · exact List.mem_cons_of_mem _ (cellsFrom_name r _ x c h)
      grind
    · exact List.mem_cons_of_mem _ (cellsFrom_name r _ x c h)
theorem wpAny_newCompEnv {s : Shared} {a : Scope} {Q : Env → Shared → Prop}
    (j : ∀ h', h'.Ns s.heap.objs.size (fun _ => none) → (∀ b o, s.heap.get? b = some o → h'.get? b = some o) → CellsOk h' (s.heap.objs.size + 1) (cellsFrom (s.heap.objs.size + 1) a.names []) →
      Q (newEnv a s.heap.objs.size c (cellsFrom (s.heap.objs.size + 1) a.names d) g none .none (some f) builtinsNs) { s with heap := h' }) :
    wpAny M A (newFunctionEnv a c d [] g none .none (some f)) Q E s := by
  refine wpAny_bind (wpAny_alloc ?_)
  refine wpAny_bind (wpAny_layCells _ (fun name kind cells => by grind) _ _ _ _ ?_)
  have h := cellsFrom_ok a.names (s.heap.push { cls := .type "dict", data := .dict #[] }) (s.heap.objs.size + 1) [] ⟨fun _ _ i => (nomatch i), List.Pairwise.nil⟩ (by simp_all)
  rw [Heap.size_push] at h
  rw [Heap.size_push ..]
  refine wpAny_bind ?_
  rw [List.forIn_nil]
  exact wpAny_pure (wpAny_pure (j _ ((Heap.Ns.new s.heap (.type "dict")).keeps (pushCells_keeps _ _)) (fun b o e => pushCells_keeps _ _ b o (Heap.get?_push_of_some _ e)) h))
end L2
namespace L2
open PySem PySem.Spec PyProof.Rows
theorem HOk.track (x : HOk P w H h) (f : H a = none) (new : ObjOk P w (upd H a o) h a o) : HOk P w (upd H a o) h := fun b u e => by
  by_cases d : b = a
  · subst d; rw [upd_same] at e; grind
  · rw [upd_ne d] at e
    exact (x b u e).stay (fun c v _ q => q) (fun c q => by rw [upd_ne (ne_of_none q f)]; exact q) fun c xs q => by rw [upd_ne (ne_of_none q f)]; exact q
theorem Un.track (u : Un fs i H H' h h') (h0 : h.get? a = none) (e : H a = none) : Un fs i H (upd H' a o) h h' where
  keep := u.keep
  slot := u.slot
  free := fun b c q n f => by
    rw [upd_ne (fun z => by grind)]; exact u.free b c q n f
  there := u.there
  tups := fun b d q => by rw [upd_ne (ne_of_none q e)]; exact u.tups b d q
  frzs := fun b c d q => by rw [upd_ne (ne_of_none q e)]; exact u.frzs b c d q
  tbls := fun b g q => by rw [upd_ne (ne_of_none q e)]; exact u.tbls b g q
def nIn (N : List Str) (own : List Str) (ix : List Nat) : List Str := own ++ ix.map fun j => N.getD j Str.empty
def σIn (σ : St) (n : Nat) (ix : List Nat) : St := List.replicate n none ++ ix.map fun j => (σ[j]?).getD none
def cxIn (X : Cx) (a : Scope) (own : List Str) (ix : List Nat) (C : Addr) (s : Shared) (H : Hp) (fp : List Addr) : Cx :=
  { X with N := nIn X.N own ix, s₀ := s, H₀ := H, env := compEnvC a (cellsFrom (C + 1) a.names (closL X.env a.names [])) C X.env, outer := X.stack, stack := X.stack, ex := fp, fn := fun x => a.names.lookup x == some .cell, pn := [] }
def compOk (b : Scope) (c : List Str) (a : Scope) (ix : List Nat) : Bool :=
  a.kind == .function &&
  (a.names.all fun y => (y.2 != .cell || a.names.lookup y.1 == some .cell) && (y.2 != .local || a.names.lookup y.1 == some .local) && (y.2 != .free || (b.names.lookup y.1 == some .cell || b.names.lookup y.1 == some .free))) &&
  ix.all fun j => match c[j]? with
    | some x => a.names.lookup x == some .free
    | none => false
structure CompSc (osc : Scope) (oN : List Str) (scope : Scope) (ix : List Nat) : Prop where
  kind : scope.kind = .function
  clk : ∀ y ∈ scope.names, y.2 = .cell → scope.names.lookup y.1 = some .cell
  nm : ∀ y ∈ scope.names, y.2 = .local → scope.names.lookup y.1 = some .local
  fr : ∀ y ∈ scope.names, y.2 = .free → osc.names.lookup y.1 = some .cell ∨ osc.names.lookup y.1 = some .free
  ix : ∀ j ∈ ix, ∃ x, oN[j]? = some x ∧ scope.names.lookup x = some .free
theorem compSc_of (h : compOk b d a ix = true) : CompSc b d a ix := by
  unfold compOk at h
  rw [Bool.and_eq_true, Bool.and_eq_true, List.all_eq_true] at h
  obtain ⟨⟨f, h2⟩, h3⟩ := h
  refine ⟨eq_of_beq f, fun y c e => ?_, fun y c e => ?_, fun y c e => ?_, fun j hj => ?_⟩
  · grind
  · grind
  · grind
  grind
section
variable {X : Cx} {pins : List (Addr × Obj)} {σ : St} {H : Hp} {s : Shared} {scope : Scope} {own : List Str} {ix : List Nat}
theorem clos_cells (I : Inv X pins σ H s) (a : CompSc X.env.scope X.N scope ix) : ∀ y ∈ scope.names, y.2 = .free → ∃ c, X.env.cells.lookup y.1 = some c := fun y b e => by
  rcases a.fr y b e with q | q
  · exact I.ok.has y.1 (.inl q)
  · exact I.ok.has y.1 (.inr q)
theorem clos_get (I : Inv X pins σ H s) (a : CompSc X.env.scope X.N scope ix) (e : (closL X.env scope.names []).lookup x = some c) : X.env.cells.lookup x = some c := by
  have h1 := closL_val scope.names [] (fun x c q => by simp at q) x c e
  rcases closL_name scope.names [] x c e with q | q
  · simp at q
  · obtain ⟨c', hc⟩ := clos_cells I a (x, .free) q rfl
    grind
theorem clos_has (I : Inv X pins σ H s) (d : CompSc X.env.scope X.N scope ix) (b : (x, NameKind.free) ∈ scope.names) (e : X.env.cells.lookup x = some c) : (closL X.env scope.names []).lookup x = some c := by
  have a := closL_has (env := X.env) scope.names [] x (.inr b)
  obtain ⟨c', f⟩ := Option.isSome_iff_exists.mp a
  have := clos_get I d f
  grind
theorem cells_get (I : Inv X pins σ H s) (a : CompSc X.env.scope X.N scope ix) (e : (cellsFrom (C + 1) scope.names (closL X.env scope.names [])).lookup x = some c) : (x, c) ∈ cellsFrom (C + 1) scope.names [] ∨ X.env.cells.lookup x = some c := by
  rw [cellsFrom_app, List.lookup_append] at e
  cases h : (cellsFrom (C + 1) scope.names []).lookup x with
  | some d => rw [h] at e; cases e; exact .inl (PySem.mem_of_lookup h)
  | none => rw [h] at e; exact .inr (clos_get I a e)
theorem σIn_get (h : (σIn σ n ix)[i]? = some (some v)) : ∃ j, ix[i - n]? = some j ∧ σ[j]? = some (some v) ∧ n ≤ i := by
  unfold σIn at h
  grind
theorem Inv.comp {h₁ : Heap} (I : Inv X pins σ H s) (f : CompSc X.env.scope X.N scope ix) (fo : ∀ b ∈ fp, FpOk X pins H b) (fex : ∀ b ∈ fp, b < s.heap.objs.size)
    (E : s.heap.objs.size ≤ C) (hns : h₁.Ns C m₀) (hk : ∀ b o, s.heap.get? b = some o → h₁.get? b = some o) (F : CellsOk h₁ (C + 1) (cellsFrom (C + 1) scope.names [])) : Inv (cxIn X scope own ix C s H fp) [] (σIn σ own.length ix) H { s with heap := h₁, toks := t' } := by
  have lt : ∀ {b : Addr}, b < s.heap.objs.size → b ≠ C := fun {b} n => Nat.ne_of_lt (Nat.lt_of_lt_of_le n E)
  have A : ∀ {x : Str} {c : Addr}, X.env.cells.lookup x = some c → c < C + 1 := fun {x c} e => by
    obtain ⟨v, q⟩ := I.cell x c e
    exact Nat.lt_succ_of_lt (Nat.lt_of_lt_of_le q.lt E)
  have g : ∀ {x : Str} {c : Addr}, X.env.cells.lookup x = some c → ∀ v, s.heap.IsCell c v → h₁.IsCell c v := fun {x c} _ v ⟨o, ho, hd⟩ => ⟨o, hk _ _ ho, hd⟩
  refine ⟨⟨I.ok.mod, f.kind, I.ok.glob, I.ok.blt, E, fun x y c h1 h2 => ?_, fun x hx => ?_, fun x c h e => by
    have h' : scope.names.lookup x = some .cell := eq_of_beq h
    have e' : (cellsFrom (C + 1) scope.names (closL X.env scope.names [])).lookup x = some c := e
    rw [cellsFrom_app, List.lookup_append] at e'
    obtain ⟨d, hd⟩ := Option.isSome_iff_exists.mp (PySem.W.cellsFrom_some scope.names (C + 1) [] (.inl h'))
    rw [hd] at e'
    cases e'
    exact Nat.le_trans E (Nat.le_of_succ_le (F.empty _ _ (PySem.mem_of_lookup hd)).2), I.ok.hd, I.ok.frames, .inl rfl, fun b n => ?_, I.bs, Nat.le_trans I.ok.bsz I.sz, fun b o e n => ?_, fun b n z => ?_, I.stack, I.stkFree⟩,
    rfl, I.bare, Un.kept hk, ⟨m₀, hns, fun i x v h1 h2 h3 => ?_⟩, fun x c h => ?_, I.hok.fresh E, fun x c h => ?_, fun p hp => ?_, I.hok.kept hk, ?_⟩
  · rcases cells_get I f h1 with q1 | q1
    · rcases cells_get I f h2 with G | G
      · exact name_of_addr F.apart q1 G
      · exact absurd (Nat.lt_of_lt_of_le (A G) (F.empty _ _ q1).2) (Nat.lt_irrefl _)
    · rcases cells_get I f h2 with G | G
      · exact absurd (Nat.lt_of_lt_of_le (A q1) (F.empty _ _ G).2) (Nat.lt_irrefl _)
      · exact I.ok.inj x y c q1 G
  · have k : (x, NameKind.free) ∈ scope.names ∨ (x, NameKind.cell) ∈ scope.names := by
      rcases hx with hx | hx
      · exact relabel_out (env := X.env) (.inl rfl) hx
      · exact relabel_out (env := X.env) (.inr rfl) hx
    refine Option.isSome_iff_exists.mp ?_
    show ((cellsFrom (C + 1) scope.names (closL X.env scope.names [])).lookup x).isSome = true
    rcases k with k | k
    · exact PySem.W.cellsFrom_some _ _ _ (.inr (closL_has (env := X.env) scope.names [] x (.inr k)))
    · exact PySem.W.cellsFrom_some _ _ _ (.inl (f.clk _ k rfl))
  · obtain ⟨f0, f1, f2, f3, f4, f5⟩ := fo b n
    refine ⟨lt (fex b n), fun x c h => ?_⟩
    rcases cells_get I f h with q | q
    · exact fun z => absurd (Nat.lt_of_lt_of_le (fex b n) (Nat.le_trans E (Nat.le_of_succ_le (z ▸ (F.empty _ _ q).2)))) (Nat.lt_irrefl _)
    · exact f4 x c q
  · obtain ⟨f0, f1, f2, f3, f4, f5⟩ := fo b n
    rcases f3 with z | z
    · exact I.ok.noex b o e z
    · exact absurd (Nat.lt_of_lt_of_le (Heap.lt_size e) (Nat.le_trans I.ok.bsz z)) (Nat.lt_irrefl _)
  · obtain ⟨f0, f1, f2, f3, f4, f5⟩ := fo b n
    rcases List.mem_cons.mp (I.stkSub b z) with z | z
    · exact f1 z
    · exact f2 z
  · obtain ⟨j, hj, hv, hn⟩ := σIn_get h2
    obtain ⟨y, hy, hf⟩ := f.ix j (List.mem_of_getElem? hj)
    have e : y = x := by
      have D : (nIn X.N own ix)[i]? = some x := h1
      unfold nIn at D
      rw [List.getElem?_append_right hn, List.getElem?_map, hj] at D
      have t : X.N.getD j Str.empty = x := Option.some.inj D
      rw [List.getD_eq_getElem?_getD, hy] at t
      exact t
    subst e
    have k : (y, NameKind.free) ∈ scope.names := PySem.mem_of_lookup hf
    have vis : Vis X.env.scope y := by
      rcases f.fr _ k rfl with q | q
      · exact .inr (.inl q)
      · exact .inr (.inr q)
    obtain ⟨m, _, hl⟩ := I.loc
    obtain ⟨u, r, l⟩ := hl j y v hy hv vis
    refine ⟨u, r, ?_⟩
    rcases l with ⟨hk', _⟩ | ⟨_, c, hc, J⟩
    · have w : X.env.scope.names.lookup y = some .local := hk'
      rcases f.fr _ k rfl with q | q
      · have B : X.env.scope.names.lookup y = some .cell := q
        rw [w] at B; cases B
      · have B : X.env.scope.names.lookup y = some .free := q
        rw [w] at B; cases B
    · refine .inr ⟨relabel_free (env := X.env) hf, c, ?_, g hc _ J⟩
      show (cellsFrom (C + 1) scope.names (closL X.env scope.names [])).lookup y = some c
      rw [cellsFrom_app, List.lookup_append, clos_has I f k hc]
      cases e : (cellsFrom (C + 1) scope.names []).lookup y with
      | none => rfl
      | some d =>
        have q := f.clk _ (cellsFrom_name _ _ _ _ (PySem.mem_of_lookup e)) rfl
        have B : scope.names.lookup y = some .cell := q
        rw [hf] at B; cases B
  · rcases cells_get I f h with q | q
    · exact ⟨_, (F.empty _ _ q).1⟩
    · obtain ⟨v, z⟩ := I.cell x c q
      exact ⟨v, g q v z⟩
  · rcases cells_get I f h with q | q
    · exact I.hok.fresh (Nat.le_trans E (Nat.le_of_succ_le (F.empty _ _ q).2))
    · exact I.freeC x c q
  · exact absurd (show p ∈ ([] : List (Addr × Obj)) from hp) (by simp)
  · show (σIn σ own.length ix).length = (nIn X.N own ix).length
    unfold σIn nIn
    simp
end
def PIfs (X : Cx) (b : List Expr) (t : TT) : Prop :=
  ∀ (a : List (Addr × Obj)) (s : Shared) (σ : St) (H : Hp) (Q : Bool → Hp → Prop), Inv X a σ H s → t σ H Q →
    wpAny (model X.prog X.w) X.A (forIn b true fun c r => if r = true then do let d ← isTrue c X.env (eval c X.env); pure (ForInStep.yield d) else pure (ForInStep.yield r)) (TP X a σ Q) X.xe s
def tIf0 : TT := fun _ H Q => Q true H
theorem pif_nil : PIfs X [] tIf0 := fun _ _ _ H _ I h => wpAny_tests_nil ⟨H, I, h⟩
theorem pif_one (h : PT X c t) : PIfs X [c] t := fun a s σ H Q I q => wpAny_tests_one (h a s σ H Q I q)
def rComp (n : Nat) (ix : List Nat) (g : TG) (s : TT) (te : TE) (σ : St) (Q : VK) (J : It) (q : Hp) : Prop :=
  ∃ W : Nat → Nat → List V → St → Hp → Prop, (∃ m, W 0 m [] (σIn σ n ix) q) ∧ ∀ i m c k a, W i m c k a →
    (J.stop i a ∧ c.length ≤ sizeLine ∧ ∀ p, a p = none → Q (.ref p) (upd a p (.lst c))) ∨
    (J.go i a ∧ c.length < sizeLine ∧ ∃ N : List V → St → Hp → Prop, (∀ d h o, N d h o → ∃ j, j < m ∧ W (i + 1) j d h o) ∧
      ∀ x l, J.yld i a x l → g x k l fun e t => s e t fun b f => if b = true then te e f fun y r => N (c ++ [y]) e r else N c e f)
def tComp (n : Nat) (ix : List Nat) (a : TI) (g : TG) (b : TT) (te : TE) : TE := fun σ H Q => a σ H (rComp n ix g b te σ Q)
def BEnd (X : Cx) (a : List (Addr × Obj)) (σ : St) (Q : VK) (acc : Value) (C : Addr) (s' : Shared) : Prop :=
  ∃ p b, acc = .ref p ∧ Inv X a σ b s' ∧ (∃ m, s'.heap.Ns C m) ∧ FpOk X a b C ∧ Q (.ref p) b
theorem thx {X : Cx} {α : Type} {t : Sem α} {Q b : α → Shared → Prop} (hx : X.xe = fun _ _ => False) (h : wpAny M A t Q X.xe s) (c : ∀ a s, Q a s → b a s) : wpAny M A t b E s :=
  wpAny_mono h c fun e s' z => by grind
section
variable {X : Cx} {elt tg iter : Expr} {ifs : List Expr} {scope : Scope} {pos : Pos} {own : List Str} {ix : List Nat} {wi : TI} {g : TG} {tc : TT} {te : TE}
theorem comp_block {RR : Value → Addr → Result → Shared → Prop}
    (hx : X.xe = fun _ _ => False) (hc : X.calm = true) (sc : CompSc X.env.scope X.N scope ix) (I : Inv X Z σ H s) (T : Turn X.prog X.w X.K tg J fp it tn) (st : tn 0 s.heap) (fo : ∀ b ∈ fp, FpOk X Z H b)
    (hg : ∀ C s H fp, PG (cxIn X scope own ix C s H fp) tg g) (hif : ∀ C s H fp, PIfs (cxIn X scope own ix C s H fp) ifs tc) (he : ∀ C s H fp, PE (cxIn X scope own ix C s H fp) elt te)
    (rd : rComp own.length ix g tc te σ Q J H) (hRR : ∀ acc C s', BEnd X Z σ Q acc C s' → RR acc C (.ok .next) s') :
    wpAny (model X.prog X.w) X.A (newList []) (fun acc s₃ => wpAny (model X.prog X.w) X.A (newFunctionEnv scope X.env.globals (closL X.env scope.names []) [] X.env.qual none .none (some X.env)) (fun Y s₄ =>
      codeAny (model X.prog X.w) X.A (.compStart (.ListComp elt [⟨tg, iter, ifs, 0⟩] scope pos) 0 (.ref it) acc { Y with scope := relabel scope X.env }) (RR acc Y.locals) s₄) E s₃) E s := by
  refine wpAny_newObj_type (wpAny_newCompEnv (fun h₁ B m co => ?_))
  dsimp only at B m co ⊢
  generalize l : s.heap.objs.size = D at B m co ⊢
  generalize hH2 : s.heap.push { cls := .type "list", dict := none, data := .seq ([] : List Value).toArray } = G at B m co ⊢
  generalize hC' : G.objs.size = C at B m co ⊢
  have hC : C = D + 1 := by rw [← hC', ← hH2, Heap.size_push, l]
  have hDC : D ≠ C := by rw [hC]; exact Nat.ne_of_lt (Nat.lt_succ_self _)
  have hle : s.heap.objs.size ≤ C := by rw [hC, l]; exact Nat.le_succ _
  have old : ∀ b o, s.heap.get? b = some o → h₁.get? b = some o := fun b o e => by
    exact m b o (hH2 ▸ Heap.get?_push_of_some _ e)
  have oD : h₁.get? D = some { cls := .type "list", data := .seq ([] : List Value).toArray 0 } := by
    refine m D _ ?_
    rw [← hH2, ← l]
    exact Heap.get?_push_size _ rfl
  have fex : ∀ b ∈ fp, b < s.heap.objs.size := fun b j => by
    obtain ⟨o, e, _⟩ := T.obj 0 _ st b j
    exact Heap.lt_size e
  have nDf : ∀ b ∈ fp, b ≠ D := fun b j => by rw [← l]; exact Nat.ne_of_lt (fex b j)
  have sD : s.heap.get? D = none := by
    cases e : s.heap.get? D with
    | none => rfl
    | some o => exact absurd (Heap.lt_size e) (by rw [l]; exact Nat.lt_irrefl _)
  have hDn : H D = none := I.hok.fresh (by rw [l]; exact Nat.le_refl _)
  have I0 : Inv (cxIn X scope own ix C s H fp) [] (σIn σ own.length ix) H { s with heap := h₁ } := I.comp sc fo fex hle B old co
  have st0 : tn 0 h₁ := T.keep 0 _ _ st fun b _ o e => old b o e
  have hx' : (cxIn X scope own ix C s H fp).xe = fun _ _ => False := hx
  have U : D ≠ (cxIn X scope own ix C s H fp).env.locals := hDC
  have Dex : D ∈ (cxIn X scope own ix C s H fp).ex ∨ (cxIn X scope own ix C s H fp).s₀.heap.objs.size ≤ D := .inr (by show s.heap.objs.size ≤ D; rw [l]; exact Nat.le_refl _)
  have Dfs : D ∉ (cxIn X scope own ix C s H fp).fs := I0.nofs (a := D) |> fun k => fun z => by
    have z' : D ∈ frs X.stack := z
    rcases List.mem_cons.mp (I.stkSub D z') with q | q
    · exact absurd (q ▸ I.lt) (by rw [l]; exact Nat.lt_irrefl _)
    · exact I.nofs (by rw [l]; exact Nat.le_refl _) q
  have Dcell : ∀ x c, (cxIn X scope own ix C s H fp).env.cells.lookup x = some c → c ≠ D := fun x c e z => by
    rcases cells_get I sc e with q | q
    · have w1 := (co.empty _ _ q).2
      rw [z, hC] at w1
      lia
    · obtain ⟨v, q⟩ := I.cell x c q
      exact absurd (Nat.lt_of_lt_of_le q.lt (by rw [z, l]; exact Nat.le_refl _)) (Nat.lt_irrefl _)
  have fo' : ∀ {P : Hp} {pl : List (Addr × Obj)}, (∀ b ∈ fp, P b = none) → (∀ p ∈ pl, p.1 = D) → ∀ b ∈ fp, FpOk (cxIn X scope own ix C s H fp) pl P b := fun {P pl} hn L b j => by
    obtain ⟨f0, f1, f2, f3, f4, f5⟩ := fo b j
    refine ⟨hn b j, (I0.ok.exf b j).1, I0.ok.exfs b j, .inl j, (I0.ok.exf b j).2, fun p hp' z => ?_⟩
    rcases List.mem_append.mp hp' with q | q
    · exact absurd (show p ∈ ([] : List (Addr × Obj)) from q) (by simp)
    · exact nDf b j (by rw [← z]; exact L p q)
  obtain ⟨W, ⟨m0, w0⟩, step⟩ := rd
  have R : codeAny (model X.prog X.w) X.A (.compLoop (.ListComp elt [⟨tg, iter, ifs, 0⟩] scope pos) 0 (.ref it) (.ref D) (cxIn X scope own ix C s H fp).env) (RR (.ref D) C) { s with heap := h₁ } := by
    refine compLoop_gen (fun n s' => ∃ i M σ' P f k, Inv (cxIn X scope own ix C s H fp) [] σ' P s' ∧ tn i s'.heap ∧ (∀ b ∈ fp, P b = none) ∧ P D = none ∧ s'.heap.get? D = some { cls := .type "list", data := .seq (List.toArray f) k } ∧ Vals M f ∧ W i n M σ' P) ?_ m0
      ⟨0, [], _, H, [], 0, I0, st0, fun b j => (fo b j).1, hDn, oD, .nil, w0⟩
    rintro n s1 ⟨i, M, σ1, H1, f, k, I1, tn1, fr1, D1, o1, O, w1⟩
    have J1 : Inv (cxIn X scope own ix C s H fp) [(D, { cls := .type "list", data := .seq (List.toArray f) k })] σ1 H1 s1 := I1.pins_of fun p L => by
      have e : p = (D, { cls := .type "list", data := .seq (List.toArray f) k }) := by simpa using L
      subst e
      exact ⟨o1, D1, U, Dfs, fun v z => by cases z⟩
    have t : ∀ p ∈ [((D, { cls := .type "list", data := .seq (List.toArray f) k }) : Addr × Obj)], p.1 = D := fun p L => by
      have e : p = (D, { cls := .type "list", data := .seq (List.toArray f) k }) := by simpa using L
      rw [e]
    rcases step i n M σ1 H1 w1 with ⟨stop, hz, qn⟩ | ⟨go, hz, N, hN, stp⟩
    · refine thn (T.done (cxIn X scope own ix C s H fp) rfl rfl rfl hc i _ s1 σ1 H1 _ J1 (fo' fr1 t) tn1 stop) fun r s2 ⟨hr, I2⟩ => ?_
      subst hr
      obtain ⟨e2, _⟩ := I2.pin (D, { cls := .type "list", data := .seq (List.toArray f) k }) (List.mem_append_right _ (by simp))
      obtain ⟨m2, hns2, _⟩ := I2.loc
      refine hRR _ _ _ ⟨D, upd H1 D (.lst M), rfl, ?_, ⟨m2, hns2⟩, ?_, qn D D1⟩
      · refine I.call' (ch := fp) I2.os (Un.track I2.base sD hDn) (I2.hok.track D1 ⟨hz, f, k, O, e2⟩) I2.bare fun b j => ?_
        obtain ⟨f0, f1, f2, f3, f4, f5⟩ := fo b j
        exact ⟨f3, f1, f4, f5⟩
      · refine I.fpOk hle ?_
        rw [upd_ne hDC.symm]
        exact I2.free
    · refine thn (T.item (cxIn X scope own ix C s H fp) rfl rfl rfl hc i _ s1 σ1 H1 _ J1 (fo' fr1 t) tn1 go) fun r s2 ⟨u, hr, h2⟩ => ?_
      subst hr
      refine thn h2 ?_
      rintro _ s3 ⟨x, H3, I3, rx, y3, tn3, fr3⟩
      have I3' := I3.pinned (fo' fr3 t) (T.obj _ _ tn3)
      refine thx hx' (hg C s H fp _ s3 σ1 H3 x u _ I3' rx (stp x H3 y3)) ?_
      rintro _ s4 ⟨σ4, H4, I4, q4⟩
      refine thx hx' (hif C s H fp _ s4 σ4 H4 _ I4 q4) ?_
      rintro b s5 ⟨H5, I5, q5⟩
      have S : ∀ {σ7 : St} {H7 : Hp} {s7 : Shared}, Inv (cxIn X scope own ix C s H fp) ([(D, { cls := .type "list", data := .seq (List.toArray f) k })] ++ pinsAt fp s3.heap) σ7 H7 s7 →
          tn (i + 1) s7.heap ∧ (∀ b ∈ fp, H7 b = none) ∧ H7 D = none ∧ s7.heap.get? D = some { cls := .type "list", data := .seq (List.toArray f) k } := fun {σ7 H7 s7} I7 => by
        have pinD := I7.pin (D, { cls := .type "list", data := .seq (List.toArray f) k }) (List.mem_append_right _ (List.mem_append_left _ (by simp)))
        refine ⟨T.keep _ _ _ tn3 fun b j o e => (I7.pin (b, o) (List.mem_append_right _ (List.mem_append_right _ (mem_pinsAt j e)))).1, fun b j => ?_, pinD.2.1, pinD.1⟩
        obtain ⟨o, e, d⟩ := T.obj _ _ tn3 b j
        exact (I7.pin (b, o) (List.mem_append_right _ (List.mem_append_right _ (mem_pinsAt j e)))).2.1
      cases b with
      | false =>
        obtain ⟨m', hm, w'⟩ := hN _ _ _ (show N M σ4 H5 from q5)
        obtain ⟨b1, b2, b3, b4⟩ := S I5
        exact ⟨m', hm, i + 1, M, σ4, H5, f, k, I5.pins_of (fun p L => absurd L (by simp)), b1, b2, b3, b4, O, w'⟩
      | true =>
        rw [if_pos rfl]
        refine thx hx' (he C s H fp _ s5 σ4 H5 _ I5 q5) ?_
        rintro v s6 ⟨y, H6, I6, ry, q6⟩
        obtain ⟨m', hm, w'⟩ := hN _ _ _ q6
        obtain ⟨b1, b2, b3, b4⟩ := S I6
        have zl : f.length = M.length := O.length.symm
        refine call_meets F.slot_list_append ⟨_, b4, rfl⟩ F.entry_list_append (F.args_list_append_2 _ _) (PySem.list_append D f.toArray k v (by rw [List.size_toArray]; lia)) ⟨b4, ?_⟩
        have q := PySem.IsL.update b4 (fun xs => xs.push v)
        have keep : ∀ b o, b ≠ D → s6.heap.get? b = some o → (s6.heap.update D (Obj.mapSeq fun xs => xs.push v)).get? b = some o := fun b o j e => (Heap.get?_update_other s6.heap _ (Ne.symm j)).trans e
        refine ⟨m', hm, i + 1, M ++ [y], σ4, H6, f ++ [v], (if (f.toArray.push v).size == f.toArray.size then k else k + 1), ?_, T.keep _ _ _ b1 (fun b j o e => keep b o (nDf b j) e), b2, b3, ?_, O.append (.cons ry .nil), w'⟩
        · exact (I6.pins_of (pins' := []) fun p L => absurd L (by simp)).turned (t' := s6.toks) keep b3 U Dex Dcell fun p L => absurd (show p ∈ ([] : List (Addr × Obj)) from L) (by simp)
        · rw [show (f ++ [v]).toArray = f.toArray.push v by simp]
          exact q
  exact codeAny_compStart_list R (T.self X.A 0 _ _ _ st0 R)
theorem pe_comp (R : X.xe = fun _ _ => False) (w : X.calm = true) (L : compOk X.env.scope X.N scope ix = true) (F : PI X tg iter wi)
    (P : ∀ C s H fp, PG (cxIn X scope own ix C s H fp) tg g) (i : ∀ C s H fp, PIfs (cxIn X scope own ix C s H fp) ifs tc) (O : ∀ C s H fp, PE (cxIn X scope own ix C s H fp) elt te)
    (u : ∀ x, foldedSetIterable iter X.env x = pure x := by intro _; rfl) : PE X (.ListComp elt [⟨tg, iter, ifs, 0⟩] scope pos) (tComp own.length ix wi g tc te) := by
  intro a s σ H Q I h
  have c := compSc_of L
  refine wpAny_comprehension_free rfl u (closureFor_eq (clos_cells I c)) c.kind c.nm (thn (F a s σ H _ I h) fun v s1 E => thn E fun itv s2 l => ?_)
  obtain ⟨it, fp, tn, J, H2, e, B, T, f, k, M⟩ := l
  subst e
  refine comp_block R w c B T f k P i O M ?_
  rintro acc C s' ⟨p, y, rfl, r, ⟨m, j⟩, t, q⟩
  obtain ⟨D, G, k, n, S, z⟩ := t
  exact ⟨m, j, fun h' d => ⟨.ref p, y, r.turned (fun b o A e => (d.2 b A).trans e) D G n S z, rfl, q⟩⟩
theorem ps_comp {f : Pos} (hN : X.N.Nodup) (z : X.N[i]? = some x) (j : X.env.scope.names.lookup x = some .local) (Z : X.xe = fun _ _ => False) (hc : X.calm = true) (Y : compOk X.env.scope X.N scope ix = true) (hi : PI X tg iter wi)
    (P : ∀ C s H fp, PG (cxIn X scope own ix C s H fp) tg g) (t : ∀ C s H fp, PIfs (cxIn X scope own ix C s H fp) ifs tc) (he : ∀ C s H fp, PE (cxIn X scope own ix C s H fp) elt te)
    (u : swapsWith (.ListComp elt [⟨tg, iter, ifs, 0⟩] scope pos) (some (.Name x c)) f.line X.env = pure true := by rfl)
    (hs : ∀ x, foldedSetIterable iter X.env x = pure x := by intro _; rfl) : PS X (.Assign [.Name x c] (.ListComp elt [⟨tg, iter, ifs, 0⟩] scope pos) f) (tAsg (tComp own.length ix wi g tc te) (gName i)) := by
  intro d s σ H D I h
  have n := compSc_of Y
  rw [exec_Assign_Name_used _ _ _ _ u]
  refine wpAny_bind (wpAny_standAt (wpAny_bind ?_))
  refine wpAny_bind (wpAny_mono (wpAny_comprehension_free (use := some (assign (.Name x c) X.env)) (Q := fun _ k => SP X d D .next k) rfl hs (closureFor_eq (clos_cells I n)) n.kind n.nm
    (thn (hi d s σ H _ I h) fun v s1 h1 => thn h1 fun itv s2 W => ?_)) (fun _ k hq => wpAny_pure (wpAny_pure hq)) fun _ _ e => e)
  obtain ⟨it, fp, tn, J, H2, e, O, T, E, M, rd⟩ := W
  subst e
  refine comp_block (RR := fun l C => compPost (model X.prog X.w) X.A X.xe (some (assign (.Name x c) X.env)) (fun _ k => SP X d D .next k) l C) Z hc n O T E M P t he rd ?_
  rintro l C k ⟨p, H', rfl, R, ⟨m, y⟩, fC, q⟩
  obtain ⟨f0, U, M, f3, S, f5⟩ := fC
  show wpAny _ X.A (assign (.Name x c) X.env (.ref p)) _ _ _
  refine wpAny_assign_Name (store_ok2 (v := .ref p) R hN z (.inl j) rfl (?_) (.inr j))
  rintro L r ⟨a, B, ha⟩
  have G : C ≠ a := by
    grind
  exact ⟨m, y.sameBut B G, fun h' F => ⟨_, H', r.turned (t' := L.toks) (fun b o hb e => (F.2 b hb).trans e) f0 U f3 S f5, q⟩⟩
end
section
variable {n : Nat} {ix : List Nat} {g : TG} {tc : TT} {te : TE} {σ : St} {Q : VK} {H : Hp}
theorem comp_list {K : PySem.W.Frag} {a : Addr} {xs : List V} (Pv : Nat → List V → St → Hp → Prop) (h0 : Pv 0 [] (σIn σ n ix) H) (hl : ∀ i ys σ H, i ≤ xs.length → Pv i ys σ H → SqL K H a xs ∧ ys.length ≤ i) (hz : xs.length < sizeLine)
    (hs : ∀ i x ys σ H, xs[i]? = some x → Pv i ys σ H → g x σ H fun σ4 H4 => tc σ4 H4 fun b H5 => if b = true then te σ4 H5 fun y H6 => Pv (i + 1) (ys ++ [y]) σ4 H6 else Pv (i + 1) ys σ4 H5)
    (hd : ∀ ys σ H, Pv xs.length ys σ H → ∀ p, H p = none → Q (.ref p) (upd H p (.lst ys))) : rComp n ix g tc te σ Q (Itl K a) H := by
  refine ⟨fun i m ys σ H => m = xs.length - i ∧ i ≤ xs.length ∧ Pv i ys σ H, ⟨xs.length, by simp, Nat.zero_le _, h0⟩, ?_⟩
  rintro i m ys σ H ⟨rfl, hi, p⟩
  obtain ⟨q, hy⟩ := hl i ys σ H hi p
  by_cases hlt : i < xs.length
  · refine .inr ⟨⟨xs, xs[i], q, by simp [hlt]⟩, by omega, Pv (i + 1), fun ys' σ' H' p' => ⟨xs.length - (i + 1), by omega, rfl, hlt, p'⟩, fun x H' y => ?_⟩
    obtain ⟨e, y⟩ := y
    subst e
    exact hs i x ys σ _ (y xs q) p
  · have e : i = xs.length := by omega
    subst e
    exact .inl ⟨⟨xs, q, Nat.le_refl _⟩, by omega, hd ys σ H p⟩
theorem comp_range {lo : Int} {k : Nat} (a : Nat → List V → St → Hp → Prop) (h0 : a 0 [] (σIn σ n ix) H) (s : ∀ i ys σ H, i ≤ k → a i ys σ H → ys.length ≤ i) (hz : k < sizeLine)
    (hs : ∀ i ys σ H, i < k → a i ys σ H → g (.int (lo + i)) σ H fun d q => tc d q fun b f => if b = true then te d f fun y o => a (i + 1) (ys ++ [y]) d o else a (i + 1) ys d f)
    (h : ∀ ys σ H, a k ys σ H → ∀ p, H p = none → Q (.ref p) (upd H p (.lst ys))) : rComp n ix g tc te σ Q (Itr lo k) H := by
  refine ⟨fun i m ys σ H => m = k - i ∧ i ≤ k ∧ a i ys σ H, ⟨k, by simp, Nat.zero_le _, h0⟩, ?_⟩
  rintro i m ys σ H ⟨rfl, r, p⟩
  have hy := s i ys σ H r p
  by_cases c : i < k
  · refine .inr ⟨c, by lia, a (i + 1), fun ys' σ' j l => ⟨k - (i + 1), by lia, rfl, c, l⟩, fun x j y => ?_⟩
    obtain ⟨e, y⟩ := y
    grind
  · have e : i = k := by lia
    subst e
    exact .inl ⟨Nat.le_refl _, by lia, h ys σ H p⟩
end
end L2
namespace L2
open PySem PySem.Spec PyProof.Rows
def Ite (K : PySem.W.Frag) (a : Addr) : It :=
  ⟨fun i H => ∃ b x, SqL K H a b ∧ b[i]? = some x, fun i H v c => ∃ t x, v = .ref t ∧ H t = none ∧ c = upd H t (.tup [.int i, x]) ∧ ∀ b, SqL K H a b → b[i]? = some x, fun i H => ∃ b, SqL K H a b ∧ b.length ≤ i⟩
theorem turn_enum {P : Program} {w : World} {K : PySem.W.Frag} {M : List Expr} {k : Nat} {tp : Pos} (a e f : Addr) (G : e ≠ f) :
    Turn P w K (.Tuple M k tp) (Ite K a) [e, f] e (fun i h => (∃ g, IsEnum h e f ((i : Nat) : Int) g) ∧ h.IsListIter f a i) where
  mem := by simp
  obj := fun i h st b r => by
    obtain ⟨⟨g, t⟩, o, ho, c, d⟩ := st
    have m : b = e ∨ b = f := by simpa using r
    rcases m with rfl | rfl
    · exact ⟨_, t, fun v z => by
        have z' : Data.fields _ = Data.cell v := z
        cases z'⟩
    · exact ⟨o, ho, fun v z => by rw [d] at z; cases z⟩
  keep := fun i h h' st k => ⟨let ⟨g, t⟩ := st.1; ⟨g, k e (by simp) _ t⟩, st.2.at fun o q => k f (by simp) o q⟩
  item := by
    intro X Z Y hK hc i N s σ H E I S st hg
    subst Z Y hK
    obtain ⟨xs, x, T, j⟩ := hg
    obtain ⟨its, rv, p, hz⟩ := I.list T
    obtain ⟨u, hu, ru⟩ := rv.get j
    obtain ⟨⟨g, t⟩, y⟩ := st
    obtain ⟨f0, f1, f2, f3, f4, f5⟩ := S e (by simp)
    obtain ⟨Q, g1, g2, g3, g4, g5⟩ := S f (by simp)
    refine wpAny_pyNext_enum_item t y p.isList (x := u) (by simpa using hu) G fun h₁ heo F ht₁ hz₁ hk₁ => ?_
    refine ⟨_, rfl, wpAny_letOwnedTupleGo_enum (s := { s with heap := h₁, toks := s.toks + 1 }) heo fun A he₂ l => ?_⟩
    replace l : Heap.SameBut e h₁ A := l
    have J : e < s.heap.objs.size := Heap.lt_size t
    have D : H s.heap.objs.size = none := I.hok.fresh (Nat.le_refl _)
    have ht₂ : A.get? s.heap.objs.size = some { cls := .type "tuple", data := .seq #[.int i s.toks, u] } := (l.2 _ (Nat.ne_of_gt J)).trans ht₁
    have O : ∀ b o, b ≠ e → b ≠ f → s.heap.get? b = some o → A.get? b = some o := fun b o h1 h2 q => (l.2 b h1).trans (hk₁ b o h1 h2 q)
    have lt : ∀ b o, s.heap.get? b = some o → b ≠ s.heap.objs.size := fun b o q => Nat.ne_of_lt (Heap.lt_size q)
    have B : ∀ b o, s.heap.get? b = some o → b ∉ [e, f] → ∃ R, A.get? b = some R := fun b o q j => ⟨o, O b o (fun z => j (by simp [z])) (fun z => j (by simp [z])) q⟩
    have U : Un (frs X.stack) [e, f] H (upd H s.heap.objs.size (.tup [.int i, x])) s.heap A :=
      ⟨fun b o q _ _ j => O b o (fun z => j (by simp [z])) (fun z => j (by simp [z])) q, fun b o q _ _ j => ⟨o.slots, O b o (fun z => j (by simp [z])) (fun z => j (by simp [z])) q⟩,
        fun b o q n _ => by rw [upd_ne (lt b o q)]; exact n, B, fun b ys q => by rw [upd_ne (ne_of_none q D)]; exact q, fun b o ys q => by rw [upd_ne (ne_of_none q D)]; exact q, fun b ps q => ⟨#[], by rw [upd_ne (ne_of_none q D), q]; simp⟩⟩
    have ok : HOk X.prog X.w (upd H s.heap.objs.size (.tup [.int i, x])) A := fun b o q => by
      by_cases r : b = s.heap.objs.size
      · subst r
        rw [upd_same] at q
        cases q
        exact ⟨by show 2 ≤ sizeLine; decide, [.int i s.toks, u], .cons ⟨_, rfl⟩ (.cons ru .nil), ⟨_, ht₂, rfl, _, rfl⟩⟩
      · rw [upd_ne r] at q
        refine (I.hok b o q).stay (fun c v C z => ?_) (fun c z => by rw [upd_ne (ne_of_none z D)]; exact z) fun c ys z => by rw [upd_ne (ne_of_none z D)]; exact z
        have hcs : ∃ R, H c = some R := by
          rcases C with rfl | C
          · exact ⟨o, q⟩
          · exact ⟨_, C⟩
        obtain ⟨R, L⟩ := hcs
        exact O c v (ne_of_none L f0) (ne_of_none L Q) z
    have I2 := I.call (h' := A) (g' := s.gens) (t' := s.toks + 1) (d' := s.drawn) (ch := [e, f]) U ok I.bare fun b r => by
      have m : b = e ∨ b = f := by simpa using r
      rcases m with rfl | rfl
      · exact ⟨f3, f1, f4, f5⟩
      · exact ⟨g3, g1, g4, g5⟩
    refine ⟨.ref s.heap.objs.size, _, I2, rfl, ⟨s.heap.objs.size, x, rfl, D, rfl, fun ys hy => by rw [I.list_inj hy T]; exact j⟩, ⟨⟨_, by rw [show ((i + 1 : Nat) : Int) = (i : Int) + 1 by push_cast; rfl]; exact he₂⟩, F.extBut l.extBut G.symm⟩, fun b r => ?_⟩
    have m : b = e ∨ b = f := by simpa using r
    obtain ⟨o2, ho2, _⟩ := y
    rcases m with rfl | rfl
    · rw [upd_ne (Nat.ne_of_lt J)]; exact f0
    · rw [upd_ne (Nat.ne_of_lt (Heap.lt_size ho2))]; exact Q
  done := by
    intro X Z Y hK hc i N s σ H E I S st hg
    subst Z Y hK
    obtain ⟨xs, T, j⟩ := hg
    obtain ⟨its, rv, p, hz⟩ := I.list T
    obtain ⟨⟨g, t⟩, y⟩ := st
    obtain ⟨Q, g1, g2, g3, g4, g5⟩ := S f (by simp)
    have hl := rv.length
    exact wpAny_pyNext_enum_end (I.ok.hd hc) t y p.isList (by simp; lia) fun h' eb => ⟨rfl, I.turned (t' := s.toks) (fun b o r e => eb b o r e) Q g1 g3 g4 g5⟩
  self := fun _ _ _ _ _ st h => let ⟨⟨_, t⟩, _⟩ := st; wpAny_pyIter_enum t h
def iEnum (K : PySem.W.Frag) (d : TA) : TI := fun σ H R => d σ H fun c b => ∃ a, c = [.ref a] ∧ (∃ e, SqL K b a e) ∧ R (Ite K a) b
theorem boot_enumerate' : bootBuiltins "enumerate" = some (.type "enumerate") := by decide +kernel
theorem pi_enum (hg : Gl X "enumerate") (hm : X.mg "enumerate" = none) (ha : PA X [a] ta) (hs : starEach [a] X.env = [(false, eval a X.env)] := by rfl) :
    PI X (.Tuple elts k tp) (.Call (.Name "enumerate" p) [a] [] pos) (iEnum X.K ta) := by
  intro pins s σ H R I h
  refine Call_ (ld_blt I hg hm boot_enumerate' (PyProof.Rows.callWith_type1 (thn (ha pos pins s σ H _ I h) fun us s1 ⟨vs, H1, I1, r1, q1⟩ => ?_) hs rfl))
  obtain ⟨l, e, ⟨xs, hq⟩, q⟩ := q1
  subst e
  cases r1 with
  | cons r rr =>
    cases rr
    cases r
    obtain ⟨its, rv, p, hz⟩ := I1.list hq
    refine call_enumerate_list p.isList fun h' hE hI hsz hk => wpAny_pyIter_enum hE ?_
    have I2 : Inv X pins σ H1 { s1 with heap := h', toks := s1.toks } := I1.kept hk
    refine ⟨s1.heap.objs.size + 1, [s1.heap.objs.size + 1, s1.heap.objs.size], _, _, H1, rfl, I2, turn_enum l _ _ (Nat.succ_ne_self _), ⟨⟨.none, hE⟩, hI⟩, fun b hb => ?_, q⟩
    have hb' : b = s1.heap.objs.size + 1 ∨ b = s1.heap.objs.size := by simpa using hb
    rcases hb' with rfl | rfl
    · exact I1.fpOk (Nat.le_succ _) (I1.hok.fresh (Nat.le_succ _))
    · exact I1.fpOk (Nat.le_refl _) (I1.hok.fresh (Nat.le_refl _))
theorem for_enum {K : PySem.W.Frag} {a : Addr} {xs : List V} {g : TG} {j : TS} {D : Ends} {σ : St} {H : Hp} (b : Nat → St → Hp → Prop) (h0 : b 0 σ H) (n : ∀ i σ H, i ≤ xs.length → b i σ H → SqL K H a xs)
    (hs : ∀ i x t σ H, xs[i]? = some x → H t = none → b i σ H → g (.ref t) σ (upd H t (.tup [.int i, x])) fun d c => j { D with nx := b (i + 1), ct := b (i + 1), bk := D.nx } d c) (k : ∀ σ H, b xs.length σ H → D.nx σ H) :
    ∃ W : Nat → Nat → St → Hp → Prop, (∃ m, W 0 m σ H) ∧ ∀ i m σ H, W i m σ H →
      ((Ite K a).stop i H ∧ D.nx σ H) ∨ ((Ite K a).go i H ∧ ∃ N : St → Hp → Prop, (∀ h H', N h H' → ∃ m', m' < m ∧ W (i + 1) m' h H') ∧ ∀ x H', (Ite K a).yld i H x H' → g x σ H' fun d c => j { D with nx := N, ct := N, bk := D.nx } d c) := by
  refine ⟨fun i m σ H => m = xs.length - i ∧ i ≤ xs.length ∧ b i σ H, ⟨xs.length, by simp, Nat.zero_le _, h0⟩, ?_⟩
  rintro i m σ H ⟨rfl, l, p⟩
  have q := n i σ H l p
  by_cases f : i < xs.length
  · refine .inr ⟨⟨xs, xs[i], q, by grind⟩, b (i + 1), fun h H' o => ⟨xs.length - (i + 1), by lia, rfl, f, o⟩, fun x H' y => ?_⟩
    obtain ⟨t, x', rfl, ht, rfl, y⟩ := y
    grind
  · have e : i = xs.length := by lia
    subst e
    exact .inl ⟨⟨xs, q, Nat.le_refl _⟩, k σ H p⟩
def tFs (a : Str) (te : TE) : TE := fun σ H Q => te σ H fun x b => (∃ i, x = .int i ∧ i.natAbs.log2 < 1920 ∧ Q (.str (a ++ Str.ofString (toString i))) b) ∨ ∃ z, x = .str z ∧ z.length ≤ 1000 ∧ Q (.str (a ++ z)) b
theorem str_app_len (x y : Str) : (x ++ y).length = x.length + y.length := by rw [← strLen_append]
theorem pe_fs {a : Str} (y : PE X e te) (w : a.length ≤ 1000) : PE X (.JoinedStr [.Constant (.str a) j p1, .FormattedValue e (-1) none p2] pos) (tFs a te) := by
  intro d s σ H Q I h
  refine JoinedStr_many (joinParts_cons (Calls.Constant_str ?_))
  have m : (Str.empty ++ a) = a := by
    cases a with
    | mk c => show Str.mk _ = _; simp [Str.empty]
  refine ⟨by rw [m]; exact Nat.le_trans w (by decide), ?_⟩
  rw [m]
  have v := I.tok (s.toks + 1)
  refine joinParts_cons (FormattedValue_plain (thn (y d _ σ H _ v h) ?_))
  rintro u n ⟨x, g, k, l, p⟩
  rcases p with ⟨i, rfl, f, q⟩ | ⟨z, rfl, o, q⟩
  · obtain ⟨t, rfl⟩ := l
    refine formatField_int_small f ?_
    have b : (a ++ Str.ofString (toString i)).length ≤ sizeLine := by
      have := int_text_len_1921 f
      rw [str_app_len]
      exact Nat.le_trans (show a.length + (Str.ofString (toString i)).length ≤ 4000 by lia) (by decide)
    refine ⟨b, joinParts_nil ?_ b⟩
    exact ⟨.str (a ++ Str.ofString (toString i)), g, (k.tok (n.toks + 1 + 1)).tok _, ⟨_, rfl⟩, q⟩
  · obtain ⟨t, rfl⟩ := l
    have b : (a ++ z).length ≤ sizeLine := by
      rw [str_app_len]
      exact Nat.le_trans (show a.length + z.length ≤ 4000 by lia) (by decide)
    refine formatField_str (fun t' r => ?_) (Nat.le_trans o (by decide))
    refine ⟨b, joinParts_nil ?_ b⟩
    exact ⟨.str (a ++ z), g, (k.tok r).tok _, ⟨_, rfl⟩, q⟩
def rIsi (K : PySem.W.Frag) (c : Value) : List V → Hp → VK → Prop := fun d H Q => ∃ x y t b, d = [x, y] ∧ RelV y c ∧ TyOf K H x t ∧ PySem.W.kitOne K t c = some b ∧ Q (.bl b) H
theorem call_isi (i : ∀ y u, RelV y c → RelV y u → u = c) : CallR X (.builtin "isinstance") (rIsi X.K c) := by
  intro pins s σ H xs us Q I r h
  obtain ⟨x, y, t, b, rfl, a, d, e, q⟩ := h
  obtain ⟨u, v, rfl, g, f⟩ := r.two
  obtain rfl := i y v a f
  exact isinst_ok I g d e fun j => ⟨.bl b, H, I.tok j, rfl, q⟩
theorem rel_ty : ∀ y u, RelV y (.type n) → RelV y u → u = .type n := fun y u h1 h2 => by
  cases y <;> first
    | (cases h1; done)
    | (obtain ⟨_, e⟩ := h1; cases e; done)
    | (cases h1; cases h2; rfl)
theorem rel_ref : ∀ y u, RelV y (.ref a) → RelV y u → u = .ref a := fun y u h1 h2 => by
  cases y <;> first
    | (cases h1; done)
    | (obtain ⟨_, e⟩ := h1; cases e; done)
    | (cases h1; cases h2; rfl)
end L2
namespace L2
open PySem PySem.Spec PyProof.Rows
theorem name_if0 {σ : St} {A B : St → Hp → Prop} (h : A (σ.set i (some x)) H) : gName i x σ H (fun a d => tIf0 a d fun b c => if b = true then A a c else B a c) := by
  show if true = true then A (σ.set i (some x)) H else B (σ.set i (some x)) H
  grind
theorem pg_tupK {X : Cx} {K : PySem.W.Frag} (h : X.K = K) {es : List Expr} {k : Nat} {t : TGs} {n : Nat} {pos : Pos} (d : X.calm = true) (c : PGs X es t)
    (b : (assignEach es X.env).length = n := by rfl) (a : (assignEach es X.env).findIdx? (·.1) = none := by rfl) : PG X (.Tuple es k pos) (gTup K n t) := by
  subst h
  exact pg_tup d c b a
end L2
namespace Ts
open PySem L2
theorem same_new (h : H p = none) (o : HO) : Same H (upd H p o) := fun b u q => by rw [upd_ne (ne_of_none q h)]; exact q
theorem _root_.L2.Same.put (s : Same H H') (h : H p = none) (o : HO) : Same H (upd H' p o) := fun b u q => by rw [upd_ne (ne_of_none q h)]; exact s b u q
def A2 {α β : Type} (R : α → β → Prop) : List α → List β → Prop
  | [], [] => True
  | x :: b, y :: a => R x y ∧ A2 R b a
  | _, _ => False
section
variable {α β : Type} {R R' : α → β → Prop}
theorem A2.len : ∀ {xs : List α} {ys : List β}, A2 R xs ys → xs.length = ys.length
  | [], [], _ => rfl
  | _ :: _, _ :: _, h => congrArg (· + 1) (A2.len h.2)
  | [], _ :: _, h => h.elim
  | _ :: _, [], h => h.elim
theorem A2.imp (f : ∀ x y, R x y → R' x y) : ∀ {xs : List α} {ys : List β}, A2 R xs ys → A2 R' xs ys
  | [], [], _ => trivial
  | _ :: _, _ :: _, h => ⟨f _ _ h.1, A2.imp f h.2⟩
  | [], _ :: _, h => h.elim
  | _ :: _, [], h => h.elim
theorem A2.app : ∀ {xs : List α} {ys : List β} {b : List α} {a : List β}, A2 R xs ys → A2 R b a → A2 R (xs ++ b) (ys ++ a)
  | [], [], _, _, _, h => h
  | _ :: _, _ :: _, _, _, h, c => ⟨h.1, A2.app h.2 c⟩
  | [], _ :: _, _, _, h, _ => h.elim
  | _ :: _, [], _, _, h, _ => h.elim
theorem A2.snoc (h : A2 R xs ys) (r : R x y) : A2 R (xs ++ [x]) (ys ++ [y]) := h.app ⟨r, trivial⟩
theorem A2.at2 : ∀ {xs : List α} {ys : List β} {i : Nat} {y : β}, A2 R xs ys → ys[i]? = some y → ∃ x, xs[i]? = some x ∧ R x y
  | _, [], _, _, _, e => by simp at e
  | _ :: _, _ :: _, 0, _, h, e => by simp at e; subst e; exact ⟨_, rfl, h.1⟩
  | _ :: _, _ :: _, i + 1, _, h, e => by
    obtain ⟨y, h1, h2⟩ := A2.at2 (i := i) h.2 (by simpa using e)
    exact ⟨y, by simpa using h1, h2⟩
  | [], _ :: _, _, _, h, _ => h.elim
theorem A2.rev : ∀ {xs : List α} {ys : List β}, A2 R xs ys → A2 R xs.reverse ys.reverse
  | [], [], _ => trivial
  | _ :: _, _ :: _, h => by
    rw [List.reverse_cons, List.reverse_cons]
    exact (A2.rev h.2).snoc h.1
  | [], _ :: _, h => h.elim
  | _ :: _, [], h => h.elim
theorem A2.tk : ∀ {xs : List α} {ys : List β} (i : Nat), A2 R xs ys → A2 R (xs.take i) (ys.take i)
  | [], [], _, _ => by simp [A2]
  | _ :: _, _ :: _, 0, h => trivial
  | _ :: _, _ :: _, i + 1, h => ⟨h.1, A2.tk i h.2⟩
  | [], _ :: _, _, h => h.elim
  | _ :: _, [], _, h => h.elim
theorem A2.dr : ∀ {xs : List α} {ys : List β} (i : Nat), A2 R xs ys → A2 R (xs.drop i) (ys.drop i)
  | [], [], _, _ => by simp [A2]
  | _ :: _, _ :: _, 0, h => h
  | _ :: _, _ :: _, i + 1, h => A2.dr i h.2
  | [], _ :: _, _, h => h.elim
  | _ :: _, [], _, h => h.elim
theorem A2.of_map {f : β → α} (h : ∀ y, R (f y) y) : ∀ ys : List β, A2 R (ys.map f) ys
  | [] => trivial
  | y :: ys => ⟨h y, A2.of_map h ys⟩
end
theorem A2.eq_map {α β : Type} {f : β → α} : ∀ {xs : List α} {ys : List β}, A2 (fun x y => x = f y) xs ys → xs = ys.map f
  | [], [], _ => rfl
  | _ :: _, _ :: _, h => by rw [List.map_cons, h.1, A2.eq_map h.2]
  | [], _ :: _, h => h.elim
  | _ :: _, [], h => h.elim
class Rp (K : PySem.W.Frag) (α : Type) where
  rp : Hp → V → α → Prop
  mono : ∀ {F F' : Hp} {v : V} {a : α}, Same F F' → rp F v a → rp F' v a
abbrev rp (K : PySem.W.Frag) {α : Type} [Rp K α] : Hp → V → α → Prop := Rp.rp (K := K)
class Nn (K : PySem.W.Frag) (α : Type) [Rp K α] : Prop where
  nn : ∀ {F : Hp} {v : V} {a : α}, rp K F v a → v ≠ .non
class Sc (K : PySem.W.Frag) (α : Type) [Rp K α] where
  val : α → V
  is : ∀ {F : Hp} {v : V} {a : α}, rp K F v a ↔ v = val a
  inj : ∀ {a b : α}, val a = val b → a = b
section
variable {K : PySem.W.Frag}
instance : Rp K Int := ⟨fun _ v n => v = .int n, fun _ h => h⟩
instance : Rp K Bool := ⟨fun _ v n => v = .bl n, fun _ h => h⟩
instance : Rp K Str := ⟨fun _ v n => v = .str n, fun _ h => h⟩
instance : Rp K Unit := ⟨fun _ v _ => v = .non, fun _ h => h⟩
instance {α : Type} [Rp K α] : Rp K (Option α) := ⟨fun F v a => match a with
  | none => v = .non
  | some x => v ≠ .non ∧ rp K F v x, fun {F F' v a} s h => match a, h with
  | none, h => h
  | some x, h => ⟨h.1, Rp.mono s h.2⟩⟩
instance {α : Type} [Rp K α] : Rp K (List α) := ⟨fun F v xs => ∃ p vs, v = .ref p ∧ F p = some (.lst vs) ∧ A2 (rp K F) vs xs, fun s ⟨p, vs, h1, h2, h3⟩ => ⟨p, vs, h1, s _ _ h2, h3.imp fun _ _ => Rp.mono s⟩⟩
instance {α β : Type} [Rp K α] [Rp K β] : Rp K (α × β) := ⟨fun F v x => ∃ p a b, v = .ref p ∧ F p = some (.tup [a, b]) ∧ rp K F a x.1 ∧ rp K F b x.2, fun s ⟨p, a, b, h1, h2, h3, h4⟩ => ⟨p, a, b, h1, s _ _ h2, Rp.mono s h3, Rp.mono s h4⟩⟩
structure Scr where
  ns : List Int
instance : Rp K Scr := ⟨fun F v x => ∃ p, v = .ref p ∧ SqL K F p (x.ns.map V.int), fun s ⟨p, h1, h2⟩ => ⟨p, h1, s.seq h2⟩⟩
instance {α : Type} [Rp K α] : Nn K (List α) := ⟨fun ⟨_, _, h, _⟩ => by rw [h]; intro e; cases e⟩
instance : Sc K Int := ⟨V.int, Iff.rfl, fun h => by cases h; rfl⟩
instance : Sc K Bool := ⟨V.bl, Iff.rfl, fun h => by cases h; rfl⟩
instance : Sc K Str := ⟨V.str, Iff.rfl, fun h => by cases h; rfl⟩
theorem rp_sc {α : Type} [Rp K α] [Sc K α] {a : α} (h : rp K F v a) : rp K F' v a := Sc.is.mpr (Sc.is.mp h)
inductive Md | nw | fz | hp
def dif (H a : Hp) : Hp := fun b => match a b with
  | none => H b
  | some _ => none
def ext (c a H : Hp) : Hp := fun b => match a b with
  | none => H b
  | some _ => c b
structure Bs where
  Fa : Hp
  H0 : Hp
abbrev Own := List (Addr × HO)
class Ob (K : PySem.W.Frag) (α : Type) where
  β : Type
  rpβ : Rp K β
  ro : Hp → V → α → Own → Prop
  mono : ∀ {F F' : Hp} {v : V} {a : α} {O : Own}, Same F F' → ro F v a O → ro F' v a O
  val : α → β
  frz : ∀ {F : Hp} {v : V} {a : α} {O : Own}, ro F v a O → (∀ x ∈ O, F x.1 = some x.2) → Rp.rp (K := K) F v (val a)
def reg (B : Bs) (F H : Hp) : Md → Hp
  | .nw => dif F B.H0
  | .fz => F
  | .hp => H
theorem dif_le : Same (dif H H0) H := fun b o h => by
  unfold dif at h
  grind
theorem dif_at (h : a b = none) : dif H a b = H b := by
  unfold dif
  rw [h]
theorem dif_mono (s : Same H H') : Same (dif H a) (dif H' a) := fun b o h => by
  unfold dif at h ⊢
  cases e : a b with
  | none => rw [e] at h; exact s b o h
  | some u => grind
structure Ok (B : Bs) (F : Hp) (O : Own) (H : Hp) : Prop where
  fh : Same F H
  h0 : Same B.H0 H
  fa : ∀ b o, F b = some o → B.Fa b = some o ∨ B.H0 b = none
  fo : ∀ x ∈ O, F x.1 = none ∧ B.H0 x.1 = none ∧ H x.1 = some x.2
  nd : (O.map (·.1)).Nodup
structure Grow (B : Bs) (F H : Hp) (O : Own) (F' H' : Hp) : Prop where
  ff : Same F F'
  hh : Same H H'
  ok : Ok B F' O H'
  nw : ∀ b, F b = none → H b ≠ none → F' b = none
section
variable {B : Bs} {F H F' H' F2 H2 : Hp} {O : Own}
theorem Grow.refl (k : Ok B F O H) : Grow B F H O F H := ⟨.refl _, .refl _, k, fun _ h _ => h⟩
theorem Grow.trans (a : Grow B F H O F' H') (b : Grow B F' H' O F2 H2) : Grow B F H O F2 H2 :=
  ⟨a.ff.trans b.ff, a.hh.trans b.hh, b.ok, fun q d c => b.nw q (a.nw q d c) fun e => c (a.hh.free e)⟩
theorem Grow.new (k : Ok B F O H) (h : H p = none) (o : HO) : Grow B F H O (upd F p o) (upd H p o) := by
  have j := k.fh.free h
  refine ⟨same_new j o, same_new h o, ⟨fun b u e => ?_, k.h0.put (k.h0.free h) o, fun b u e => ?_, fun x f => ?_, k.nd⟩, fun b d i => ?_⟩
  · by_cases q : b = p
    · subst q; rw [upd_same] at e ⊢; exact e
    · rw [upd_ne q] at e ⊢; exact k.fh b u e
  · by_cases q : b = p
    · subst q; exact .inr (k.h0.free h)
    · rw [upd_ne q] at e; exact k.fa b u e
  · obtain ⟨c, g, a⟩ := k.fo x f
    have q := ne_of_none a h
    exact ⟨by rw [upd_ne q]; exact c, g, by rw [upd_ne q]; exact a⟩
  · rw [upd_ne fun e => i (by grind)]; exact d
theorem reg_mono (g : Grow B F H O F' H') (md : Md) : Same (reg B F H md) (reg B F' H' md) := match md with
  | .nw => dif_mono g.ff
  | .fz => g.ff
  | .hp => g.hh
end
inductive Slot (K : PySem.W.Frag) : Type 1
  | un
  | fz (n : Bool) {α : Type} [Rp K α] (a : α)
  | hs {α : Type} [Rp K α] (a : α)
  | nu {α : Type} [Rp K α] (a : α)
  | ow (n : Bool) {α : Type} [Rp K α] (xs : List α)
  | od {α : Type} [Rp K α] (kvs : List (Key × α))
  | ob (n : Bool) {α : Type} [Ob K α] (a : α)
abbrev mdb : Bool → Md
  | true => .nw
  | false => .fz
def lo (F : Hp) (O : Own) (H : Hp) : Hp := fun b => if (F b).isSome || (O.any fun x => x.1 == b) then none else H b
inductive SlotsOk (B : Bs) (F L H : Hp) : List (Slot K) → St → Own → Prop
  | nil : SlotsOk B F L H [] [] []
  | un {sl : List (Slot K)} {σ : St} {O : Own} {x : Option V} : SlotsOk B F L H sl σ O → SlotsOk B F L H (.un :: sl) (x :: σ) O
  | fz {n : Bool} {α : Type} [Rp K α] {a : α} {sl : List (Slot K)} {σ : St} {O : Own} {v : V} : rp K (reg B F H (mdb n)) v a → SlotsOk B F L H sl σ O → SlotsOk B F L H (.fz n a :: sl) (some v :: σ) O
  | hs {α : Type} [Rp K α] {a : α} {sl : List (Slot K)} {σ : St} {O : Own} {v : V} : rp K H v a → SlotsOk B F L H sl σ O → SlotsOk B F L H (.hs a :: sl) (some v :: σ) O
  | nu {α : Type} [Rp K α] {a : α} {sl : List (Slot K)} {σ : St} {O : Own} {v : V} : rp K (dif L B.H0) v a → SlotsOk B F L H sl σ O → SlotsOk B F L H (.nu a :: sl) (some v :: σ) O
  | ow {n : Bool} {α : Type} [Rp K α] {xs : List α} {sl : List (Slot K)} {σ : St} {O : Own} {p : Addr} {vs : List V} : A2 (rp K (reg B F H (mdb n))) vs xs → SlotsOk B F L H sl σ O → SlotsOk B F L H (.ow n xs :: sl) (some (.ref p) :: σ) ((p, .lst vs) :: O)
  | od {α : Type} [Rp K α] {kvs : List (Key × α)} {sl : List (Slot K)} {σ : St} {O : Own} {p : Addr} {ks : List (Key × V)} : A2 (fun (x : Key × V) (y : Key × α) => x.1 = y.1 ∧ rp K F x.2 y.2) ks kvs → SlotsOk B F L H sl σ O → SlotsOk B F L H (.od kvs :: sl) (some (.ref p) :: σ) ((p, .dK ks) :: O)
  | ob {n : Bool} {α : Type} [Ob K α] {a : α} {sl : List (Slot K)} {σ : St} {O Oc : Own} {v : V} : Ob.ro K (reg B F H (mdb n)) v a Oc → SlotsOk B F L H sl σ O → SlotsOk B F L H (.ob n a :: sl) (some v :: σ) (Oc ++ O)
def At (B : Bs) (a : List (Slot K)) (F : Hp) (O : Own) (H : Hp) (σ : St) : Prop := Ok B F O H ∧ SlotsOk B F (lo F O H) H a σ O
abbrev isOw : Slot K → Bool
  | @Slot.ow _ _ _ _ _ => true
  | @Slot.od _ _ _ _ => true
  | @Slot.ob _ _ _ _ _ => true
  | _ => false
abbrev isHs : Slot K → Bool
  | @Slot.hs _ _ _ _ => true
  | _ => false
section
variable {B : Bs} {F H F' H' L L' : Hp} {O O' : Own} {sl : List (Slot K)} {σ : St}
theorem reg_mdb (n : Bool) (a : Same F F') : Same (reg B F H (mdb n)) (reg B F' H' (mdb n)) := match n with
  | true => dif_mono a
  | false => a
theorem SlotsOk.mono (a : Same F F') (c : Same L L') (b : Same H H') (h : SlotsOk B F L H sl σ O) : SlotsOk B F' L' H' sl σ O := by
  induction h with
  | nil => exact .nil
  | un _ ih => exact .un ih
  | fz r _ ih => exact .fz (Rp.mono (reg_mdb _ a) r) ih
  | hs r _ ih => exact .hs (Rp.mono b r) ih
  | nu r _ ih => exact .nu (Rp.mono (dif_mono c) r) ih
  | ow r _ ih => exact .ow (r.imp fun _ _ => Rp.mono (reg_mdb _ a)) ih
  | od r _ ih => exact .od (r.imp fun _ _ z => ⟨z.1, Rp.mono a z.2⟩) ih
  | ob r _ ih => exact .ob (Ob.mono (reg_mdb _ a) r) ih
theorem SlotsOk.mut (a : Same L L') (h : SlotsOk B F L H sl σ O) (hn : sl.all (fun s => !isHs s) = true) : SlotsOk B F L' H' sl σ O := by
  induction h with
  | nil => exact .nil
  | un _ ih => exact .un (ih (by grind))
  | fz r _ ih => exact .fz (Rp.mono (reg_mdb _ (.refl _)) r) (ih (by grind))
  | hs r _ ih => grind
  | nu r _ ih => exact .nu (Rp.mono (dif_mono a) r) (ih (by grind))
  | ow r _ ih => exact .ow (r.imp fun _ _ => Rp.mono (reg_mdb _ (.refl _))) (ih (by grind))
  | od r _ ih => exact .od r (ih (by grind))
  | ob r _ ih => exact .ob (Ob.mono (reg_mdb _ (.refl _)) r) (ih (by grind))
theorem lo_mono (g : Grow B F H O F' H') : Same (lo F O H) (lo F' O H') := fun b o h => by
  unfold lo at h ⊢
  cases e : (F b).isSome || (O.any fun x => x.1 == b) with
  | true => grind
  | false =>
    rw [e] at h
    have a : H b = some o := h
    rw [Bool.or_eq_false_iff] at e
    have c : F' b = none := g.nw b (by cases q : F b with | none => rfl | some u => grind) (by grind)
    rw [c, e.2]
    exact g.hh b o a
theorem At.grow (h : At B sl F O H σ) (g : Grow B F H O F' H') : At B sl F' O H' σ := ⟨g.ok, h.2.mono g.ff (lo_mono g) g.hh⟩
theorem SlotsOk.fz_at {α : Type} [Rp K α] {a : α} (h : SlotsOk B F L H sl σ O) : ∀ {i : Nat}, sl[i]? = some (.fz n a) → ∃ v, σ[i]? = some (some v) ∧ rp K (reg B F H (mdb n)) v a := by
  induction h with
  | nil => intro i e; simp at e
  | fz r _ ih =>
    intro i e
    cases i with
    | zero => simp only [List.getElem?_cons_zero] at e; cases e; exact ⟨_, rfl, r⟩
    | succ i => exact ih (by simpa using e)
  | _ =>
    rename_i ih
    intro i e
    cases i with
    | zero => simp only [List.getElem?_cons_zero] at e; cases e
    | succ i => exact ih (by simpa using e)
theorem SlotsOk.hs_at {α : Type} [Rp K α] {a : α} (h : SlotsOk B F L H sl σ O) : ∀ {i : Nat}, sl[i]? = some (.hs a) → ∃ v, σ[i]? = some (some v) ∧ rp K H v a := by
  induction h with
  | nil => intro i e; simp at e
  | hs r _ ih =>
    intro i e
    cases i with
    | zero => simp only [List.getElem?_cons_zero] at e; cases e; exact ⟨_, rfl, r⟩
    | succ i => exact ih (by simpa using e)
  | _ =>
    rename_i ih
    intro i e
    cases i with
    | zero => simp only [List.getElem?_cons_zero] at e; cases e
    | succ i => exact ih (by simpa using e)
theorem SlotsOk.nu_at {α : Type} [Rp K α] {a : α} (h : SlotsOk B F L H sl σ O) : ∀ {i : Nat}, sl[i]? = some (.nu a) → ∃ v, σ[i]? = some (some v) ∧ rp K (dif L B.H0) v a := by
  induction h with
  | nil => intro i e; simp at e
  | nu r _ ih =>
    intro i e
    cases i with
    | zero => simp only [List.getElem?_cons_zero] at e; cases e; exact ⟨_, rfl, r⟩
    | succ i => exact ih (by simpa using e)
  | _ =>
    rename_i ih
    intro i e
    cases i with
    | zero => simp only [List.getElem?_cons_zero] at e; cases e
    | succ i => exact ih (by simpa using e)
theorem SlotsOk.put (h : SlotsOk B F L H sl σ O) (a : ∀ (sl : List (Slot K)) (σ : St) (O : Own), SlotsOk B F L H sl σ O → SlotsOk B F L H (s' :: sl) (x :: σ) O) : ∀ {i : Nat}, sl[i]? = some s → isOw s = false → SlotsOk B F L H (sl.set i s') (σ.set i x) O := by
  induction h with
  | nil => intro i e; simp at e
  | un g ih =>
    intro i e o
    cases i with
    | zero => exact a _ _ _ g
    | succ i => exact .un (ih (by simpa using e) o)
  | fz r g ih =>
    intro i e o
    cases i with
    | zero => exact a _ _ _ g
    | succ i => exact .fz r (ih (by simpa using e) o)
  | hs r g ih =>
    intro i e o
    cases i with
    | zero => exact a _ _ _ g
    | succ i => exact .hs r (ih (by simpa using e) o)
  | nu r g ih =>
    intro i e o
    cases i with
    | zero => exact a _ _ _ g
    | succ i => exact .nu r (ih (by simpa using e) o)
  | ow r g ih =>
    intro i e o
    cases i with
    | zero => grind
    | succ i => exact .ow r (ih (by simpa using e) o)
  | od r g ih =>
    intro i e o
    cases i with
    | zero => simp only [List.getElem?_cons_zero] at e; cases e; cases o
    | succ i => exact .od r (ih (by simpa using e) o)
  | ob r g ih =>
    intro i e o
    cases i with
    | zero => simp only [List.getElem?_cons_zero] at e; cases e; cases o
    | succ i => exact .ob r (ih (by simpa using e) o)
theorem SlotsOk.own (h : SlotsOk B F L H sl σ O) (b : ∀ (sl : List (Slot K)) (σ : St) (O : Own), SlotsOk B F L H sl σ O → SlotsOk B F L H (s' :: sl) (x :: σ) (c :: O)) :
    ∀ {i : Nat}, sl[i]? = some s → isOw s = false → ∃ O1 O2, O = O1 ++ O2 ∧ SlotsOk B F L H (sl.set i s') (σ.set i x) (O1 ++ c :: O2) := by
  induction h with
  | nil => intro i e; simp at e
  | un g ih =>
    intro i e o
    cases i with
    | zero => exact ⟨[], _, rfl, b _ _ _ g⟩
    | succ i => obtain ⟨O1, O2, q, z⟩ := ih (by simpa using e) o; exact ⟨O1, O2, q, .un z⟩
  | fz r g ih =>
    intro i e o
    cases i with
    | zero => exact ⟨[], _, rfl, b _ _ _ g⟩
    | succ i => obtain ⟨O1, O2, q, z⟩ := ih (by simpa using e) o; exact ⟨O1, O2, q, .fz r z⟩
  | hs r g ih =>
    intro i e o
    cases i with
    | zero => exact ⟨[], _, rfl, b _ _ _ g⟩
    | succ i => obtain ⟨O1, O2, q, z⟩ := ih (by simpa using e) o; exact ⟨O1, O2, q, .hs r z⟩
  | nu r g ih =>
    intro i e o
    cases i with
    | zero => exact ⟨[], _, rfl, b _ _ _ g⟩
    | succ i => obtain ⟨O1, O2, q, z⟩ := ih (by simpa using e) o; exact ⟨O1, O2, q, .nu r z⟩
  | ow r g ih =>
    intro i e o
    cases i with
    | zero => simp only [List.getElem?_cons_zero] at e; cases e; cases o
    | succ i => obtain ⟨O1, O2, q, z⟩ := ih (by simpa using e) o; exact ⟨_ :: O1, O2, by rw [q] <;> rfl, .ow r z⟩
  | od r g ih =>
    intro i e o
    cases i with
    | zero => simp only [List.getElem?_cons_zero] at e; cases e; cases o
    | succ i => obtain ⟨O1, O2, q, z⟩ := ih (by simpa using e) o; exact ⟨_ :: O1, O2, by rw [q] <;> rfl, .od r z⟩
  | @ob _ _ _ _ _ _ _ d _ r g ih =>
    intro i e o
    cases i with
    | zero => simp only [List.getElem?_cons_zero] at e; cases e; cases o
    | succ i =>
      obtain ⟨O1, O2, q, z⟩ := ih (by simpa using e) o
      refine ⟨d ++ O1, O2, by rw [q, List.append_assoc], ?_⟩
      rw [List.append_assoc]
      exact .ob r z
theorem SlotsOk.ow_at {α : Type} [Rp K α] {xs : List α} (h : SlotsOk B F L H sl σ O) : ∀ {i : Nat}, sl[i]? = some (.ow n xs) →
    ∃ O1 O2 p vs, O = O1 ++ (p, .lst vs) :: O2 ∧ σ[i]? = some (some (.ref p)) ∧ A2 (rp K (reg B F H (mdb n))) vs xs ∧
      (∀ (s' : Slot K) (x : Option V) (c : Addr × HO), (∀ (sl : List (Slot K)) (σ : St) (O : Own), SlotsOk B F L H sl σ O → SlotsOk B F L H (s' :: sl) (x :: σ) (c :: O)) → SlotsOk B F L H (sl.set i s') (σ.set i x) (O1 ++ c :: O2)) ∧
      (∀ (s' : Slot K) (x : Option V), (∀ (sl : List (Slot K)) (σ : St) (O : Own), SlotsOk B F L H sl σ O → SlotsOk B F L H (s' :: sl) (x :: σ) O) → SlotsOk B F L H (sl.set i s') (σ.set i x) (O1 ++ O2)) := by
  induction h with
  | nil => intro i e; simp at e
  | un g ih =>
    intro i e
    cases i with
    | zero => simp only [List.getElem?_cons_zero] at e; cases e
    | succ i => obtain ⟨O1, O2, p, vs, q, f, b, j, d⟩ := ih (by simpa using e); exact ⟨O1, O2, p, vs, q, f, b, fun s' x c z => .un (j s' x c z), fun s' x z => .un (d s' x z)⟩
  | fz r g ih =>
    intro i e
    cases i with
    | zero => simp only [List.getElem?_cons_zero] at e; cases e
    | succ i => obtain ⟨O1, O2, p, vs, q, f, b, j, d⟩ := ih (by simpa using e); exact ⟨O1, O2, p, vs, q, f, b, fun s' x c z => .fz r (j s' x c z), fun s' x z => .fz r (d s' x z)⟩
  | hs r g ih =>
    intro i e
    cases i with
    | zero => simp only [List.getElem?_cons_zero] at e; cases e
    | succ i => obtain ⟨O1, O2, p, vs, q, f, b, j, d⟩ := ih (by simpa using e); exact ⟨O1, O2, p, vs, q, f, b, fun s' x c z => .hs r (j s' x c z), fun s' x z => .hs r (d s' x z)⟩
  | nu r g ih =>
    intro i e
    cases i with
    | zero => simp only [List.getElem?_cons_zero] at e; cases e
    | succ i => obtain ⟨O1, O2, p, vs, q, f, b, j, d⟩ := ih (by simpa using e); exact ⟨O1, O2, p, vs, q, f, b, fun s' x c z => .nu r (j s' x c z), fun s' x z => .nu r (d s' x z)⟩
  | ow r g ih =>
    intro i e
    cases i with
    | zero => simp only [List.getElem?_cons_zero] at e; cases e; exact ⟨[], _, _, _, rfl, rfl, r, fun s' x c z => z _ _ _ g, fun s' x z => z _ _ _ g⟩
    | succ i => obtain ⟨O1, O2, p, vs, q, f, b, j, d⟩ := ih (by simpa using e); exact ⟨_ :: O1, O2, p, vs, by rw [q] <;> rfl, f, b, fun s' x c z => .ow r (j s' x c z), fun s' x z => .ow r (d s' x z)⟩
  | od r g ih =>
    intro i e
    cases i with
    | zero => simp only [List.getElem?_cons_zero] at e; cases e
    | succ i => obtain ⟨O1, O2, p, vs, q, f, b, j, d⟩ := ih (by simpa using e); exact ⟨_ :: O1, O2, p, vs, by rw [q] <;> rfl, f, b, fun s' x c z => .od r (j s' x c z), fun s' x z => .od r (d s' x z)⟩
  | @ob _ _ _ _ _ _ _ k _ r g ih =>
    intro i e
    cases i with
    | zero => simp only [List.getElem?_cons_zero] at e; cases e
    | succ i =>
      obtain ⟨O1, O2, p, vs, q, f, b, j, d⟩ := ih (by simpa using e)
      refine ⟨k ++ O1, O2, p, vs, by rw [q, List.append_assoc], f, b, fun s' x c z => ?_, fun s' x z => ?_⟩
      · rw [List.append_assoc]; exact .ob r (j s' x c z)
      · rw [List.append_assoc]; exact .ob r (d s' x z)
theorem SlotsOk.od_at {α : Type} [Rp K α] {kvs : List (Key × α)} (h : SlotsOk B F L H sl σ O) : ∀ {i : Nat}, sl[i]? = some (.od kvs) →
    ∃ O1 O2 p ks, O = O1 ++ (p, .dK ks) :: O2 ∧ σ[i]? = some (some (.ref p)) ∧ A2 (fun (x : Key × V) (y : Key × α) => x.1 = y.1 ∧ rp K F x.2 y.2) ks kvs ∧
      (∀ (s' : Slot K) (x : Option V) (c : Addr × HO), (∀ (sl : List (Slot K)) (σ : St) (O : Own), SlotsOk B F L H sl σ O → SlotsOk B F L H (s' :: sl) (x :: σ) (c :: O)) → SlotsOk B F L H (sl.set i s') (σ.set i x) (O1 ++ c :: O2)) ∧
      (∀ (s' : Slot K) (x : Option V), (∀ (sl : List (Slot K)) (σ : St) (O : Own), SlotsOk B F L H sl σ O → SlotsOk B F L H (s' :: sl) (x :: σ) O) → SlotsOk B F L H (sl.set i s') (σ.set i x) (O1 ++ O2)) := by
  induction h with
  | nil => intro i e; simp at e
  | un g ih =>
    intro i e
    cases i with
    | zero => simp only [List.getElem?_cons_zero] at e; cases e
    | succ i => obtain ⟨O1, O2, p, f, q, d, a, j, b⟩ := ih (by simpa using e); exact ⟨O1, O2, p, f, q, d, a, fun s' x c z => .un (j s' x c z), fun s' x z => .un (b s' x z)⟩
  | fz r g ih =>
    intro i e
    cases i with
    | zero => simp only [List.getElem?_cons_zero] at e; cases e
    | succ i => obtain ⟨O1, O2, p, f, q, d, a, j, b⟩ := ih (by simpa using e); exact ⟨O1, O2, p, f, q, d, a, fun s' x c z => .fz r (j s' x c z), fun s' x z => .fz r (b s' x z)⟩
  | hs r g ih =>
    intro i e
    cases i with
    | zero => simp only [List.getElem?_cons_zero] at e; cases e
    | succ i => obtain ⟨O1, O2, p, f, q, d, a, j, b⟩ := ih (by simpa using e); exact ⟨O1, O2, p, f, q, d, a, fun s' x c z => .hs r (j s' x c z), fun s' x z => .hs r (b s' x z)⟩
  | nu r g ih =>
    intro i e
    cases i with
    | zero => simp only [List.getElem?_cons_zero] at e; cases e
    | succ i => obtain ⟨O1, O2, p, f, q, d, a, j, b⟩ := ih (by simpa using e); exact ⟨O1, O2, p, f, q, d, a, fun s' x c z => .nu r (j s' x c z), fun s' x z => .nu r (b s' x z)⟩
  | od r g ih =>
    intro i e
    cases i with
    | zero => simp only [List.getElem?_cons_zero] at e; cases e; exact ⟨[], _, _, _, rfl, rfl, r, fun s' x c z => z _ _ _ g, fun s' x z => z _ _ _ g⟩
    | succ i => obtain ⟨O1, O2, p, f, q, d, a, j, b⟩ := ih (by simpa using e); exact ⟨_ :: O1, O2, p, f, by rw [q] <;> rfl, d, a, fun s' x c z => .od r (j s' x c z), fun s' x z => .od r (b s' x z)⟩
  | ow r g ih =>
    intro i e
    cases i with
    | zero => simp only [List.getElem?_cons_zero] at e; cases e
    | succ i => obtain ⟨O1, O2, p, f, q, d, a, j, b⟩ := ih (by simpa using e); exact ⟨_ :: O1, O2, p, f, by rw [q] <;> rfl, d, a, fun s' x c z => .ow r (j s' x c z), fun s' x z => .ow r (b s' x z)⟩
  | @ob _ _ _ _ _ _ _ k _ r g ih =>
    intro i e
    cases i with
    | zero => simp only [List.getElem?_cons_zero] at e; cases e
    | succ i =>
      obtain ⟨O1, O2, p, f, q, d, a, j, b⟩ := ih (by simpa using e)
      refine ⟨k ++ O1, O2, p, f, by rw [q, List.append_assoc], d, a, fun s' x c z => ?_, fun s' x z => ?_⟩
      · rw [List.append_assoc]; exact .ob r (j s' x c z)
      · rw [List.append_assoc]; exact .ob r (b s' x z)
theorem SlotsOk.ob_at {α : Type} [Ob K α] {a : α} (h : SlotsOk B F L H sl σ O) : ∀ {i : Nat}, sl[i]? = some (.ob n a) →
    ∃ O1 Oc O2 v, O = O1 ++ (Oc ++ O2) ∧ σ[i]? = some (some v) ∧ Ob.ro K (reg B F H (mdb n)) v a Oc ∧
      (∀ (s' : Slot K) (x : Option V) (c : Own), (∀ (sl : List (Slot K)) (σ : St) (O : Own), SlotsOk B F L H sl σ O → SlotsOk B F L H (s' :: sl) (x :: σ) (c ++ O)) → SlotsOk B F L H (sl.set i s') (σ.set i x) (O1 ++ (c ++ O2))) := by
  induction h with
  | nil => intro i e; simp at e
  | un g ih =>
    intro i e
    cases i with
    | zero => simp only [List.getElem?_cons_zero] at e; cases e
    | succ i => obtain ⟨O1, Oc, O2, v, q, d, f, b⟩ := ih (by simpa using e); exact ⟨O1, Oc, O2, v, q, d, f, fun s' x c z => .un (b s' x c z)⟩
  | fz r g ih =>
    intro i e
    cases i with
    | zero => simp only [List.getElem?_cons_zero] at e; cases e
    | succ i => obtain ⟨O1, Oc, O2, v, q, d, f, b⟩ := ih (by simpa using e); exact ⟨O1, Oc, O2, v, q, d, f, fun s' x c z => .fz r (b s' x c z)⟩
  | hs r g ih =>
    intro i e
    cases i with
    | zero => simp only [List.getElem?_cons_zero] at e; cases e
    | succ i => obtain ⟨O1, Oc, O2, v, q, d, f, b⟩ := ih (by simpa using e); exact ⟨O1, Oc, O2, v, q, d, f, fun s' x c z => .hs r (b s' x c z)⟩
  | nu r g ih =>
    intro i e
    cases i with
    | zero => simp only [List.getElem?_cons_zero] at e; cases e
    | succ i => obtain ⟨O1, Oc, O2, v, q, d, f, b⟩ := ih (by simpa using e); exact ⟨O1, Oc, O2, v, q, d, f, fun s' x c z => .nu r (b s' x c z)⟩
  | ow r g ih =>
    intro i e
    cases i with
    | zero => simp only [List.getElem?_cons_zero] at e; cases e
    | succ i => obtain ⟨O1, Oc, O2, v, q, d, f, b⟩ := ih (by simpa using e); exact ⟨_ :: O1, Oc, O2, v, by rw [q] <;> rfl, d, f, fun s' x c z => .ow r (b s' x c z)⟩
  | od r g ih =>
    intro i e
    cases i with
    | zero => simp only [List.getElem?_cons_zero] at e; cases e
    | succ i => obtain ⟨O1, Oc, O2, v, q, d, f, b⟩ := ih (by simpa using e); exact ⟨_ :: O1, Oc, O2, v, by rw [q] <;> rfl, d, f, fun s' x c z => .od r (b s' x c z)⟩
  | @ob _ _ _ _ _ _ _ Oc _ r g ih =>
    intro i e
    cases i with
    | zero => simp only [List.getElem?_cons_zero] at e; cases e; exact ⟨[], Oc, _, _, rfl, rfl, r, fun s' x c z => z _ _ _ g⟩
    | succ i =>
      obtain ⟨O1, j, O2, v, q, d, f, b⟩ := ih (by simpa using e)
      refine ⟨Oc ++ O1, j, O2, v, by rw [q, List.append_assoc], d, f, fun s' x c z => ?_⟩
      rw [List.append_assoc]; exact .ob r (b s' x c z)
end
end
end Ts
namespace Ts
open PySem L2
section
variable {K : PySem.W.Frag} {B : Bs} {F H F' H' L L' : Hp} {O O' O1 O2 : Own} {sl : List (Slot K)} {σ : St} {p : Addr} {o o' : HO}
theorem nd_mid {α : Type} {a b : List α} {x : α} : (a ++ x :: b).Nodup ↔ (a ++ b).Nodup ∧ x ∉ a ++ b := by
  grind
theorem Ok.add (k : Ok B F (O1 ++ O2) H) (h : H p = none) : Ok B F (O1 ++ (p, o) :: O2) (upd H p o) := by
  refine ⟨fun b u e => ?_, k.h0.put (k.h0.free h) o, k.fa, fun x hx => ?_, ?_⟩
  · rw [upd_ne (ne_of_none (k.fh b u e) h)]; exact k.fh b u e
  · have hx' : x = (p, o) ∨ x ∈ O1 ++ O2 := by
      grind
    rcases hx' with rfl | hx'
    · exact ⟨k.fh.free h, k.h0.free h, upd_same⟩
    · obtain ⟨a1, a2, a3⟩ := k.fo x hx'
      exact ⟨a1, a2, by rw [upd_ne (ne_of_none a3 h)]; exact a3⟩
  · rw [List.map_append, List.map_cons, nd_mid, ← List.map_append]
    refine ⟨k.nd, fun z => ?_⟩
    obtain ⟨x, hx, e⟩ := List.mem_map.mp z
    obtain ⟨_, _, a3⟩ := k.fo x hx
    grind
theorem Ok.one (k : Ok B F (O1 ++ (p, o) :: O2) H) : F p = none ∧ B.H0 p = none ∧ H p = some o := k.fo (p, o) (List.mem_append.mpr (.inr List.mem_cons_self))
theorem Ok.ndp (k : Ok B F (O1 ++ (p, o) :: O2) H) : ∀ x ∈ O1 ++ O2, x.1 ≠ p := fun x hx e => by
  have q := k.nd
  grind
theorem Ok.drop (k : Ok B F (O1 ++ (p, o) :: O2) H) : Ok B F (O1 ++ O2) H := by
  refine ⟨k.fh, k.h0, k.fa, fun x hx => k.fo x ?_, ?_⟩
  · grind
  · have q := k.nd
    grind
theorem Ok.chg (k : Ok B F (O1 ++ (p, o) :: O2) H) (o' : HO) : Ok B F (O1 ++ (p, o') :: O2) (upd H p o') := by
  obtain ⟨a1, a2, a3⟩ := k.one
  refine ⟨k.fh.put a1 o', k.h0.put a2 o', k.fa, fun x hx => ?_, ?_⟩
  · have hx' : x = (p, o') ∨ x ∈ O1 ++ O2 := by
      grind
    rcases hx' with rfl | hx'
    · exact ⟨a1, a2, upd_same⟩
    · obtain ⟨b1, b2, b3⟩ := k.drop.fo x hx'
      exact ⟨b1, b2, by rw [upd_ne (k.ndp x hx')]; exact b3⟩
  · have q := k.nd
    grind
theorem Ok.freeze (k : Ok B F (O1 ++ (p, o) :: O2) H) : Ok B (upd F p o) (O1 ++ O2) H := by
  obtain ⟨a1, a2, a3⟩ := k.one
  refine ⟨fun b u e => ?_, k.h0, fun b u e => ?_, fun x hx => ?_, k.drop.nd⟩
  · by_cases q : b = p
    · subst q; rw [upd_same] at e; grind
    · rw [upd_ne q] at e; exact k.fh b u e
  · by_cases q : b = p
    · grind
    · rw [upd_ne q] at e; exact k.fa b u e
  · obtain ⟨b1, b2, b3⟩ := k.drop.fo x hx
    exact ⟨by rw [upd_ne (k.ndp x hx)]; exact b1, b2, b3⟩
theorem lo_add (h : H p = none) : Same (lo F (O1 ++ O2) H) (lo F (O1 ++ (p, o) :: O2) (upd H p o)) := fun b u e => by
  unfold lo at e ⊢
  by_cases q : b = p
  · grind
  · rw [upd_ne q]
    grind
theorem lo_chg : Same (lo F (O1 ++ (p, o) :: O2) H) (lo F (O1 ++ (p, o') :: O2) (upd H p o')) := fun b u e => by
  unfold lo at e ⊢
  by_cases q : b = p
  · grind
  · rw [upd_ne q]
    grind
theorem lo_drop : Same (lo F (O1 ++ (p, o) :: O2) H) (lo F (O1 ++ O2) H) := fun b u e => by
  unfold lo at e ⊢
  grind
theorem lo_freeze : Same (lo F (O1 ++ (p, o) :: O2) H) (lo (upd F p o) (O1 ++ O2) H) := fun b u e => by
  unfold lo at e ⊢
  split at e
  · cases e
  · rename_i h
    rw [List.any_append, List.any_cons] at h
    simp at h
    have q : b ≠ p := fun z => h.2.2.1 z.symm
    rw [upd_ne q, if_neg]
    · exact e
    · rw [List.any_append]
      simp
      exact ⟨h.1, h.2.1, h.2.2.2⟩
theorem Ok.called (k : Ok B F O H) (s : Same H H') : Grow B F H O (ext F H H') H' := by
  have e1 : ∀ b o, ext F H H' b = some o → F b = some o ∨ H b = none := fun b o h => by
    unfold ext at h
    grind
  refine ⟨fun b o h => ?_, s, ⟨fun b o h => ?_, k.h0.trans s, fun b o h => ?_, fun x hx => ?_, k.nd⟩, fun b h1 h2 => ?_⟩
  · unfold ext
    rw [k.fh b o h]
    exact h
  · unfold ext at h
    cases q : H b with
    | none => grind
    | some u => rw [q] at h; rw [← k.fh b o h]; exact (s b u q).trans q.symm
  · rcases e1 b o h with z | z
    · exact k.fa b o z
    · exact .inr (k.h0.free z)
  · obtain ⟨a1, a2, a3⟩ := k.fo x hx
    refine ⟨?_, a2, s _ _ a3⟩
    unfold ext
    grind
  · unfold ext
    grind
theorem ext_new (h0 : Same B.H0 H) (s : Same H H') : Same (dif H' H) (dif (ext F H H') B.H0) := fun b o h => by
  unfold dif at h
  cases q : H b with
  | none =>
    rw [dif_at (h0.free q)]
    unfold ext
    grind
  | some u => grind
variable {md md1 md2 : Md} {α β γ : Type} [Rp K α] [Rp K β] [Rp K γ] {t t1 t2 : TE} {m : Option α} {m1 : Option β} {m2 : Option γ}
noncomputable def Ex (B : Bs) (sl : List (Slot K)) (md : Md) (t : TE) {α : Type} [Rp K α] (m : Option α) : Prop :=
  ∀ a, m = some a → ∀ (F : Hp) (O : Own) (H : Hp) (σ : St) (Q : VK), At B sl F O H σ → (∀ (v : V) (F' H' : Hp), Grow B F H O F' H' → rp K (reg B F' H' md) v a → Q v H') → t σ H Q
noncomputable def Et (B : Bs) (sl : List (Slot K)) (t : TT) (m : Option Bool) : Prop :=
  ∀ a, m = some a → ∀ (F : Hp) (O : Own) (H : Hp) (σ : St) (Q : Bool → Hp → Prop), At B sl F O H σ → (∀ (F' H' : Hp), Grow B F H O F' H' → Q a H') → t σ H Q
inductive Ar (R : Hp) : List (Slot K) → List V → Prop
  | nil : Ar R [] []
  | cons {n : Bool} {α : Type} [Rp K α] {a : α} {v : V} {sl : List (Slot K)} {vs : List V} : rp K R v a → Ar R sl vs → Ar R (.fz n a :: sl) (v :: vs)
noncomputable def Ea (B : Bs) (sl : List (Slot K)) (md : Md) (t : TA) {A : Type} (as : A → List (Slot K)) (m : Option A) : Prop :=
  ∀ a, m = some a → ∀ (F : Hp) (O : Own) (H : Hp) (σ : St) (Q : List V → Hp → Prop), At B sl F O H σ → (∀ (vs : List V) (F' H' : Hp), Grow B F H O F' H' → Ar (reg B F' H' md) (as a) vs → Q vs H') → t σ H Q
theorem Ex.sc [Sc K α] (h : Ex B sl md t m) : Ex B sl md1 t m := fun a ha F O H σ Q s k => h a ha F O H σ Q s fun v F' H' g r => k v F' H' g (rp_sc r)
theorem ex_var {n : Bool} {a : α} (i : Nat) (hs : sl[i]? = some (.fz n a)) : Ex B sl (mdb n) (tVar i) (some a) := fun a' ha F O H σ Q s k => by
  cases ha
  obtain ⟨v, h1, h2⟩ := s.2.fz_at hs
  exact ⟨v, h1, k v F H (.refl s.1) h2⟩
theorem ex_varS [Sc K α] {n : Bool} {a : α} (i : Nat) (hs : sl[i]? = some (.fz n a)) : Ex B sl md (tVar i) (some a) := (ex_var i hs).sc
theorem lo_le : Same (lo F O H) H := fun b o h => by
  unfold lo at h
  grind
theorem reg_le (k : Ok B F O H) (n : Bool) : Same (reg B F H (mdb n)) H := match n with
  | true => dif_le.trans k.fh
  | false => k.fh
theorem ex_varH {a : α} (i : Nat) (hs : sl[i]? = some (.hs a)) : Ex B sl .hp (tVar i) (some a) := fun a' ha F O H σ Q s k => by
  cases ha
  obtain ⟨v, h1, h2⟩ := s.2.hs_at hs
  exact ⟨v, h1, k v F H (.refl s.1) h2⟩
theorem ex_varF {n : Bool} {a : α} (i : Nat) (hs : sl[i]? = some (.fz n a)) : Ex B sl .hp (tVar i) (some a) := fun a' ha F O H σ Q s k => by
  cases ha
  obtain ⟨v, h1, h2⟩ := s.2.fz_at hs
  exact ⟨v, h1, k v F H (.refl s.1) (Rp.mono (reg_le s.1 n) h2)⟩
theorem ex_c [Sc K α] (a : α) : Ex B sl md (tC (Sc.val K a)) (some a) := fun a' ha F O H σ Q s k => by cases ha; exact k _ F H (.refl s.1) (Sc.is.mpr rfl)
theorem ex_int (i : Int) : Ex B sl md (tC (.int i)) (some i) := ex_c i
theorem ex_bl (i : Bool) : Ex B sl md (tC (.bl i)) (some i) := ex_c i
theorem ex_str (i : Str) : Ex B sl md (tC (.str i)) (some i) := ex_c i
theorem bind2 {f : β → γ → Option α} (h : (m1.bind fun a => m2.bind fun b => f a b) = some c) : ∃ a b, m1 = some a ∧ m2 = some b ∧ f a b = some c := by
  cases m1 with
  | none => cases h
  | some a =>
    cases m2 with
    | none => cases h
    | some b => grind
theorem ex_op {f : β → γ → Option α} [Sc K α] (hr : ∀ (a : β) (b : γ) (c : α) (v w : V) (H : Hp) (Q : VK), f a b = some c → rp K H v a → rp K H w b → Q (Sc.val K c) H → r v w H Q)
    (h1 : Ex B sl .hp t1 m1) (h2 : Ex B sl .hp t2 m2) : Ex B sl md (tOp r t1 t2) (m1.bind fun a => m2.bind fun b => f a b) := fun c hc F O H σ Q s k => by
  obtain ⟨a, b, ha, hb, hf⟩ := bind2 hc
  refine h1 a ha F O H σ _ s fun v F' H' g r1 => ?_
  refine h2 b hb F' O H' σ _ (s.grow g) fun w F2 H2 g2 r2 => ?_
  exact hr a b c v w H2 Q hf (Rp.mono g2.hh r1) r2 (k _ F2 H2 (g.trans g2) (Sc.is.mpr rfl))
theorem et_test (h : Ex B sl md t m') : Et B sl (tTest t) m' := fun c hc F O H σ Q s k => h c hc F O H σ _ s fun v F' H' g r => ⟨c, r, k F' H' g⟩
theorem et_b (h : Ex B sl md t m') : Et B sl (tB t) m' := fun c hc F O H σ Q s k => h c hc F O H σ _ s fun v F' H' g r => ⟨c, r, k F' H' g⟩
theorem et_not {t : TT} {n : Option Bool} (h : Et B sl t n) : Et B sl (tNot t) (n.bind fun c => some !c) := fun c hc F O H σ Q s k => by
  cases n with
  | none => cases hc
  | some c' =>
    cases (hc)
    exact h c' rfl F O H σ _ s fun F' H' g => k F' H' g
theorem ex_not (h : Ex B sl .hp t n) : Ex B sl md (tNotV t) (n.bind fun c => some !c) := fun c hc F O H σ Q s k => by
  cases n with
  | none => cases hc
  | some c' =>
    cases (hc)
    refine h c' rfl F O H σ _ s fun v F' H' g r => ?_
    cases r
    exact ⟨c', rfl, k _ F' H' g rfl⟩
theorem et_and {t u : TT} {n n' : Option Bool} (h : Et B sl t n) (h' : Et B sl u n') : Et B sl (tAnd t u) (n.bind fun c => if c = true then n' else some false) := fun c hc F O H σ Q s k => by
  cases n with
  | none => cases hc
  | some c' =>
    refine h c' rfl F O H σ _ s fun F' H' g => ?_
    cases c' with
    | true => exact iteT (h' c (by simpa using hc) F' O H' σ _ (s.grow g) fun F2 H2 g2 => k F2 H2 (g.trans g2))
    | false => cases (show some false = some c from by simpa using hc); exact iteF (k F' H' g)
theorem et_or {t u : TT} {n n' : Option Bool} (h : Et B sl t n) (h' : Et B sl u n') : Et B sl (tOr t u) (n.bind fun c => if c = true then some true else n') := fun c hc F O H σ Q s k => by
  cases n with
  | none => cases hc
  | some c' =>
    refine h c' rfl F O H σ _ s fun F' H' g => ?_
    cases c' with
    | true => cases (show some true = some c from by simpa using hc); exact iteT (k F' H' g)
    | false => exact iteF (h' c (by simpa using hc) F' O H' σ _ (s.grow g) fun F2 H2 g2 => k F2 H2 (g.trans g2))
theorem ex_and (h : Ex B sl .hp t1 n) (h' : Ex B sl .hp t2 n') : Ex B sl md (tAndV t1 t2) (n.bind fun c => if c = true then n' else some false) := fun c hc F O H σ Q s k => by
  cases n with
  | none => cases hc
  | some c' =>
    refine h c' rfl F O H σ _ s fun v F' H' g r => ?_
    cases r
    refine ⟨c', rfl, ?_⟩
    cases c' with
    | true => exact iteT (h' c (by simpa using hc) F' O H' σ _ (s.grow g) fun v F2 H2 g2 r2 => k v F2 H2 (g.trans g2) (rp_sc r2))
    | false => cases (show some false = some c from by simpa using hc); exact iteF (k _ F' H' g rfl)
theorem ex_ife {t : TT} {n : Option Bool} {m m' : Option α} (h : Et B sl t n) (h1 : Ex B sl md t1 m) (h2 : Ex B sl md t2 m') : Ex B sl md (tIf t t1 t2) (n.bind fun c => if c = true then m else m') := fun c hc F O H σ Q s k => by
  cases n with
  | none => cases hc
  | some c' =>
    refine h c' rfl F O H σ _ s fun F' H' g => ?_
    cases c' with
    | true => exact iteT (h1 c (by simpa using hc) F' O H' σ _ (s.grow g) fun v F2 H2 g2 r2 => k v F2 H2 (g.trans g2) r2)
    | false => exact iteF (h2 c (by simpa using hc) F' O H' σ _ (s.grow g) fun v F2 H2 g2 r2 => k v F2 H2 (g.trans g2) r2)
theorem ea_nil : Ea B sl md tNil (fun _ : Unit => []) (some ()) := fun a ha F O H σ Q s k => k [] F H (.refl s.1) .nil
theorem ea_cons {A : Type} {as : A → List (Slot K)} {ma : Option A} (h1 : Ex B sl md t m) (h2 : Ea B sl md tr as ma) : Ea B sl md (tCons t tr) (fun x : α × A => .fz false x.1 :: as x.2) (m.bind fun a => ma.bind fun b => some (a, b)) := fun c hc F O H σ Q s k => by
  cases m with
  | none => cases hc
  | some a =>
    cases ma with
    | none => cases hc
    | some b =>
      cases (show some (a, b) = some c from hc)
      refine h1 a rfl F O H σ _ s fun v F' H' g r1 => ?_
      refine h2 b rfl F' O H' σ _ (s.grow g) fun vs F2 H2 g2 r2 => ?_
      exact k (v :: vs) F2 H2 (g.trans g2) (.cons (Rp.mono (reg_mono g2 md) r1) r2)
theorem reg_upd (k : Ok B F O H) (h : H p = none) (md : Md) : reg B (upd F p o) (upd H p o) md p = some o := match md with
  | .nw => by show dif (upd F p o) B.H0 p = _; rw [dif_at (k.h0.free h)]; exact upd_same
  | .fz => upd_same
  | .hp => upd_same
def cap : Nat := 100000
theorem cap_lt (h : n < cap) : n < sizeLine := Nat.lt_trans h (by decide)
theorem cap_le (h : n ≤ cap) : n ≤ sizeLine := Nat.le_trans h (by decide)
noncomputable def El (B : Bs) (sl : List (Slot K)) (md : Md) (t : TA) {α : Type} [Rp K α] (m : Option (List α)) : Prop :=
  ∀ a, m = some a → ∀ (F : Hp) (O : Own) (H : Hp) (σ : St) (Q : List V → Hp → Prop), At B sl F O H σ → (∀ (vs : List V) (F' H' : Hp), Grow B F H O F' H' → A2 (rp K (reg B F' H' md)) vs a → Q vs H') → t σ H Q
theorem el_nil : El B sl md tNil (some ([] : List α)) := fun a ha F O H σ Q s k => by cases ha; exact k [] F H (.refl s.1) trivial
theorem el_cons (h1 : Ex B sl md t m) (h2 : El B sl md tr ma) : El B sl md (tCons t tr) (m.bind fun a => ma.bind fun b => some (a :: b)) := fun c hc F O H σ Q s k => by
  cases m with
  | none => cases hc
  | some a =>
    cases ma with
    | none => cases hc
    | some b =>
      cases (show some (a :: b) = some c from hc)
      refine h1 a rfl F O H σ _ s fun v F' H' g r1 => ?_
      refine h2 b rfl F' O H' σ _ (s.grow g) fun vs F2 H2 g2 r2 => ?_
      exact k (v :: vs) F2 H2 (g.trans g2) ⟨Rp.mono (reg_mono g2 md) r1, r2⟩
noncomputable def Eo (B : Bs) (sl : List (Slot K)) (md : Md) (t : TE) {α : Type} [Rp K α] (m : Option (List α)) : Prop :=
  ∀ a, m = some a → ∀ (F : Hp) (O : Own) (H : Hp) (σ : St) (Q : VK), At B sl F O H σ → (∀ (p : Addr) (vs : List V) (F' H' : Hp), Grow B F H O F' H' → H' p = none → A2 (rp K (reg B F' H' md)) vs a → Q (.ref p) (upd H' p (.lst vs))) → t σ H Q
theorem Eo.ex {m : Option (List α)} (h : Eo B sl md t m) : Ex B sl md t m := fun a ha F O H σ Q s k => h a ha F O H σ Q s fun p vs F' H' g hp r => by
  have g2 := Grow.new g.ok hp (.lst vs)
  exact k _ _ _ (g.trans g2) ⟨p, vs, rfl, reg_upd g.ok hp md, r.imp fun _ _ => Rp.mono (reg_mono g2 md)⟩
theorem eo_nil : Eo B sl md (tLst tNil) (some ([] : List α)) := fun a ha F O H σ Q s k => by
  cases ha
  exact ⟨Nat.zero_le _, fun p hp => k p [] F H (.refl s.1) hp trivial⟩
theorem eo_lst {t : TA} {ma : Option (List α)} (h : El B sl md t ma) (hl : ∀ a, ma = some a → a.length ≤ cap) : Eo B sl md (tLst t) ma := fun a ha F O H σ Q s k =>
  h a ha F O H σ _ s fun vs F' H' g r => ⟨by rw [r.len]; exact cap_le (hl a ha), fun p hp => k p vs F' H' g hp r⟩
theorem ex_tup2 (h1 : Ex B sl md t1 m1) (h2 : Ex B sl md t2 m2) : Ex B sl md (tTup (tCons t1 (tCons t2 tNil))) (m1.bind fun a => m2.bind fun b => some (a, b)) := fun c hc F O H σ Q s kk => by
  obtain ⟨a, b, ha, hb, hf⟩ := bind2 hc
  cases hf
  refine h1 a ha F O H σ _ s fun v F' H' g r1 => ?_
  refine h2 b hb F' O H' σ _ (s.grow g) fun w F2 H2 g2 r2 => ?_
  refine ⟨by show 2 ≤ sizeLine; decide, fun p hp => ?_⟩
  have g3 := Grow.new g2.ok hp (.tup [v, w])
  exact kk _ _ _ (g.trans (g2.trans g3)) ⟨p, v, w, rfl, reg_upd g2.ok hp md, Rp.mono (reg_mono (g2.trans g3) md) r1, Rp.mono (reg_mono g3 md) r2⟩
def spF (K : PySem.W.Frag) (al : Bool) {A β : Type} [Rp K β] (as : A → List (Slot K)) (f : A → Option β) : Sp := fun vs H Q _ =>
  ∃ a b Fa, Same Fa H ∧ f a = some b ∧ Ar Fa (as a) vs ∧ ∀ v H', Same H H' → rp K (if al = true then ext Fa H H' else dif H' H) v b → Q v H'
theorem ex_call {A : Type} {as : A → List (Slot K)} {f : A → Option β} {ma : Option A} (h : Ea B sl .hp ta as ma) : Ex B sl md (tCall (spF K false as f) [] E0 ta) (ma.bind f) := fun c hc F O H σ Q s kk => by
  cases ma with
  | none => cases hc
  | some a =>
    refine h a rfl F O H σ _ s fun vs F' H' g r => ?_
    rw [List.append_nil]
    refine ⟨a, c, H', .refl _, hc, r, fun v H2 s2 r2 => ?_⟩
    have g2 := g.ok.called s2
    refine kk v _ H2 (g.trans g2) ?_
    have r3 := Rp.mono (ext_new (F := F') g.ok.h0 s2) r2
    exact match md with
    | .nw => r3
    | .fz => Rp.mono dif_le r3
    | .hp => Rp.mono (dif_le.trans g2.ok.fh) r3
end
end Ts
namespace Ts
open PySem L2
noncomputable def push {α : Type} (xs : List α) (a : α) : Option (List α) := if xs.length < cap then some (xs ++ [a]) else none
noncomputable def rangeM (n : Int) : Option (List Int) := if -(2 ^ 62) ≤ n ∧ n < 2 ^ 62 then some ((List.range n.toNat).map Int.ofNat) else none
def foldM {S α : Type} (step : S → α → Option S) : List α → S → Option S
  | [], s => some s
  | x :: b, s => (step s x).bind fun a => foldM step b a
inductive Out (S β : Type) | nx (s : S) | rt (b : β)
def foldX {S α β : Type} (step : S → α → Option (Out S β)) : List α → S → Option (Out S β)
  | [], s => some (.nx s)
  | x :: a, s => (step s x).bind fun o => match o with
    | .nx c => foldX step a c
    | .rt b => some (.rt b)
def compM {α β : Type} (c : α → Option Bool) (f : α → Option β) : List α → Option (List β)
  | [] => some []
  | x :: a => (c x).bind fun b => if b = true then (f x).bind fun y => (compM c f a).bind fun d => some (y :: d) else compM c f a
noncomputable def Out.els {S β : Type} (o : Out S β) (f : S → Option β) : Option β := match o with
  | .nx s => f s
  | .rt b => some b
noncomputable def Out.thn {S a β : Type} (o : Out S β) (f : S → Option (Out a β)) : Option (Out a β) := match o with
  | .nx s => f s
  | .rt b => some (.rt b)
theorem foldM_app {S α : Type} (step : S → α → Option S) : ∀ (xs ys : List α) (s : S), foldM step (xs ++ ys) s = (foldM step xs s).bind fun s' => foldM step ys s'
  | [], ys, s => rfl
  | x :: xs, ys, s => by
    show (step s x).bind _ = ((step s x).bind _).bind _
    cases step s x with
    | none => rfl
    | some s' => exact foldM_app step xs ys s'
theorem foldM_take {S α : Type} {step : S → α → Option S} {xs : List α} {s g : S} (h : foldM step xs s = some g) {x : α} (j : xs[i]? = some x) : ∃ a b, foldM step (xs.take i) s = some a ∧ step a x = some b ∧ foldM step (xs.take (i + 1)) s = some b := by
  have e : xs = xs.take (i + 1) ++ xs.drop (i + 1) := (List.take_append_drop _ _).symm
  have k : xs.take (i + 1) = xs.take i ++ [x] := by rw [List.take_add_one, j] <;> rfl
  rw [e, foldM_app] at h
  cases q : foldM step (xs.take (i + 1)) s with
  | none => rw [q] at h; cases h
  | some b =>
    have d := q
    rw [k, foldM_app] at d
    cases z : foldM step (xs.take i) s with
    | none => rw [z] at d; cases d
    | some a =>
      rw [z] at d
      have f : (step a x).bind (fun l => some l) = some b := d
      refine ⟨a, b, rfl, ?_, rfl⟩
      cases w : step a x with
      | none => rw [w] at f; cases f
      | some c => rw [w] at f; exact f
section
variable {K : PySem.W.Frag} {B : Bs} {F H F' H' G : Hp} {O : Own} {sl sl2 : List (Slot K)} {σ : St} {md : Md} {α β γ : Type} [Rp K α] [Rp K β] [Rp K γ] {t u v : TS} {te : TE} {m : Option α} {S S' : Type} {al : Bool}
def Sg (B : Bs) (G : Hp) (sl : List (Slot K)) (σ : St) (H : Hp) : Prop := ∃ F O, Same G F ∧ At B sl F O H σ
def Rt (K : PySem.W.Frag) {β : Type} [Rp K β] (B : Bs) (al : Bool) (b : β) (v : V) (H' : Hp) : Prop := Same B.H0 H' ∧ rp K (if al = true then ext B.Fa B.H0 H' else dif H' B.H0) v b
noncomputable def Sn (B : Bs) (sl : List (Slot K)) (t : TS) {S : Type} (L : S → List (Slot K)) (m : Option S) : Prop :=
  ∀ a, m = some a → ∀ (G : Hp) (D : Ends) (σ : St) (H : Hp), Sg B G sl σ H → (∀ b H', Sg B G (L a) b H' → D.nx b H') → t D σ H
noncomputable def SB (B : Bs) (sl : List (Slot K)) (t : TS) (al : Bool) {β : Type} [Rp K β] (m : Option β) : Prop :=
  ∀ b, m = some b → ∀ (G : Hp) (D : Ends) (σ : St) (H : Hp), Sg B G sl σ H → (∀ v H', Rt K B al b v H' → D.rt v H') → t D σ H
def XE (B : Bs) (G : Hp) (al : Bool) (L : S → List (Slot K)) (D : Ends) (o : Out S β) : Prop := match o with
  | .nx s => ∀ a H', Sg B G (L s) a H' → D.nx a H'
  | .rt b => ∀ v H', Rt K B al b v H' → D.rt v H'
noncomputable def Sx (B : Bs) (sl : List (Slot K)) (t : TS) (al : Bool) {S β : Type} [Rp K β] (L : S → List (Slot K)) (m : Option (Out S β)) : Prop :=
  ∀ o, m = some o → ∀ (G : Hp) (D : Ends) (σ : St) (H : Hp), Sg B G sl σ H → XE B G al L D o → t D σ H
theorem SB.of (h : SB B sl t al m) (q : m = m') : SB B sl t al m' := q ▸ h
theorem Sn.of (h : Sn B sl t L m) (q : m = m') : Sn B sl t L m' := q ▸ h
theorem Sx.of {L : S → List (Slot K)} {m m' : Option (Out S β)} (h : Sx B sl t al L m) (q : m = m') : Sx B sl t al L m' := q ▸ h
inductive Le : List (Slot K) → List (Slot K) → Prop
  | nil : Le [] []
  | eq {s : Slot K} {a b : List (Slot K)} : Le a b → Le (s :: a) (s :: b)
  | un {s : Slot K} {a b : List (Slot K)} : Le a b → Le (s :: a) (.un :: b)
  | fr {n : Bool} {α : Type} [Rp K α] {xs : List α} {a b : List (Slot K)} : Le a b → Le (.ow n xs :: a) (.fz n xs :: b)
  | old {α : Type} [Rp K α] {x : α} {a b : List (Slot K)} : Le a b → Le (.fz true x :: a) (.fz false x :: b)
  | fo {n : Bool} {α : Type} [Ob K α] {x : α} {a b : List (Slot K)} : Le a b → Le (.ob n x :: a) (@Slot.fz K n (Ob.β K α) (Ob.rpβ) (Ob.val x) :: b)
theorem Le.refl : ∀ sl : List (Slot K), Le sl sl
  | [] => .nil
  | _ :: sl => .eq (Le.refl sl)
theorem Ok.sub (k : Ok B F O H) (s : List.Sublist a O) : Ok B F a H := ⟨k.fh, k.h0, k.fa, fun x b => k.fo x (s.subset b), (s.map _).nodup k.nd⟩
theorem lo_sub (s : List.Sublist a O) : Same (lo F O H) (lo F a H) := fun b u e => by
  unfold lo at e ⊢
  grind
theorem Ok.freezeC : ∀ (Oc : Own) {F : Hp} {O : Own}, Ok B F (P ++ (Oc ++ O)) H → ∃ F2, Same F F2 ∧ Ok B F2 (P ++ O) H ∧ Same (lo F (P ++ (Oc ++ O)) H) (lo F2 (P ++ O) H) ∧ ∀ x ∈ Oc, F2 x.1 = some x.2 ∧ B.H0 x.1 = none
  | [], F, O, k => ⟨F, .refl _, k, .refl _, fun x hx => (by cases hx)⟩
  | (p, o) :: Oc, F, O, k => by
    obtain ⟨a1, a2, a3⟩ := k.one
    have sf : Same F (upd F p o) := same_new a1 _
    obtain ⟨F2, s2, k2, l2, m2⟩ := Ok.freezeC Oc (k.freeze)
    refine ⟨F2, sf.trans s2, k2, lo_freeze.trans l2, fun x hx => ?_⟩
    rcases List.mem_cons.mp hx with e | hx
    · subst e; exact ⟨s2 _ _ upd_same, a2⟩
    · exact m2 x hx
theorem SlotsOk.le (h : Le sl sl2) : ∀ {F : Hp} {σ : St} {O : Own}, Ok B F (P ++ O) H → SlotsOk B F (lo F (P ++ O) H) H sl σ O → ∃ F' f, Same F F' ∧ Ok B F' (P ++ f) H ∧ Same (lo F (P ++ O) H) (lo F' (P ++ f) H) ∧ SlotsOk B F' (lo F' (P ++ f) H) H sl2 σ f := by
  induction h generalizing P with
  | nil => intro F σ O k h; cases h; exact ⟨F, [], .refl _, k, .refl _, .nil⟩
  | eq _ ih =>
    intro F σ O k h
    cases h with
    | un h => obtain ⟨F', f, a, b, c, d⟩ := ih k h; exact ⟨F', f, a, b, c, .un d⟩
    | fz r h => obtain ⟨F', f, a, b, c, d⟩ := ih k h; exact ⟨F', f, a, b, c, .fz (Rp.mono (reg_mdb _ a) r) d⟩
    | hs r h => obtain ⟨F', f, a, b, c, d⟩ := ih k h; exact ⟨F', f, a, b, c, .hs r d⟩
    | nu r h => obtain ⟨F', f, a, b, c, d⟩ := ih k h; exact ⟨F', f, a, b, c, .nu (Rp.mono (dif_mono c) r) d⟩
    | @ow _ _ _ _ _ _ O p g r h =>
      have e : P ++ (p, HO.lst g) :: O = (P ++ [(p, HO.lst g)]) ++ O := by simp
      rw [e] at k h
      obtain ⟨F', f, a, b, c, d⟩ := ih k h
      have q : (P ++ [(p, HO.lst g)]) ++ f = P ++ (p, HO.lst g) :: f := by simp
      rw [q] at b c d
      rw [← e] at c
      exact ⟨F', _ :: f, a, b, c, .ow (r.imp fun _ _ => Rp.mono (reg_mdb _ a)) d⟩
    | @od _ _ _ _ _ O p g r h =>
      have e : P ++ (p, HO.dK g) :: O = (P ++ [(p, HO.dK g)]) ++ O := by simp
      rw [e] at k h
      obtain ⟨F', f, a, b, c, d⟩ := ih k h
      have q : (P ++ [(p, HO.dK g)]) ++ f = P ++ (p, HO.dK g) :: f := by simp
      rw [q] at b c d
      rw [← e] at c
      exact ⟨F', _ :: f, a, b, c, .od (r.imp fun _ _ z => ⟨z.1, Rp.mono a z.2⟩) d⟩
    | @ob _ _ _ _ _ _ O i v r h =>
      rw [← List.append_assoc] at k h
      obtain ⟨F', f, a, b, c, d⟩ := ih k h
      rw [List.append_assoc] at b c d
      rw [List.append_assoc] at c
      exact ⟨F', i ++ f, a, b, c, .ob (Ob.mono (reg_mdb _ a) r) d⟩
  | un _ ih =>
    intro F σ O k h
    cases h with
    | un h => obtain ⟨F', f, a, b, c, d⟩ := ih k h; exact ⟨F', f, a, b, c, .un d⟩
    | fz r h => obtain ⟨F', f, a, b, c, d⟩ := ih k h; exact ⟨F', f, a, b, c, .un d⟩
    | hs r h => obtain ⟨F', f, a, b, c, d⟩ := ih k h; exact ⟨F', f, a, b, c, .un d⟩
    | nu r h => obtain ⟨F', f, a, b, c, d⟩ := ih k h; exact ⟨F', f, a, b, c, .un d⟩
    | ow r h => obtain ⟨F', f, a, b, c, d⟩ := ih k.drop (h.mono (.refl _) lo_drop (.refl _)); exact ⟨F', f, a, b, lo_drop.trans c, .un d⟩
    | od r h => obtain ⟨F', f, a, b, c, d⟩ := ih k.drop (h.mono (.refl _) lo_drop (.refl _)); exact ⟨F', f, a, b, lo_drop.trans c, .un d⟩
    | @ob _ _ _ _ _ _ O i v r h =>
      have l : List.Sublist (P ++ O) (P ++ (i ++ O)) := List.Sublist.append (List.Sublist.refl P) (List.sublist_append_right i O)
      obtain ⟨F', f, a, b, c, d⟩ := ih (k.sub l) (h.mono (.refl _) (lo_sub l) (.refl _))
      exact ⟨F', f, a, b, (lo_sub l).trans c, .un d⟩
  | @fr n _ _ _ _ _ _ ih =>
    intro F σ O k h
    cases h with
    | @ow _ _ _ _ _ _ O p g r h =>
      obtain ⟨I, A, a3⟩ := k.one
      have j : Same F (upd F p (.lst g)) := same_new I _
      obtain ⟨F', f, a, b, c, d⟩ := ih k.freeze (h.mono j lo_freeze (.refl _))
      refine ⟨F', f, j.trans a, b, lo_freeze.trans c, .fz ⟨p, g, rfl, ?_, r.imp fun _ _ => Rp.mono (reg_mdb _ (j.trans a))⟩ d⟩
      cases n with
      | true => exact (dif_at A).trans (a _ _ upd_same)
      | false => exact a _ _ upd_same
  | old _ ih =>
    intro F σ O k h
    cases h with
    | fz r h => obtain ⟨F', f, a, b, c, d⟩ := ih k h; exact ⟨F', f, a, b, c, .fz (Rp.mono (dif_le.trans a) r) d⟩
  | @fo n _ _ _ _ _ _ ih =>
    intro F σ O k h
    cases h with
    | @ob _ _ _ _ _ _ O i v r h =>
      obtain ⟨F2, o, y, s, C⟩ := Ok.freezeC i k
      obtain ⟨F', f, a, b, c, d⟩ := ih y (h.mono o s (.refl _))
      refine ⟨F', f, o.trans a, b, s.trans c, @SlotsOk.fz _ _ _ _ _ _ _ Ob.rpβ _ _ _ _ _ (Ob.frz (Ob.mono (reg_mdb _ (o.trans a)) r) fun x D => ?_) d⟩
      obtain ⟨w, E⟩ := C x D
      cases n with
      | true => exact (dif_at E).trans (a _ _ w)
      | false => exact a _ _ w
theorem Sg.le (h : Sg B G sl σ H) (l : Le sl sl2) : Sg B G sl2 σ H := by
  obtain ⟨F, O, g, k, s⟩ := h
  obtain ⟨F', c, a, b, _, d⟩ := SlotsOk.le (P := []) l k s
  exact ⟨F', c, g.trans a, b, d⟩
theorem Sg.grow (g : Same G F) (h : At B sl F a H σ) (b : Grow B F H a F' H') : Sg B G sl σ H' := ⟨F', a, g.trans b.ff, h.grow b⟩
theorem sn_nil (L : S → List (Slot K)) (s : S) (h : Le sl (L s)) : Sn B sl tNext L (some s) := fun a b G D σ H q k => by cases b; exact k σ H (q.le h)
theorem sn_cons {f : S → Option S'} (d : Sn B sl t L b) (h2 : ∀ s, Sn B (L s) u L' (f s)) : Sn B sl (tSeq t u) L' (b.bind f) := fun a c G D σ H q k => by
  cases b with
  | none => cases c
  | some s => exact d s rfl G _ σ H q fun e H' g => h2 s a c G D e H' g k
theorem sb_cons {f : S → Option β} (d : Sn B sl t L b) (h2 : ∀ s, SB B (L s) u al (f s)) : SB B sl (tSeq t u) al (b.bind f) := fun a c G D σ H q k => by
  cases b with
  | none => cases c
  | some s => exact d s rfl G _ σ H q fun e H' g => h2 s a c G D e H' g k
theorem sx_cons {f : S → Option (Out S' β)} (d : Sn B sl t L b) (h2 : ∀ s, Sx B (L s) u al L' (f s)) : Sx B sl (tSeq t u) al L' (b.bind f) := fun a c G D σ H q k => by
  cases b with
  | none => cases c
  | some s => exact d s rfl G _ σ H q fun e H' g => h2 s a c G D e H' g k
theorem sb_consx {f : S → Option β} (d : Sx B sl t al L e) (h2 : ∀ s, SB B (L s) u al (f s)) : SB B sl (tSeq t u) al (e.bind fun o => o.els f) := fun a c G D σ H q k => by
  cases e with
  | none => cases c
  | some o =>
    cases o with
    | nx s => exact d _ rfl G _ σ H q fun h H' g => h2 s a c G D h H' g k
    | rt b => cases c; exact d _ rfl G { D with nx := u D } σ H q k
theorem sx_consx {f : S → Option (Out S' β)} (d : Sx B sl t al L e) (h2 : ∀ s, Sx B (L s) u al L' (f s)) : Sx B sl (tSeq t u) al L' (e.bind fun o => o.thn f) := fun a c G D σ H q k => by
  cases e with
  | none => cases c
  | some o =>
    cases o with
    | nx s => exact d _ rfl G _ σ H q fun h H' g => h2 s a c G D h H' g k
    | rt b => cases c; exact d _ rfl G { D with nx := u D } σ H q k
theorem sx_nil (L : S → List (Slot K)) (s : S) (h : Le sl (L s)) : Sx B sl tNext al L (some (.nx s) : Option (Out S β)) := fun a b G D σ H q k => by cases b; exact k σ H (q.le h)
theorem rt_of (k : Ok B F' O H') (n : Bool) {v : V} {b : β} (r : rp K (reg B F' H' (mdb n)) v b) (a : n = !al) : Rt K B al b v H' := by
  refine ⟨k.h0, ?_⟩
  cases al with
  | false => subst a; exact Rp.mono (dif_mono k.fh) r
  | true =>
    subst a
    refine Rp.mono (fun b o h => ?_) r
    show ext B.Fa B.H0 H' b = some o
    unfold ext
    cases q : B.H0 b with
    | none => exact k.fh b o h
    | some u =>
      rcases k.fa b o h with z | z
      · exact z
      grind
theorem sb_ret (h : Ex B sl (mdb !al) te m) : SB B sl (tSeq (tRet te) u) al m := fun b c G D σ H s k => by
  obtain ⟨F, O, g, a⟩ := s
  exact h b c F O H σ _ a fun v F' H' d r => k v H' (rt_of d.ok (!al) r rfl)
theorem sn_if (hc : Et B sl c n) (h1 : Sn B sl t L m1) (h2 : Sn B sl u L m2) : Sn B sl (tIfS c t u) L (n.bind fun b => if b = true then m1 else m2) := fun a ha G D σ H s k => by
  cases n with
  | none => cases ha
  | some b =>
    obtain ⟨F, O, g, z⟩ := s
    refine hc b rfl F O H σ _ z fun F' H' gr => ?_
    cases b with
    | true => exact iteT (h1 a (by simpa using ha) G D σ H' (Sg.grow g z gr) k)
    | false => exact iteF (h2 a (by simpa using ha) G D σ H' (Sg.grow g z gr) k)
theorem sb_ifr {c : TT} {n : Option Bool} {f e : Option β} (j : Et B sl c n) (i : SB B sl t al f) (h2 : SB B sl u al e) : SB B sl (tSeq (tIfS c t tNext) u) al (n.bind fun b => if b = true then f else e) := fun a h G D σ H s k => by
  cases n with
  | none => cases h
  | some b =>
    obtain ⟨F, O, g, z⟩ := s
    refine j b rfl F O H σ _ z fun F' H' d => ?_
    cases b with
    | true => exact iteT (i a (by grind) G _ σ H' (Sg.grow g z d) k)
    | false => exact iteF (h2 a (by grind) G D σ H' (Sg.grow g z d) k)
theorem sx_ifr {c : TT} {n : Option Bool} {m1 : Option β} {L : S → List (Slot K)} {m2 : Option (Out S β)} (hc : Et B sl c n) (h1 : SB B sl t al m1) (h2 : Sx B sl u al L m2) :
    Sx B sl (tSeq (tIfS c t tNext) u) al L (n.bind fun b => if b = true then m1.bind fun b => some (.rt b) else m2) := fun a ha G D σ H s k => by
  cases n with
  | none => cases ha
  | some b =>
    obtain ⟨F, O, g, z⟩ := s
    refine hc b rfl F O H σ _ z fun F' H' gr => ?_
    cases b with
    | true =>
      have e := (show (m1.bind fun b => some (Out.rt b)) = some a by simpa using ha)
      cases m1 with
      | none => cases e
      | some b => cases e; exact iteT (h1 b rfl G _ σ H' (Sg.grow g z gr) k)
    | false => exact iteF (h2 a (by simpa using ha) G D σ H' (Sg.grow g z gr) k)
theorem Sg.set {s : Slot K} {i : Nat} {n : Bool} {a : α} {v : V} {O : Own} (g : Same G F) (h : At B sl F O H σ) (b : sl[i]? = some s) (c : isOw s = false) (r : rp K (reg B F H (mdb n)) v a) : Sg B G (sl.set i (.fz n a)) (σ.set i (some v)) H :=
  ⟨F, O, g, h.1, h.2.put (fun _ _ _ z => .fz r z) b c⟩
theorem sn_set (n : Bool) (i : Nat) (d : sl[i]? = some s) (e : isOw s = false) (h : Ex B sl (mdb n) te m) : Sn B sl (tAsg te (gName i)) (fun a => sl.set i (.fz n a)) m := fun a c G D σ H s k => by
  obtain ⟨F, O, g, z⟩ := s
  exact h a c F O H σ _ z fun v F' H' b r => k _ _ (Sg.set (g.trans b.ff) (z.grow b) d e r)
theorem sn_expr (h : Ex B sl md te m) : Sn B sl (tDrop te) (fun _ => sl) m := fun a b G D σ H s k => by
  obtain ⟨F, O, g, z⟩ := s
  exact h a b F O H σ _ z fun v F' H' c r => k _ _ (Sg.grow g z c)
theorem At.own {s : Slot K} {i : Nat} {n : Bool} {xs : List α} {vs : List V} {p : Addr} (h : At B sl F O H σ) (e : sl[i]? = some s) (d : isOw s = false) (a : H p = none) (r : A2 (rp K (reg B F H (mdb n))) vs xs) :
    ∃ b, At B (sl.set i (.ow n xs)) F b (upd H p (.lst vs)) (σ.set i (some (.ref p))) := by
  obtain ⟨k, f⟩ := h
  obtain ⟨O1, O2, rfl, z⟩ := f.own (c := (p, .lst vs)) (fun _ _ _ z => .ow r z) e d
  exact ⟨_, k.add a, z.mono (.refl _) (lo_add a) (same_new a _)⟩
theorem sn_own {s : Slot K} {m : Option (List α)} (n : Bool) (i : Nat) (d : sl[i]? = some s) (e : isOw s = false) (h : Eo B sl (mdb n) te m) : Sn B sl (tAsg te (gName i)) (fun a => sl.set i (.ow n a)) m := fun a f G D σ H s k => by
  obtain ⟨F, O, g, z⟩ := s
  refine h a f F O H σ _ z fun p vs F' H' b l r => k _ _ ?_
  obtain ⟨c, j⟩ := (z.grow b).own d e l r
  exact ⟨F', c, g.trans b.ff, j⟩
theorem sn_dnew (i : Nat) (f : sl[i]? = some s) (e : isOw s = false) : Sn B sl (tAsg tDNewK (gName i)) (fun _ => sl.set i (.od ([] : List (Key × α)))) (some ()) := fun a ha G D σ H s k => by
  obtain ⟨F, O, g, j, d⟩ := s
  intro p b
  refine k _ _ ?_
  obtain ⟨O1, O2, rfl, h⟩ := d.own (s' := .od ([] : List (Key × α))) (c := (p, .dK [])) (fun _ _ _ z => .od trivial z) f e
  exact ⟨F, _, g, j.add b, h.mono (.refl _) (lo_add b) (same_new b _)⟩
theorem set_self {α : Type} : ∀ {l : List α} {i : Nat} {x : α}, l[i]? = some x → l.set i x = l
  | [], _, _, h => by simp at h
  | _ :: _, 0, _, h => by simp at h; subst h; rfl
  | _ :: l, i + 1, _, h => congrArg _ (set_self (l := l) (i := i) (by simpa using h))
theorem all_set {P : Slot K → Bool} (hs : P s = true) : ∀ {l : List (Slot K)} {i : Nat}, l.all P = true → (l.set i s).all P = true
  | [], _, h => h
  | _ :: _, 0, h => by grind
  | _ :: l, i + 1, h => by grind
theorem At.chgD (h : At B sl F O H σ) (g : sl[i]? = some (.od kvs)) (d : sl.all (fun s => !isHs s) = true) : ∃ p ks, σ[i]? = some (some (.ref p)) ∧ H p = some (.dK ks) ∧ A2 (fun (x : Key × V) (y : Key × α) => x.1 = y.1 ∧ rp K F x.2 y.2) ks kvs ∧
    ∀ (ws : List (Key × V)) (ys : List (Key × α)), A2 (fun (x : Key × V) (y : Key × α) => x.1 = y.1 ∧ rp K F x.2 y.2) ws ys → ∃ b, At B (sl.set i (.od ys)) F b (upd H p (.dK ws)) σ := by
  obtain ⟨k, c⟩ := h
  obtain ⟨O1, O2, p, e, rfl, a, j, f, _⟩ := c.od_at g
  refine ⟨p, e, a, k.one.2.2, j, fun ws ys r => ⟨_, k.chg (.dK ws), ?_⟩⟩
  have z := f (.od ys) (some (.ref p)) (p, .dK ws) fun _ _ _ z => .od r z
  rw [set_self a] at z
  exact z.mut lo_chg (all_set rfl d)
end
end Ts
namespace Ts
open PySem L2
section
variable {K : PySem.W.Frag} {B : Bs} {F H F' H' G : Hp} {O : Own} {sl sl2 : List (Slot K)} {σ : St} {md : Md} {α β γ : Type} [Rp K α] [Rp K β] [Rp K γ] {tb u v : TS} {te : TE} {m : Option α} {S S' : Type} {al n : Bool}
theorem foldX_app {S α β : Type} (step : S → α → Option (Out S β)) : ∀ (xs ys : List α) (s : S), foldX step (xs ++ ys) s = (foldX step xs s).bind fun o => o.thn fun s' => foldX step ys s'
  | [], ys, s => rfl
  | x :: xs, ys, s => by
    show (step s x).bind _ = ((step s x).bind _).bind _
    cases step s x with
    | none => rfl
    | some o =>
      cases o with
      | nx s' => exact foldX_app step xs ys s'
      | rt b => rfl
theorem foldX_take {S α β : Type} {step : S → α → Option (Out S β)} {xs : List α} {s a : S} {x : α} (h : foldX step (xs.take i) s = some (.nx a)) (c : xs[i]? = some x) : foldX step (xs.take (i + 1)) s = step a x := by
  have b : xs.take (i + 1) = xs.take i ++ [x] := by rw [List.take_add_one, c] <;> rfl
  rw [b, foldX_app, h]
  show (step a x).bind _ = step a x
  cases step a x with
  | none => rfl
  | some o => cases o <;> rfl
theorem foldX_end {S α β : Type} {step : S → α → Option (Out S β)} {xs : List α} {s : S} {o : Out S β} {b : β} (h : foldX step xs s = some o) (a : foldX step (xs.take i) s = some (.rt b)) : o = .rt b := by
  rw [← List.take_append_drop i xs, foldX_app, a] at h
  cases h
  rfl
theorem foldX_some {S α β : Type} {step : S → α → Option (Out S β)} {xs : List α} {s : S} {o : Out S β} (i : Nat) (h : foldX step xs s = some o) : ∃ a, foldX step (xs.take i) s = some a := by
  rw [← List.take_append_drop i xs, foldX_app] at h
  cases q : foldX step (xs.take i) s with
  | none => grind
  | some a => grind
def Yl (K : PySem.W.Frag) (B : Bs) (F' : Hp) (n : Bool) (J : It) {α : Type} [Rp K α] (xs : List α) : Prop := ∀ (i : Nat) (c : Hp) (f : Own) (b : Hp), Same F' c → Ok B c f b →
  (xs.length ≤ i → J.stop i b) ∧ ∀ x, xs[i]? = some x → J.go i b ∧ ∀ v d, J.yld i b v d → ∃ e, Grow B c b f e d ∧ rp K (reg B e d (mdb n)) v x
noncomputable def Ei (B : Bs) (sl : List (Slot K)) (n : Bool) (b : TI) {α : Type} [Rp K α] (mi : Option (List α)) : Prop :=
  ∀ a, mi = some a → ∀ (F : Hp) (O : Own) (H : Hp) (σ : St) (R : It → Hp → Prop), At B sl F O H σ → (∀ (J : It) (F' H' : Hp), Grow B F H O F' H' → Yl K B F' n J a → R J H') → b σ H R
def Tg (B : Bs) (sl : List (Slot K)) (n : Bool) (g : TG) {α : Type} [Rp K α] (L : α → List (Slot K)) : Prop :=
  ∀ (v : V) (x : α) (F : Hp) (O : Own) (H : Hp) (σ : St) (Q : St → Hp → Prop), At B sl F O H σ → rp K (reg B F H (mdb n)) v x → (∀ b, At B (L x) F O H b → Q b H) → g v σ H Q
theorem tg_name (i : Nat) (b : sl[i]? = some s) (c : isOw s = false) : Tg B sl n (gName i) (fun x : α => sl.set i (.fz n x)) := fun v x F O H σ Q a r k => k _ ⟨a.1, a.2.put (fun _ _ _ z => .fz r z) b c⟩
theorem tup_reg (k : Ok B F O H) (h : reg B F H (mdb n) p = some o) : H p = some o := reg_le k n p o h
theorem tg_tup (i j : Nat) (l : sl[i]? = some s) (g : isOw s = false) (d : ∀ x : Slot K, (sl.set i x)[j]? = some s') (c : isOw s' = false) :
    Tg B sl n (gTup K 2 (gCons (gName i) (gCons (gName j) gNil))) (fun x : α × β => (sl.set i (.fz n x.1)).set j (.fz n x.2)) := fun v x F O H σ Q a r k => by
  obtain ⟨p, e, b, rfl, f, o, h⟩ := r
  refine ⟨p, [e, b], rfl, .inl (.inl (tup_reg a.1 f)), rfl, e, [b], rfl, b, [], rfl, rfl, ?_⟩
  exact k _ ⟨a.1, (a.2.put (fun _ _ _ z => .fz o z) l g).put (fun _ _ _ z => .fz h z) (d _) c⟩
theorem sn_for {L : S → List (Slot K)} {A : S → α → List (Slot K)} {step : S → α → Option S} (f : S) (h0 : Le sl (L f)) (R : Ei B (L f) n I mi) (hg : ∀ s, Tg B (L s) n g (A s)) (hb : ∀ s x, Sn B (A s x) tb L (step s x)) :
    Sn B sl (tFor I g tb) L (mi.bind fun xs => foldM step xs f) := fun U b G D σ H q k => by
  cases mi with
  | none => cases b
  | some xs =>
    have b : foldM step xs f = some U := b
    obtain ⟨F, O, Y, a⟩ := q.le h0
    refine R xs rfl F O H σ _ a fun J F' H' y Z => ?_
    refine ⟨fun i m σ H => m = xs.length - i ∧ i ≤ xs.length ∧ ∃ s, foldM step (xs.take i) f = some s ∧ Sg B F' (L s) σ H, ⟨xs.length, rfl, Nat.zero_le _, f, rfl, F', O, .refl _, a.grow y⟩, ?_⟩
    rintro i m σ H ⟨rfl, hil, s, o, E, h, j, l⟩
    obtain ⟨y1, y2⟩ := Z i E h H j l.1
    by_cases d : i < xs.length
    · obtain ⟨M, Q⟩ := y2 xs[i] (List.getElem?_eq_getElem d)
      obtain ⟨s', c, t, X, N⟩ := foldM_take b (List.getElem?_eq_getElem d)
      rw [o] at t
      cases t
      refine .inr ⟨M, Sg B F' (L c), fun w H' z => ⟨xs.length - (i + 1), by lia, rfl, d, c, N, z⟩, fun v p P => ?_⟩
      obtain ⟨r, C, r3⟩ := Q v p P
      exact hg s v xs[i] r h p σ _ (l.grow C) r3 fun w T => hb s xs[i] c X F' _ w p ⟨r, h, j.trans C.ff, T⟩ fun σ2 H2 z => z
    · have e : i = xs.length := by lia
      subst e
      rw [List.take_length, b] at o
      cases o
      exact .inl ⟨y1 (Nat.le_refl _), k σ H ⟨E, h, (Y.trans y.ff).trans j, l⟩⟩
theorem sx_for {L : S → List (Slot K)} {Lx : S → α → List (Slot K)} {step : S → α → Option (Out S β)} (s0 : S) (h0 : Le sl (L s0)) (hi : Ei B (L s0) n wi mi) (hg : ∀ s, Tg B (L s) n g (Lx s)) (hb : ∀ s x, Sx B (Lx s x) tb al L (step s x)) :
    Sx B sl (tFor wi g tb) al L (mi.bind fun xs => foldX step xs s0) := fun o ho G D σ H q k => by
  cases mi with
  | none => cases ho
  | some xs =>
    have ho : foldX step xs s0 = some o := ho
    obtain ⟨F, O, g0, a⟩ := q.le h0
    refine hi xs rfl F O H σ _ a fun J F' H' gr yl => ?_
    refine ⟨fun i m σ H => m = xs.length - i ∧ i ≤ xs.length ∧ ∃ s, foldX step (xs.take i) s0 = some (.nx s) ∧ Sg B F' (L s) σ H, ⟨xs.length, rfl, Nat.zero_le _, s0, rfl, F', O, .refl _, a.grow gr⟩, ?_⟩
    rintro i m σ H ⟨rfl, hil, s, hs, F2, O2, sf, a2⟩
    obtain ⟨y1, y2⟩ := yl i F2 O2 H sf a2.1
    by_cases hlt : i < xs.length
    · obtain ⟨go, y3⟩ := y2 xs[i] (List.getElem?_eq_getElem hlt)
      have e2 := foldX_take hs (List.getElem?_eq_getElem hlt)
      obtain ⟨o', e3⟩ := foldX_some (i + 1) ho
      refine .inr ⟨go, fun σ H => ∃ s', o' = .nx s' ∧ Sg B F' (L s') σ H, fun σ' H' ⟨s', e, z⟩ => ⟨xs.length - (i + 1), by omega, rfl, hlt, s', by rw [e3, e], z⟩, fun v H3 yd => ?_⟩
      obtain ⟨F3, g3, r3⟩ := y3 v H3 yd
      refine hg s v xs[i] F3 O2 H3 σ _ (a2.grow g3) r3 fun σ' a' => hb s xs[i] o' (by rw [← e2, e3]) F' _ σ' H3 ⟨F3, O2, sf.trans g3.ff, a'⟩ ?_
      cases o' with
      | nx s' => exact fun σ2 H2 z => ⟨s', rfl, z⟩
      | rt b =>
        have := foldX_end ho e3
        subst this
        exact k
    · have e : i = xs.length := by omega
      subst e
      rw [List.take_length, ho] at hs
      cases hs
      exact .inl ⟨y1 (Nat.le_refl _), k σ H ⟨F2, O2, (g0.trans gr.ff).trans sf, a2⟩⟩
theorem ei_list {mi : Option (List α)} (h : Ex B sl (mdb n) te mi) : Ei B sl n (iList K te) mi := fun t d F O H σ R a k => by
  refine h t d F O H σ _ a fun v F' H' j r => ?_
  obtain ⟨p, b, rfl, c, q⟩ := r
  refine ⟨p, rfl, ⟨b, SqL.of (reg_le j.ok n p _ c)⟩, k _ F' H' j fun i s O2 C l g => ?_⟩
  have f : SqL K C p b := SqL.of (g.fh _ _ (l _ _ (by cases n with | true => exact dif_le _ _ c | false => exact c)))
  refine ⟨fun z => ⟨b, f, by rw [q.len]; exact z⟩, fun x d => ?_⟩
  obtain ⟨w, o, D⟩ := q.at2 d
  refine ⟨⟨b, w, f, o⟩, fun v H3 A => ?_⟩
  obtain ⟨e, y⟩ := A
  subst e
  have := (o.symm.trans (y b f))
  cases this
  exact ⟨s, .refl g, Rp.mono (reg_mdb n l) D⟩
theorem range_at {k i : Nat} {x : Int} (h : ((List.range k).map Int.ofNat)[i]? = some x) : i < k ∧ x = i := by
  grind
theorem ei_range (h : Ex B sl .hp te mi) : Ei B sl n (iRng1 (tCons te tNil)) (mi.bind rangeM) := fun xs hx F O H σ R a k => by
  cases mi with
  | none => cases hx
  | some j =>
    have hx : rangeM j = some xs := hx
    unfold rangeM at hx
    split at hx
    case isFalse => cases hx
    rename_i hb
    cases hx
    refine h j rfl F O H σ _ a fun v F' H' gr r => ?_
    cases r
    refine ⟨j, rfl, hb.1, hb.2, k _ F' H' gr fun i F2 O2 H2 sf k2 => ⟨fun hl => ?_, fun x hx => ?_⟩⟩
    · rw [List.length_map, List.length_range] at hl; exact hl
    · obtain ⟨h1, rfl⟩ := range_at hx
      refine ⟨h1, fun v H3 yd => ?_⟩
      obtain ⟨rfl, rfl⟩ := yd
      exact ⟨F2, .refl k2, by show V.int (0 + (i : Int)) = V.int i; rw [Int.zero_add]⟩
def enumL {α : Type} (xs : List α) : List (Int × α) := ((List.range xs.length).map Int.ofNat).zip xs
theorem enumL_at {α : Type} {xs : List α} {i : Nat} {x : Int × α} (h : (enumL xs)[i]? = some x) : x.1 = i ∧ xs[i]? = some x.2 := by
  unfold enumL at h
  rw [List.getElem?_zip_eq_some] at h
  exact ⟨(range_at h.1).2, h.2⟩
theorem enumL_len {α : Type} (xs : List α) : (enumL xs).length = xs.length := by unfold enumL; simp
theorem ei_enum {mi : Option (List α)} (h : Ex B sl (mdb n) te mi) : Ei B sl n (iEnum K (tCons te tNil)) (mi.bind fun xs => some (enumL xs)) := fun xs c F O H σ R a k => by
  cases mi with
  | none => cases c
  | some z =>
    cases (c)
    refine h z rfl F O H σ _ a fun v F' H' l r => ?_
    obtain ⟨p, b, rfl, f, s⟩ := r
    refine ⟨p, rfl, ⟨b, SqL.of (reg_le l.ok n p _ f)⟩, k _ F' H' l fun i F2 O2 I g d => ?_⟩
    have e : SqL K I p b := SqL.of (d.fh _ _ (g _ _ (by cases n with | true => exact dif_le _ _ f | false => exact f)))
    refine ⟨fun D => ⟨b, e, by rw [s.len, ← enumL_len]; exact D⟩, fun x c => ?_⟩
    obtain ⟨C, E⟩ := enumL_at c
    obtain ⟨w, q, A⟩ := s.at2 E
    refine ⟨⟨b, w, e, q⟩, fun v H3 J => ?_⟩
    obtain ⟨t, x', rfl, o, rfl, y⟩ := J
    have := (q.symm.trans (y b e))
    cases this
    have j := Grow.new d o (.tup [.int i, w])
    refine ⟨_, j, t, .int i, w, rfl, ?_, ?_, Rp.mono (reg_mdb n (g.trans j.ff)) A⟩
    · exact reg_upd d o (mdb n)
    · rw [C]; rfl
noncomputable def compL {α β : Type} (c : α → Option Bool) (f : α → Option β) (xs : List α) : Option (List β) := if xs.length < cap then compM c f xs else none
theorem compM_app {α β : Type} (c : α → Option Bool) (f : α → Option β) : ∀ (xs ys : List α), compM c f (xs ++ ys) = (compM c f xs).bind fun a => (compM c f ys).bind fun b => some (a ++ b)
  | [], ys => by
    rw [List.nil_append]
    show compM c f ys = (compM c f ys).bind fun b => some ([] ++ b)
    cases compM c f ys <;> rfl
  | x :: xs, ys => by
    show (c x).bind _ = ((c x).bind _).bind _
    cases c x with
    | none => rfl
    | some b =>
      cases b with
      | true =>
        show (f x).bind _ = ((f x).bind _).bind _
        cases f x with
        | none => rfl
        | some y =>
          show (compM c f (xs ++ ys)).bind _ = ((compM c f xs).bind _).bind _
          rw [compM_app c f xs ys]
          cases compM c f xs with
          | none => rfl
          | some a =>
            show ((compM c f ys).bind _).bind _ = (compM c f ys).bind _
            cases compM c f ys <;> rfl
      | false => exact compM_app c f xs ys
theorem compM_len {α β : Type} (c : α → Option Bool) (f : α → Option β) : ∀ {xs : List α} {ys : List β}, compM c f xs = some ys → ys.length ≤ xs.length
  | [], ys, h => by cases h; exact Nat.le_refl _
  | x :: xs, ys, h => by
    have h : ((c x).bind fun b => if b = true then (f x).bind fun y => (compM c f xs).bind fun ys => some (y :: ys) else compM c f xs) = some ys := h
    cases e : c x with
    | none => rw [e] at h; cases h
    | some b =>
      rw [e] at h
      cases b with
      | true =>
        have h : ((f x).bind fun y => (compM c f xs).bind fun ys => some (y :: ys)) = some ys := by simpa using h
        cases e2 : f x with
        | none => rw [e2] at h; cases h
        | some y =>
          rw [e2] at h
          cases e3 : compM c f xs with
          | none => rw [e3] at h; cases h
          | some zs =>
            rw [e3] at h
            cases h
            exact Nat.succ_le_succ (compM_len c f e3)
      | false =>
        have h : compM c f xs = some ys := by simpa using h
        exact Nat.le_succ_of_le (compM_len c f h)
theorem compM_take {α β : Type} {c : α → Option Bool} {f : α → Option β} {xs : List α} {zs : List β} (i : Nat) (h : compM c f xs = some zs) : ∃ ys, compM c f (xs.take i) = some ys := by
  rw [← List.take_append_drop i xs, compM_app] at h
  cases q : compM c f (xs.take i) with
  | none => grind
  | some o' => grind
theorem compM_step {α β : Type} {c : α → Option Bool} {f : α → Option β} {xs : List α} {zs ys : List β} {x : α} (h : compM c f (xs.take (i + 1)) = some zs) (d : compM c f (xs.take i) = some ys) (g : xs[i]? = some x) :
    (c x = some false ∧ zs = ys) ∨ ∃ y, c x = some true ∧ f x = some y ∧ zs = ys ++ [y] := by
  have a : xs.take (i + 1) = xs.take i ++ [x] := by rw [List.take_add_one, g] <;> rfl
  rw [a, compM_app, d] at h
  have h : (((c x).bind fun b => if b = true then (f x).bind fun y => some [y] else some []).bind fun b => some (ys ++ b)) = some zs := h
  cases e : c x with
  | none => rw [e] at h; cases h
  | some b =>
    rw [e] at h
    cases b with
    | true =>
      have h : (((f x).bind fun y => some [y]).bind fun b => some (ys ++ b)) = some zs := by simpa using h
      cases a : f x with
      | none => rw [a] at h; cases h
      | some y => rw [a] at h; cases h; exact .inr ⟨y, rfl, rfl, rfl⟩
    | false =>
      have h : some (ys ++ []) = some zs := by simpa using h
      rw [List.append_nil] at h
      cases h
      exact .inl ⟨rfl, rfl⟩
abbrev capS : Slot K → Slot K
  | .un => .un
  | @Slot.fz _ n _ i a => @Slot.fz _ n _ i a
  | @Slot.hs _ _ i a => @Slot.hs _ _ i a
  | @Slot.nu _ _ i a => @Slot.hs _ _ i a
  | @Slot.ow _ _ _ i b => @Slot.hs _ _ _ b
  | @Slot.od _ _ _ _ => .un
  | @Slot.ob _ _ _ _ _ => .un
theorem Grow.lift (k : Ok B F O H) (g : Grow B F H [] F' H') : Grow B F H O F' H' :=
  ⟨g.ff, g.hh, ⟨g.ok.fh, g.ok.h0, g.ok.fa, fun x b => by
    obtain ⟨a, c, d⟩ := k.fo x b
    exact ⟨g.nw _ a (by grind), c, g.hh _ _ d⟩, k.nd⟩, g.nw⟩
theorem Ok.nil (k : Ok B F O H) : Ok B F [] H := ⟨k.fh, k.h0, k.fa, fun x a => (by cases a), (by simp)⟩
theorem SlotsOk.one (a : At B sl F O H σ) (L : Hp) (j : Nat) (f : sl[j]? = some s) : ∀ {e : List (Slot K)} {g : St}, SlotsOk B F L H e g [] → SlotsOk B F L H (capS s :: e) ((σ[j]?).getD none :: g) [] := fun {e g} h => by
  cases s with
  | un => exact .un h
  | fz n b => obtain ⟨v, c, d⟩ := a.2.fz_at f; rw [c]; exact .fz d h
  | hs b => obtain ⟨v, c, d⟩ := a.2.hs_at f; rw [c]; exact .hs d h
  | nu b => obtain ⟨v, c, d⟩ := a.2.nu_at f; rw [c]; exact .hs (Rp.mono (dif_le.trans lo_le) d) h
  | ow n xs =>
    obtain ⟨k, i⟩ := a
    obtain ⟨O1, O2, p, l, rfl, c, d, _⟩ := i.ow_at f
    rw [c]
    exact .hs ⟨p, l, rfl, k.one.2.2, d.imp fun _ _ => Rp.mono (reg_le k n)⟩ h
  | od kvs => exact .un h
  | ob n a => exact .un h
def slIn (sl : List (Slot K)) (n : Nat) (ix : List Nat) : List (Slot K) := List.replicate n .un ++ ix.map fun j => capS ((sl[j]?).getD .un)
theorem slIn_ok (a : At B sl F O H σ) (L : Hp) (n : Nat) : ∀ (ix : List Nat), (∀ j ∈ ix, j < sl.length) → SlotsOk B F L H (slIn sl n ix) (σIn σ n ix) [] := fun ix b => by
  unfold slIn σIn
  induction n with
  | zero =>
    induction ix with
    | nil => exact .nil
    | cons j ix ih =>
      have c := b j List.mem_cons_self
      have d := List.getElem?_eq_getElem c
      have z := SlotsOk.one a L j d (ih fun k e => b k (List.mem_cons_of_mem _ e))
      grind
  | succ n ih => exact .un ih
inductive Le0 : List (Slot K) → List (Slot K) → Prop
  | nil : Le0 [] []
  | eq {s : Slot K} {a b : List (Slot K)} : Le0 a b → Le0 (s :: a) (s :: b)
  | un {s : Slot K} {a b : List (Slot K)} : Le0 a b → Le0 (s :: a) (.un :: b)
theorem SlotsOk.le1 (l : Le0 sl sl2) : ∀ {σ : St} {O : Own}, SlotsOk B F L H sl σ O → O = [] → SlotsOk B F L H sl2 σ [] := by
  induction l with
  | nil => grind
  | eq _ ih =>
    intro σ O h e
    cases h with
    | un h => exact .un (ih h e)
    | fz r h => exact .fz r (ih h e)
    | hs r h => exact .hs r (ih h e)
    | nu r h => exact .nu r (ih h e)
    | ow r h => cases e
    | od r h => cases e
    | ob r h =>
      obtain ⟨a, b⟩ := List.append_eq_nil_iff.mp e
      subst a
      exact .ob r (ih h b)
  | un _ ih =>
    intro σ O h e
    cases h with
    | un h => exact .un (ih h e)
    | fz r h => exact .un (ih h e)
    | hs r h => exact .un (ih h e)
    | nu r h => exact .un (ih h e)
    | ow r h => cases e
    | od r h => cases e
    | ob r h => exact .un (ih h (List.append_eq_nil_iff.mp e).2)
theorem SlotsOk.le0 (l : Le0 sl sl2) (h : SlotsOk B F L H sl σ []) : SlotsOk B F L H sl2 σ [] := h.le1 l rfl
theorem eo_comp {c : α → Option Bool} {f : α → Option β} {ix : List Nat} (Z : (ix.all fun j => decide (j < sl.length)) = true) (hI : slI = slIn sl no ix)
    (hi : Ei B sl n wi mi) (hg : Tg B slI n g Lx) (hc : ∀ x, Et B (Lx x) tc (c x)) (he : ∀ x, Ex B (Lx x) md te (f x)) (hle : ∀ x, Le0 (Lx x) slI) :
    Eo B sl md (tComp no ix wi g tc te) (mi.bind fun xs => compL c f xs) := fun zs r F O H σ Q a k => by
  cases mi with
  | none => cases r
  | some xs =>
    have r : compL c f xs = some zs := r
    unfold compL at r
    split at r
    case isFalse => cases r
    rename_i N
    have hcl := cap_lt N
    refine hi xs rfl F O H σ _ a fun J F' H' gr yl => ?_
    have a' := a.grow gr
    refine ⟨fun i m D A d => m = xs.length - i ∧ i ≤ xs.length ∧ ∃ (h : Hp) (ws : List β), compM c f (xs.take i) = some ws ∧ Grow B F' H' O h d ∧ SlotsOk B h (lo h [] d) d slI A [] ∧ A2 (rp K (reg B h d md)) D ws,
      ⟨xs.length, rfl, Nat.zero_le _, F', [], rfl, .refl a'.1, ?_, trivial⟩, ?_⟩
    · rw [hI]
      exact slIn_ok a' _ no ix fun j hj => by simpa using (List.all_eq_true.mp Z) j hj
    rintro i m D A d ⟨rfl, hil, h, ws, P, X, s2, U⟩
    have hyl : D.length ≤ xs.length := by
      rw [U.len]
      exact Nat.le_trans (compM_len c f P) (by rw [List.length_take]; lia)
    obtain ⟨y1, y2⟩ := yl i h O d X.ff X.ok
    by_cases t : i < xs.length
    · obtain ⟨go, y3⟩ := y2 xs[i] (List.getElem?_eq_getElem t)
      obtain ⟨E, M⟩ := compM_take (i + 1) r
      refine .inr ⟨go, by lia, fun D A d => ∃ (h : Hp), Grow B F' H' O h d ∧ SlotsOk B h (lo h [] d) d slI A [] ∧ A2 (rp K (reg B h d md)) D E, (by rintro ys' σ' H' ⟨z, I, L, z3⟩; exact ⟨xs.length - (i + 1), by lia, rfl, t, z, E, M, I, L, z3⟩), fun v C yd => ?_⟩
      obtain ⟨z, b, r3⟩ := y3 v C yd
      have g23 := X.trans b
      have at3 : At B slI z [] C A := ⟨b.ok.nil, s2.mono b.ff (lo_mono ⟨b.ff, b.hh, b.ok.nil, b.nw⟩) b.hh⟩
      refine hg v xs[i] z [] C A _ at3 r3 fun T R => ?_
      have s : ∀ {o q : Hp}, Grow B z C [] o q → Grow B F' H' O o q ∧ SlotsOk B o (lo o [] q) q slI T [] := fun {o q} l => ⟨g23.trans (Grow.lift b.ok l), (R.grow l).2.le0 (hle xs[i])⟩
      rcases compM_step M P (List.getElem?_eq_getElem t) with ⟨Y, rfl⟩ | ⟨y, Y, e2, rfl⟩
      · refine hc xs[i] false Y z [] C T _ R fun o q l => iteF ?_
        obtain ⟨I, L⟩ := s l
        exact ⟨o, I, L, U.imp fun _ _ => Rp.mono (reg_mono (b.trans (Grow.lift b.ok l)) md)⟩
      · refine hc xs[i] true Y z [] C T _ R fun o q l => iteT ?_
        refine he xs[i] y e2 o [] q T _ (R.grow l) fun w F6 H6 g6 r6 => ?_
        obtain ⟨I, L⟩ := s (l.trans g6)
        exact ⟨F6, I, L, (U.imp fun _ _ => Rp.mono (reg_mono (b.trans (Grow.lift b.ok (l.trans g6))) md)).snoc r6⟩
    · have e : i = xs.length := by lia
      subst e
      rw [List.take_length, r] at P
      cases P
      exact .inl ⟨y1 (Nat.le_refl _), by lia, fun p hp => k p D h d (gr.trans X) hp U⟩
abbrev isF : Slot K → Bool
  | @Slot.fz _ false _ _ _ => true
  | _ => false
theorem slots_start {as : List (Slot K)} (k : Nat) (a : as.all isF = true) (r : Ar F as vs) : SlotsOk ⟨F, H⟩ F L' H (as ++ List.replicate k .un) (vs.map some ++ List.replicate k none) [] := by
  induction r with
  | nil =>
    show SlotsOk _ _ _ _ ([] ++ _) ([] ++ _) []
    induction k with
    | zero => exact .nil
    | succ k ih => exact .un ih
  | @cons n _ _ _ _ _ _ r _ ih =>
    rw [List.all_cons, Bool.and_eq_true] at a
    cases n with
    | false => exact .fz r (ih a.2)
    | true => grind
theorem Ar.len (r : Ar F as vs) : vs.length = as.length := by
  induction r with
  | nil => rfl
  | cons _ _ ih => grind
theorem sp_start {A : Type} {as : A → List (Slot K)} {f : A → Option β} {N : List Str} (p : ∀ a, (as a).all isF = true) (k : ∀ a, (as a).length = i)
    (j : ∀ c a, SB ⟨c, H⟩ (as a ++ List.replicate (N.length - i) .un) t al (f a)) (h : spF K al as f vs H Q E) : t { nx := fun _ H' => Q .non H', rt := Q } (L2.start N vs) H := by
  obtain ⟨a, b, c, s, d, r, q⟩ := h
  have e : L2.start N vs = vs.map some ++ List.replicate (N.length - i) none := by
    unfold L2.start
    rw [r.len, k]
  rw [e]
  refine j c a b d c _ _ H ⟨c, [], .refl _, ⟨s, .refl _, fun b o h => .inl h, fun x l => (by cases l), (by simp)⟩, slots_start _ (p a) r⟩ (fun v H' z => q v H' z.1 z.2)
theorem sp_len {A : Type} {as : A → List (Slot K)} {f : A → Option β} (c : ∀ a, (as a).length = d) (h : spF K al as f vs H Q E) : vs.length = d := by
  obtain ⟨a, b, Fa, s, hfa, r, q⟩ := h
  rw [r.len, c]
end
end Ts
namespace Ts
open PySem L2
open PySem.SeqAt (EqAt RcAt RcNeAt)
class Eqv (K : PySem.W.Frag) (α : Type) [Rp K α] [DecidableEq α] where
  dep : Nat
  det : ∀ {H : Hp} {v : V} {a b : α}, rp K H v a → rp K H v b → a = b
  eqA : ∀ {X : Cx} {pins : List (Addr × Obj)} {σ : St} {H : Hp} {s : Shared}, Inv X pins σ H s → ∀ {A : Around}, A.units + dep < cLine → ∀ {v w : V} {u u' : Value} {a b : α}, rp K H v a → rp K H w b → RelV v u → RelV w u' → EqAt A s u u' (decide (a = b))
  rcA : ∀ {X : Cx} {pins : List (Addr × Obj)} {σ : St} {H : Hp} {s : Shared}, Inv X pins σ H s → ∀ {A : Around}, A.units + dep < cLine → ∀ {v w : V} {u u' : Value} {a b : α}, rp K H v a → rp K H w b → RelV v u → RelV w u' → RcAt A s u u' (decide (a = b))
  neA : ∀ {X : Cx} {pins : List (Addr × Obj)} {σ : St} {H : Hp} {s : Shared}, Inv X pins σ H s → ∀ {A : Around}, A.units + dep < cLine → ∀ {v w : V} {u u' : Value} {a b : α}, rp K H v a → rp K H w b → RelV v u → RelV w u' → RcNeAt A s u u' (!decide (a = b))
section
variable {K : PySem.W.Frag}
theorem beqd {α : Type} [BEq α] [LawfulBEq α] [DecidableEq α] (a b : α) : (a == b) = decide (a = b) := by
  grind
instance : Eqv K Int where
  dep := 0
  det h1 h2 := by cases h1; cases h2; rfl
  eqA _ _ _ _ _ _ _ _ _ h1 h2 r1 r2 := by cases h1; cases h2; obtain ⟨t, rfl⟩ := r1; obtain ⟨t', rfl⟩ := r2; rw [← beqd]; exact EqAt.int_int _ _ _ _
  rcA _ _ _ _ _ _ _ _ _ h1 h2 r1 r2 := by cases h1; cases h2; obtain ⟨t, rfl⟩ := r1; obtain ⟨t', rfl⟩ := r2; rw [← beqd]; exact RcAt.int_int _ _ _ _
  neA _ _ _ _ _ _ _ _ _ h1 h2 r1 r2 := by cases h1; cases h2; obtain ⟨t, rfl⟩ := r1; obtain ⟨t', rfl⟩ := r2; rw [← beqd]; exact RcNeAt.int_int _ _ _ _
instance : Eqv K Str where
  dep := 0
  det h1 h2 := by cases h1; cases h2; rfl
  eqA _ _ _ _ _ _ _ _ _ h1 h2 r1 r2 := by cases h1; cases h2; obtain ⟨t, rfl⟩ := r1; obtain ⟨t', rfl⟩ := r2; rw [← beqd]; exact EqAt.str_str _ _ _ _
  rcA _ _ _ _ _ _ _ _ _ h1 h2 r1 r2 := by cases h1; cases h2; obtain ⟨t, rfl⟩ := r1; obtain ⟨t', rfl⟩ := r2; rw [← beqd]; exact RcAt.str_str _ _ _ _
  neA _ _ _ _ _ _ _ _ _ h1 h2 r1 r2 := by cases h1; cases h2; obtain ⟨t, rfl⟩ := r1; obtain ⟨t', rfl⟩ := r2; rw [← beqd]; exact RcNeAt.str_str _ _ _ _
def rEqv (K : PySem.W.Frag) (α : Type) [Rp K α] [DecidableEq α] (neg : Bool) : R2 := fun x y H Q => ∃ a b : α, rp K H x a ∧ rp K H y b ∧ Q (.bl (if neg = true then !decide (a = b) else decide (a = b))) H
theorem op_eqv (K : PySem.W.Frag) (α : Type) [Rp K α] [DecidableEq α] [Eqv K α] {X : Cx} (hr : Room k X.A) (hd : Eqv.dep K α ≤ 64 := by exact Nat.le_of_ble_eq_true rfl) : OpR X (compareOp .Eq) (rEqv K α false) := by
  intro pins s σ H x y v u Q I rx ry h
  obtain ⟨a, b, h1, h2, q⟩ := h
  exact Eqv.rcA I (by have := hr.units; lia) h1 h2 rx ry _ _ _ _ ⟨.bl (decide (a = b)), H, I, rfl, q⟩
theorem op_nev (K : PySem.W.Frag) (α : Type) [Rp K α] [DecidableEq α] [Eqv K α] {X : Cx} (hr : Room k X.A) (hd : Eqv.dep K α ≤ 64 := by exact Nat.le_of_ble_eq_true rfl) : OpR X (compareOp .NotEq) (rEqv K α true) := by
  intro pins s σ H x y v u Q I rx ry h
  obtain ⟨a, b, h1, h2, q⟩ := h
  exact Eqv.neA I (by have := hr.units; lia) h1 h2 rx ry _ _ _ _ ⟨.bl (!decide (a = b)), H, I, rfl, q⟩
variable {B : Bs} {sl : List (Slot K)} {md md1 : Md} {α β : Type} [Rp K α] [Rp K β] {t1 t2 t : TE}
theorem ex_eqv [DecidableEq α] {m1 m2 : Option α} (h1 : Ex B sl .hp t1 m1) (h2 : Ex B sl .hp t2 m2) : Ex B sl md (tOp (rEqv K α false) t1 t2) (m1.bind fun a => m2.bind fun b => some (decide (a = b))) :=
  ex_op (fun a b c v w H Q e r1 r2 q => by cases e; exact ⟨a, b, r1, r2, q⟩) h1 h2
theorem ex_nev [DecidableEq α] {m1 m2 : Option α} (h1 : Ex B sl .hp t1 m1) (h2 : Ex B sl .hp t2 m2) : Ex B sl md (tOp (rEqv K α true) t1 t2) (m1.bind fun a => m2.bind fun b => some (!decide (a = b))) :=
  ex_op (fun a b c v w H Q e r1 r2 q => by cases e; exact ⟨a, b, r1, r2, q⟩) h1 h2
section
variable {m1 m2 : Option Int}
theorem ex_rI0 {g : Int → Int → V} {f : Int → Int → α} [Sc K α] (hg : ∀ i j, g i j = Sc.val K (f i j)) (h1 : Ex B sl .hp t1 m1) (h2 : Ex B sl .hp t2 m2) : Ex B sl md (tOp (rI0 g) t1 t2) (m1.bind fun a => m2.bind fun b => some (f a b)) :=
  ex_op (fun a b c v w H Q e r1 r2 q => by cases r1; cases r2; exact ⟨a, b, rfl, rfl, by grind⟩) h1 h2
theorem ex_add (h1 : Ex B sl .hp t1 m1) (h2 : Ex B sl .hp t2 m2) : Ex B sl md (tOp (rI0 fun i j => .int (i + j)) t1 t2) (m1.bind fun a => m2.bind fun b => some (a + b)) := ex_rI0 (fun _ _ => rfl) h1 h2
theorem ex_sub (h1 : Ex B sl .hp t1 m1) (h2 : Ex B sl .hp t2 m2) : Ex B sl md (tOp (rI0 fun i j => .int (i - j)) t1 t2) (m1.bind fun a => m2.bind fun b => some (a - b)) := ex_rI0 (fun _ _ => rfl) h1 h2
theorem ex_lt (h1 : Ex B sl .hp t1 m1) (h2 : Ex B sl .hp t2 m2) : Ex B sl md (tOp (rI0 fun i j => .bl (decide (i < j))) t1 t2) (m1.bind fun a => m2.bind fun b => some (decide (a < b))) := ex_rI0 (fun _ _ => rfl) h1 h2
theorem ex_gt (h1 : Ex B sl .hp t1 m1) (h2 : Ex B sl .hp t2 m2) : Ex B sl md (tOp (rI0 fun i j => .bl (decide (j < i))) t1 t2) (m1.bind fun a => m2.bind fun b => some (decide (b < a))) := ex_rI0 (fun _ _ => rfl) h1 h2
theorem ex_ge (h1 : Ex B sl .hp t1 m1) (h2 : Ex B sl .hp t2 m2) : Ex B sl md (tOp (rI0 fun i j => .bl (decide (j ≤ i))) t1 t2) (m1.bind fun a => m2.bind fun b => some (decide (b ≤ a))) := ex_rI0 (fun _ _ => rfl) h1 h2
noncomputable def modM (a b : Int) : Option Int := if 0 < b then some (a % b) else none
noncomputable def divM (a b : Int) : Option Int := if 0 < b ∧ b < 1073741824 then some (a / b) else none
noncomputable def powM (a b : Int) : Option Int := if 0 ≤ b ∧ b ≤ 1000000 ∧ a.natAbs < 2 ^ 64 then some (a ^ b.toNat) else none
theorem ex_mod (h1 : Ex B sl .hp t1 m1) (h2 : Ex B sl .hp t2 m2) : Ex B sl md (tOp (rI (fun _ j => 0 < j) fun i j => .int (i % j)) t1 t2) (m1.bind fun a => m2.bind fun b => modM a b) :=
  ex_op (fun a b c v w H Q e r1 r2 q => by
    unfold modM at e
    split at e
    case isFalse => cases e
    rename_i hc
    cases e; cases r1; cases r2
    exact ⟨a, b, rfl, rfl, hc, q⟩) h1 h2
theorem ex_div (h1 : Ex B sl .hp t1 m1) (h2 : Ex B sl .hp t2 m2) : Ex B sl md (tOp (rI CDiv fun i j => .int (i / j)) t1 t2) (m1.bind fun a => m2.bind fun b => divM a b) :=
  ex_op (fun a b c v w H Q e r1 r2 q => by
    unfold divM at e
    split at e
    case isFalse => cases e
    rename_i hc
    cases e; cases r1; cases r2
    exact ⟨a, b, rfl, rfl, hc, q⟩) h1 h2
theorem ex_pow (h1 : Ex B sl .hp t1 m1) (h2 : Ex B sl .hp t2 m2) : Ex B sl md (tOp (rI CPow fun i j => .int (i ^ j.toNat)) t1 t2) (m1.bind fun a => m2.bind fun b => powM a b) :=
  ex_op (fun a b c v w H Q e r1 r2 q => by
    unfold powM at e
    split at e
    case isFalse => cases e
    rename_i hc
    cases e; cases r1; cases r2
    exact ⟨a, b, rfl, rfl, hc, q⟩) h1 h2
end
theorem A2.atI (h : A2 R vs xs) (e : L2.atI xs i = some a) : ∃ v, L2.atI vs i = some v ∧ R v a := by
  unfold L2.atI at e ⊢
  rw [h.len]
  cases q : ixN xs.length i with
  | none => grind
  | some j => rw [q] at e; exact h.at2 e
theorem ex_ix {m1 : Option (List α)} {m2 : Option Int} (h1 : Ex B sl md t1 m1) (h2 : Ex B sl .hp t2 m2) : Ex B sl md (tOp (rIxL K) t1 t2) (m1.bind fun xs => m2.bind fun i => L2.atI xs i) := fun c hc F O H σ Q s k => by
  obtain ⟨xs, i, e1, e2, e3⟩ := bind2 hc
  refine h1 xs e1 F O H σ _ s fun v F' H' g r1 => ?_
  refine h2 i e2 F' O H' σ _ (s.grow g) fun w F2 H2 g2 r2 => ?_
  cases r2
  obtain ⟨p, vs, rfl, z1, z2⟩ := r1
  obtain ⟨u, y1, y2⟩ := z2.atI e3
  have hle := (match md with
    | .nw => dif_le.trans g.ok.fh
    | .fz => g.ok.fh
    | .hp => .refl _ : Same (reg B F' H' md) H').trans g2.hh
  exact ⟨p, vs, i, u, rfl, rfl, SqL.of (hle _ _ z1), y1, k u F2 H2 (g.trans g2) (Rp.mono (reg_mono g2 md) y2)⟩
theorem ex_fst {m : Option (α × β)} (h1 : Ex B sl md t1 m) (h2 : Ex B sl .hp t2 (some (0 : Int))) : Ex B sl md (tOp (rIxT K) t1 t2) (m.bind fun x => some x.1) := fun c hc F O H σ Q s k => by
  cases m with
  | none => cases hc
  | some x =>
    cases (hc)
    refine h1 x rfl F O H σ _ s fun v F' H' g r1 => ?_
    refine h2 0 rfl F' O H' σ _ (s.grow g) fun w F2 H2 g2 r2 => ?_
    cases r2
    obtain ⟨p, v1, v2, rfl, z1, z2, z3⟩ := r1
    have hle := (match md with
      | .nw => dif_le.trans g.ok.fh
      | .fz => g.ok.fh
      | .hp => .refl _ : Same (reg B F' H' md) H').trans g2.hh
    exact ⟨p, [v1, v2], 0, v1, rfl, rfl, .inl (.inl (hle _ _ z1)), rfl, k v1 F2 H2 (g.trans g2) (Rp.mono (reg_mono g2 md) z2)⟩
theorem ex_snd {m : Option (α × β)} (h1 : Ex B sl md t1 m) (h2 : Ex B sl .hp t2 (some (1 : Int))) : Ex B sl md (tOp (rIxT K) t1 t2) (m.bind fun x => some x.2) := fun c hc F O H σ Q s k => by
  cases m with
  | none => cases hc
  | some x =>
    cases (hc)
    refine h1 x rfl F O H σ _ s fun v F' H' g r1 => ?_
    refine h2 1 rfl F' O H' σ _ (s.grow g) fun w F2 H2 g2 r2 => ?_
    cases r2
    obtain ⟨p, v1, v2, rfl, z1, z2, z3⟩ := r1
    have hle := (match md with
      | .nw => dif_le.trans g.ok.fh
      | .fz => g.ok.fh
      | .hp => .refl _ : Same (reg B F' H' md) H').trans g2.hh
    exact ⟨p, [v1, v2], 1, v2, rfl, rfl, .inl (.inl (hle _ _ z1)), rfl, k v2 F2 H2 (g.trans g2) (Rp.mono (reg_mono g2 md) z3)⟩
abbrev rLen (K : PySem.W.Frag) : List V → Hp → VK → Prop := fun xs H Q => ∃ p ys, xs = [.ref p] ∧ (SqL K H p ys ∨ SqT K H p ys) ∧ Q (.int ys.length) H
theorem ex_len {m : Option (List α)} (h : Ex B sl .hp t m) : Ex B sl md (tCB (rLen K) (tCons t tNil)) (m.bind fun xs => some (xs.length : Int)) := fun c hc F O H σ Q s k => by
  cases m with
  | none => cases hc
  | some xs =>
    cases (hc)
    refine h xs rfl F O H σ _ s fun v F' H' g r1 => ?_
    obtain ⟨p, vs, rfl, z1, z2⟩ := r1
    exact ⟨p, vs, rfl, .inl (SqL.of z1), k _ F' H' g (by show V.int vs.length = V.int xs.length; rw [z2.len])⟩
abbrev rList (K : PySem.W.Frag) : List V → Hp → VK → Prop := fun xs H Q => ∃ p ys, xs = [V.ref p] ∧ (SqL K H p ys ∨ SqT K H p ys) ∧ ∀ l, H l = none → Q (.ref l) (upd H l (.lst ys))
theorem A2.sc {F F' : Hp} [Sc K α] {vs : List V} {xs : List α} (h : A2 (rp K F) vs xs) : A2 (rp K F') vs xs := h.imp fun _ _ => rp_sc
theorem eo_listS [Sc K α] {m : Option (List α)} (h : Ex B sl .hp t m) : Eo B sl md (tCB (rList K) (tCons t tNil)) m := fun c hc F O H σ Q s k => by
  refine h c hc F O H σ _ s fun v F' H' g r1 => ?_
  obtain ⟨p, vs, rfl, z1, z2⟩ := r1
  exact ⟨p, vs, rfl, .inl (SqL.of z1), fun l hl => k l vs F' H' g hl z2.sc⟩
class Fl (K : PySem.W.Frag) (α : Type) [Rp K α] [Sc K α] [DecidableEq α] : Prop where
  flat : ∀ a : α, flatV (Sc.val K a) = true
  eq : ∀ a b : α, eqV (Sc.val K a) (Sc.val K b) = decide (a = b)
instance : Fl K Int := ⟨fun _ => rfl, fun a b => by show (a == b) = _; exact beqd a b⟩
instance : Fl K Str := ⟨fun _ => rfl, fun a b => by show (a == b) = _; exact beqd a b⟩
theorem A2.vals [Sc K α] : ∀ {vs : List V} {xs : List α}, A2 (rp K F) vs xs → vs = xs.map (Sc.val K)
  | [], [], _ => rfl
  | _ :: _, _ :: _, h => by rw [List.map_cons, Sc.is.mp h.1, A2.vals h.2]
  | [], _ :: _, h => h.elim
  | _ :: _, [], h => h.elim
theorem inV_fl [Sc K α] [DecidableEq α] [Fl K α] (a : α) : ∀ xs : List α, inV (Sc.val K a) (xs.map (Sc.val K)) = decide (a ∈ xs)
  | [] => by simp [inV]
  | x :: xs => by
    have ih := inV_fl a xs
    unfold inV at ih ⊢
    rw [List.map_cons, List.any_cons, Fl.eq]
    grind
theorem flat_fl [Sc K α] [DecidableEq α] [Fl K α] (xs : List α) : (xs.map (Sc.val K)).all flatV = true := by
  rw [List.all_map, List.all_eq_true]
  intro x _
  exact Fl.flat x
theorem ex_in [Sc K α] [DecidableEq α] [Fl K α] {m1 : Option α} {m2 : Option (List α)} (h1 : Ex B sl .hp t1 m1) (h2 : Ex B sl .hp t2 m2) : Ex B sl md (tOp (rIn K false) t1 t2) (m1.bind fun a => m2.bind fun xs => some (decide (a ∈ xs))) :=
  ex_op (fun a b c v w H Q e r1 r2 q => by
    cases e
    obtain ⟨p, vs, rfl, z1, z2⟩ := r2
    have ev := Sc.is.mp r1
    have es := z2.vals
    subst ev es
    refine ⟨p, _, rfl, .inl (SqL.of z1), Fl.flat a, flat_fl b, ?_⟩
    have := inV_fl (K := K) a b
    rw [this]
    exact q) h1 h2
theorem ex_isN {m : Option (Option α)} (h : Ex B sl .hp t m) : Ex B sl md (tIsN t) (m.bind fun a => some a.isNone) := fun c hc F O H σ Q s k => by
  cases m with
  | none => cases hc
  | some a =>
    cases (hc)
    refine h a rfl F O H σ _ s fun v F' H' g r1 => ?_
    cases a with
    | none => cases r1; exact k _ F' H' g rfl
    | some x => rw [decide_eq_false r1.1]; exact k _ F' H' g rfl
theorem ex_get {m : Option (Option α)} (h : Ex B sl md t m) : Ex B sl md t (m.bind fun a => a) := fun c hc F O H σ Q s k => by
  cases m with
  | none => cases hc
  | some a =>
    cases a with
    | none => cases hc
    | some x =>
      have e := Option.some.inj hc
      subst e
      exact h (some x) rfl F O H σ _ s fun v F' H' g r1 => k v F' H' g r1.2
theorem ex_min2 {m1 m2 : Option Int} (h1 : Ex B sl .hp t1 m1) (h2 : Ex B sl .hp t2 m2) : Ex B sl md (tCB (fun xs H Q => ∃ i j, xs = [.int i, .int j] ∧ Q (.int (if j < i then j else i)) H) (tCons t1 (tCons t2 tNil))) (m1.bind fun a => m2.bind fun b => some (min a b)) := fun c hc F O H σ Q s k => by
  obtain ⟨a, b, e1, e2, e3⟩ := bind2 hc
  cases e3
  refine h1 a e1 F O H σ _ s fun v F' H' g r1 => ?_
  refine h2 b e2 F' O H' σ _ (s.grow g) fun w F2 H2 g2 r2 => ?_
  cases r1; cases r2
  exact ⟨a, b, rfl, by rw [show (if b < a then b else a) = min a b by split <;> lia]; exact k _ F2 H2 (g.trans g2) rfl⟩
class Ty (K : PySem.W.Frag) (α : Type) [Rp K α] where
  ty : Value
  is : ∀ {H : Hp} {v : V} {a : α}, rp K H v a → TyOf K H v ty
instance : Ty K Int := ⟨.type "int", fun h => by cases h; exact .int _⟩
instance : Ty K Str := ⟨.type "str", fun h => by cases h; exact .str _⟩
theorem ex_isi [Ty K α] {c : Value} {y : V} {b : Bool} {m : Option α} (hb : PySem.W.kitOne K (Ty.ty K α) c = some b) (hy : RelV y c) (h : Ex B sl .hp t m) : Ex B sl md (tCB (rIsi K c) (tCons t (tCons (tC y) tNil))) (m.bind fun _ => some b) := fun d hd F O H σ Q s k => by
  cases m with
  | none => cases hd
  | some a =>
    cases (show some b = some d from hd)
    refine h a rfl F O H σ _ s fun v F' H' g r1 => ?_
    exact ⟨v, y, _, b, rfl, hy, Ty.is r1, hb, k _ F' H' g rfl⟩
end
end Ts
namespace Ts
def src (xss : List (List Int)) (j : Nat) : List Int := ((List.range xss.length).filter fun k => decide ((j : Int) ∈ xss.getD k [])).map Int.ofNat
theorem filter_congr' {α : Type} {p q : α → Bool} : ∀ {l : List α}, (∀ x ∈ l, p x = q x) → l.filter p = l.filter q
  | [], _ => rfl
  | a :: l, h => by
    rw [List.filter_cons, List.filter_cons, h a List.mem_cons_self, filter_congr' fun x b => h x (List.mem_cons_of_mem _ b)]
theorem src_snoc (xss : List (List Int)) (xs : List Int) (j : Nat) : src (xss ++ [xs]) j = src xss j ++ (if (j : Int) ∈ xs then [(xss.length : Int)] else []) := by
  unfold src
  rw [List.length_append, List.length_singleton, List.range_succ, List.filter_append, List.map_append]
  congr 1
  · congr 1
    refine filter_congr' fun k hk => ?_
    grind
  grind
theorem src_take {xss : List (List Int)} {i : Nat} {xs : List Int} (h : xss[i]? = some xs) (j : Nat) : src (xss.take (i + 1)) j = src (xss.take i) j ++ (if (j : Int) ∈ xs then [(i : Int)] else []) := by
  have a := (List.getElem?_eq_some_iff.mp h).1
  rw [List.take_add_one, h]
  have e : (some xs : Option (List Int)).toList = [xs] := rfl
  rw [e, src_snoc, List.length_take, Nat.min_eq_left (Nat.le_of_lt a)]
theorem src_len (xss : List (List Int)) (j : Nat) : (src xss j).length ≤ xss.length := by
  unfold src
  grind
end Ts
namespace Ts
open PySem L2
theorem int_at {ns : List Int} {i : Nat} {y : V} (h : (ns.map V.int)[i]? = some y) : ∃ z, y = .int z ∧ ns[i]? = some z := by
  rw [List.getElem?_map] at h
  cases e : ns[i]? with
  | none => rw [e] at h; cases h
  | some z => rw [e] at h; exact ⟨z, (Option.some.inj h).symm, rfl⟩
theorem ref_at {bs : List Addr} {i : Nat} {y : V} (h : (bs.map V.ref)[i]? = some y) : ∃ b, y = .ref b ∧ bs[i]? = some b := by
  rw [List.getElem?_map] at h
  cases e : bs[i]? with
  | none => rw [e] at h; cases h
  | some z => rw [e] at h; exact ⟨z, (Option.some.inj h).symm, rfl⟩
theorem ref_get {bs : List Addr} {i : Nat} {b : Addr} (h : bs[i]? = some b) : (bs.map V.ref)[i]? = some (.ref b) := by rw [List.getElem?_map, h] <;> rfl
theorem lt_of_at {α : Type} {xs : List α} {x : α} (h : xs[i]? = some x) : i < xs.length := (List.getElem?_eq_some_iff.mp h).1
theorem log_small {i : Nat} (h : i < 1920) : ((i : Int)).natAbs.log2 < 1920 := by
  exact Nat.lt_of_le_of_lt (Nat.log2_le_self i) h
theorem notin_take {ns : List Int} (nd : ns.Nodup) (h : ns[i]? = some z) : ¬ z ∈ ns.take i := fun hz => by
  obtain ⟨j, hj⟩ := List.mem_iff_getElem?.mp hz
  have hji : j < i := by
    have := lt_of_at hj
    rw [List.length_take] at this
    omega
  rw [List.getElem?_take_of_lt hji] at hj
  have hi := lt_of_at h
  have hjl := lt_of_at hj
  rw [List.getElem?_eq_getElem hi] at h
  rw [List.getElem?_eq_getElem hjl] at hj
  have e : ns[j] = ns[i] := (Option.some.inj hj).trans (Option.some.inj h).symm
  have := (List.getElem_inj nd).mp e
  omega
theorem mem_take_succ {α : Type} {ns : List α} {z x : α} (h : ns[i]? = some z) : x ∈ ns.take (i + 1) ↔ x ∈ ns.take i ∨ x = z := by
  rw [List.take_add_one, h]
  simp
def RowsR (K : PySem.W.Frag) (H : Hp) (bs : List Addr) (xss : List (List Int)) : Prop := bs.length = xss.length ∧ ∀ (i : Nat) (b : Addr), bs[i]? = some b → ∃ c : List Int, xss[i]? = some c ∧ SqL K H b (c.map V.int)
theorem RowsR.same (r : RowsR K H bs xss) (s : Same H H') : RowsR K H' bs xss := ⟨r.1, fun i b h => let ⟨d, a, c⟩ := r.2 i b h; ⟨d, a, s.seq c⟩⟩
def Valid (n : Nat) (xss : List (List Int)) : Prop := xss.length = n ∧ ∀ a ∈ xss, a ≠ [] ∧ a.Nodup ∧ a.length ≤ 100 ∧ ∀ z ∈ a, 0 ≤ z ∧ z < (n : Int)
def RowF (H : Hp) (b : List Addr) (a : Nat → List Int) : Prop := ∀ (j : Nat) (c : Addr), b[j]? = some c → H c = some (.lst ((a j).map V.int))
structure Bl (K : PySem.W.Frag) (mg : Str → Option Value) : Prop where
  len : mg "len" = none
  range : mg "range" = none
  isi : mg "isinstance" = none
  int : mg "int" = none
  bool : mg "bool" = none
  list : mg "list" = none
  enum : mg "enumerate" = none
  ii : PySem.W.kitOne K (.type "int") (.type "int") = some true
  ib : PySem.W.kitOne K (.type "int") (.type "bool") = some false
  ll : PySem.W.kitOne K (.type "list") (.type "list") = some true
theorem ki_ii : PySem.W.kitOne K (.type "int") (.type "int") = some true := rfl
theorem ki_ll : PySem.W.kitOne K (.type "list") (.type "list") = some true := rfl
theorem ki_ib : PySem.W.kitOne K (.type "int") (.type "bool") = some false := by
  first | rfl | grind
theorem bt_isi : bootBuiltins "isinstance" = some (.builtin "isinstance") := by decide +kernel
theorem bt_int : bootBuiltins "int" = some (.type "int") := by decide +kernel
theorem bt_bool : bootBuiltins "bool" = some (.type "bool") := by decide +kernel
theorem bt_list : bootBuiltins "list" = some (.type "list") := by decide +kernel
end Ts
namespace Ts
open PySem L2
structure News (H H' : Hp) (cs : List Addr) (xss : List (List V)) : Prop where
  len : cs.length = xss.length
  at_ : ∀ (i : Nat) (c : Addr), cs[i]? = some c → ∃ xs, xss[i]? = some xs ∧ H' c = some (.lst xs)
  new : ∀ c ∈ cs, H c = none
  nd : cs.Nodup
theorem News.nil : News H H' [] [] := ⟨rfl, fun i c h => (by simp at h), fun c h => (by cases h), List.nodup_nil⟩
theorem News.snoc (n : News H H1 cs xss) (s : Same H H1) (h : H1 l = none) : News H (upd H1 l (.lst xs)) (cs ++ [l]) (xss ++ [xs]) := by
  have hl : ∀ c ∈ cs, c ≠ l := fun c hc e => by
    obtain ⟨i, hi⟩ := List.mem_iff_getElem?.mp hc
    obtain ⟨ys, _, q⟩ := n.at_ i c hi
    rw [e, h] at q
    cases q
  refine ⟨by rw [List.length_append, List.length_append, n.len] <;> rfl, fun i c hc => ?_, fun c hc => ?_, ?_⟩
  · by_cases hi : i < cs.length
    · rw [List.getElem?_append_left hi] at hc
      obtain ⟨ys, h1, h2⟩ := n.at_ i c hc
      refine ⟨ys, ?_, ?_⟩
      · rw [List.getElem?_append_left (by rw [← n.len]; exact hi)]; exact h1
      · rw [upd_ne (hl c (List.mem_of_getElem? hc))]; exact h2
    · rw [List.getElem?_append_right (by omega)] at hc
      have hi2 : i - cs.length = 0 := by
        have := lt_of_at hc
        simp at this
        omega
      rw [hi2] at hc
      have e : l = c := Option.some.inj hc
      subst e
      refine ⟨xs, ?_, upd_same⟩
      rw [List.getElem?_append_right (by rw [← n.len]; omega), ← n.len, hi2] <;> rfl
  · rcases List.mem_append.mp hc with hc | hc
    · exact n.new c hc
    · rw [List.mem_singleton.mp hc]; exact s.free h
  · rw [List.nodup_append]
    refine ⟨n.nd, by simp, fun a ha b hb e => ?_⟩
    rw [List.mem_singleton.mp hb] at e
    exact hl a ha e
theorem News.notin (n : News H H' c xss) (h : H' r = none) : r ∉ c := fun b => by
  obtain ⟨i, a⟩ := List.mem_iff_getElem?.mp b
  obtain ⟨ys, _, q⟩ := n.at_ i r a
  grind
end Ts
namespace Ts
open PySem L2
structure Mach (C : Addr) where
  steps : List (List Int)
  marks : List (Str × List Int)
  fair : List (List Int)
  sources : List (List Int)
def mth : List Str := ["many", "next_of", "before", "marked", "fair_at", "names_at"]
def srcs (xss : List (List Int)) : List (List Int) := (List.range xss.length).map (src xss)
def hid (H : Hp) (p : Addr) : Hp := fun b => if b = p then none else H b
section
variable {K : PySem.W.Frag} {C : Addr}
instance : Rp K (Mach C) := ⟨fun F v m => ∃ p dx fs vS vM vF vB, v = .ref p ∧ F p = some (.ins C dx fs) ∧ fs.lookup ("steps" : Str) = some vS ∧ rp K F vS m.steps ∧ fs.lookup ("marks" : Str) = some vM ∧ rp K F vM m.marks ∧ fs.lookup ("fair" : Str) = some vF ∧ rp K F vF m.fair ∧
  fs.lookup ("sources" : Str) = some vB ∧ rp K F vB m.sources ∧ ∀ g ∈ mth, fs.lookup g = none,
  fun s h => by
    obtain ⟨p, dx, fs, vS, vM, vF, vB, h1, h2, h3, h4, h5, h6, h7, h8, h9, h10, h11⟩ := h
    exact ⟨p, dx, fs, vS, vM, vF, vB, h1, s _ _ h2, h3, Rp.mono s h4, h5, Rp.mono s h6, h7, Rp.mono s h8, h9, Rp.mono s h10, h11⟩⟩
theorem a2_ints (ns : List Int) : A2 (rp K F) (ns.map V.int) ns := A2.of_map (f := V.int) (fun _ => rfl) ns
theorem a2_refs : ∀ {cs : List Addr} {xss : List (List Int)}, cs.length = xss.length → (∀ (i : Nat) (c : Addr), cs[i]? = some c → ∃ xs, xss[i]? = some xs ∧ F c = some (.lst (xs.map V.int))) → A2 (rp K F) (cs.map V.ref) xss
  | [], [], _, _ => trivial
  | c :: cs, xs :: xss, hl, h => by
    obtain ⟨ys, e1, e2⟩ := h 0 c rfl
    cases e1
    exact ⟨⟨c, _, rfl, e2, a2_ints _⟩, a2_refs (by simpa using hl) fun i c' hc => h (i + 1) c' hc⟩
  | [], _ :: _, hl, _ => by simp at hl
  | _ :: _, [], hl, _ => by simp at hl
theorem srcs_at {xss : List (List Int)} (h : i < xss.length) : (srcs xss)[i]? = some (src xss i) := by
  unfold srcs
  rw [List.getElem?_map, List.getElem?_range h]
  rfl
theorem rowf_rp {a : List Addr} {xss : List (List Int)} (d : a.length = xss.length) (n : RowF H' a (src xss)) (h : ∀ c ∈ a, ∀ o, H' c = some o → D c = some o) : A2 (rp K D) (a.map V.ref) (srcs xss) := by
  refine a2_refs (by rw [d]; unfold srcs; simp) fun i c b => ?_
  have hi := lt_of_at b
  exact ⟨_, srcs_at (by lia), h c (List.mem_of_getElem? b) _ (n i c b)⟩
end
end Ts
namespace Ts
open PySem L2
section
variable {K : PySem.W.Frag} {B : Bs} {F H F' H' G : Hp} {O : Own} {sl : List (Slot K)} {σ : St} {md : Md} {α β : Type} [Rp K α] [Rp K β] {te ta : TE} {C : Addr}
noncomputable def En (B : Bs) (sl : List (Slot K)) (t : TE) {α : Type} [Rp K α] (m : Option α) : Prop :=
  ∀ a, m = some a → ∀ (F : Hp) (O : Own) (H : Hp) (σ : St) (Q : VK), At B sl F O H σ → (∀ (v : V) (F' c b : Hp), Grow B F H O F' c → Same c b → rp K (dif b c) v a → Q v b) → t σ H Q
theorem lo_at (h1 : F b = none) (h2 : ∀ x ∈ O, x.1 ≠ b) : lo F O H b = H b := by
  unfold lo
  grind
class IsL (K : PySem.W.Frag) (α : Type) [Rp K α] : Prop where
  il : ∀ {F : Hp} {v : V} {a : α}, rp K F v a → ∃ p vs, v = .ref p ∧ F p = some (.lst vs)
abbrev isNuHs : Slot K → Bool
  | @Slot.hs _ _ _ _ => true
  | @Slot.nu _ _ _ _ => true
  | _ => false
theorem SlotsOk.calm (h : SlotsOk B F L H sl σ O) (hn : sl.all (fun s => !isNuHs s) = true) : SlotsOk B F L' H' sl σ O := by
  induction h with
  | nil => exact .nil
  | un _ ih => exact .un (ih (by grind))
  | fz r _ ih => exact .fz (Rp.mono (reg_mdb _ (.refl _)) r) (ih (by grind))
  | hs r _ ih => grind
  | nu r _ ih => grind
  | ow r _ ih => exact .ow (r.imp fun _ _ => Rp.mono (reg_mdb _ (.refl _))) (ih (by grind))
  | od r _ ih => exact .od r (ih (by grind))
  | ob r _ ih => exact .ob (Ob.mono (reg_mdb _ (.refl _)) r) (ih (by grind))
instance (n : Nat) (xss : List (List Int)) : Decidable (Valid n xss) := by unfold Valid; infer_instance
end
end Ts
namespace Ts
open PySem L2
section
variable {K : PySem.W.Frag} {X : Cx}
theorem op_inK (K : PySem.W.Frag) (h : X.K = K := by rfl) : OpR X (compareOp .In) (rIn K false) := by subst h; exact op_in_seq
theorem ixLK (K : PySem.W.Frag) (h : X.K = K := by rfl) : IxR X (rIxL K) := by subst h; exact ix_list
theorem ixTK (K : PySem.W.Frag) (h : X.K = K := by rfl) : IxR X (rIxT K) := by subst h; exact ix_tup
theorem c_lenK (K : PySem.W.Frag) (h : X.K = K := by rfl) : CallR X (.builtin "len") (rLen K) := by subst h; exact call_len_seq
theorem c_listK (K : PySem.W.Frag) (h : X.K = K := by rfl) : CallR X (.type "list") (rList K) := by subst h; exact call_list_of
theorem c_isiK (K : PySem.W.Frag) (a : ∀ y u, RelV y c → RelV y u → u = c) (h : X.K = K := by rfl) : CallR X (.builtin "isinstance") (rIsi K c) := by subst h; exact call_isi a
theorem i_listK (K : PySem.W.Frag) (b : PE X l a) (h : X.K = K := by rfl) : PI X tg l (iList K a) := by subst h; exact pi_list b
theorem i_enumK (K : PySem.W.Frag) (b : X.mg "enumerate" = none) (f : PA X [a] c) (h : X.K = K := by rfl) (e : Gl X "enumerate" := by rfl) (d : starEach [a] X.env = [(false, eval a X.env)] := by rfl) :
    PI X (.Tuple elts k tp) (.Call (.Name "enumerate" p) [a] [] pos) (iEnum K c) := by subst h; exact pi_enum e b f d
theorem p_bmK (K : PySem.W.Frag) {o e : Expr} {es : List Expr} {k : TE} {t : TA} {name : Str} {c a : Pos} {T id : String} {r : V → List V → Hp → VK → Prop} (n : PlainAttrs T) (g : PySem.Slot T name id) (j : typeOf (.builtin id) = pure (.type "method_descriptor")) (m : MtM X id r) (l : PE X o k) (q : PA X (e :: es) t)
    (h : X.K = K := by rfl) (f : attributeBase o name X.env (eval o X.env) = eval o X.env := by rfl)
    (i : ((backTo a (starEach (e :: es) X.env)).all (fun x => !x.1) && (backToKw a (keywordEach [] X.env)).all (fun x => x.1.isSome)
      && decide ((e :: es).length + ([] : List Keyword).length + (if ([] : List Keyword).isEmpty then 0 else 1) < 30)) = true := by rfl)
    (d : (c.endLine == a.line) = true := by rfl) (p : starEach (e :: es) X.env = (false, eval e X.env) :: starEach es X.env := by rfl) (b : (backTo a (starEach es X.env)).any (·.1) = false := by rfl) :
    PE X (.Call (.Attribute o name c) (e :: es) [] a) (tBM K T r k t) := by subst h; exact pe_bm n g j m l q f i d p b
theorem p_bm0K (K : PySem.W.Frag) {o : Expr} {g : TE} {name : Str} {b a : Pos} {T id : String} {r : V → List V → Hp → VK → Prop} (i : PlainAttrs T) (e : PySem.Slot T name id) (f : typeOf (.builtin id) = pure (.type "method_descriptor")) (k : MtM X id r) (j : PE X o g)
    (h : X.K = K := by rfl) (d : attributeBase o name X.env (eval o X.env) = eval o X.env := by rfl) (c : (b.endLine == a.line) = true := by rfl) : PE X (.Call (.Attribute o name b) [] [] a) (tBM0 K T r g) := by subst h; exact pe_bm0 i e f k j d c
theorem bt_min : bootBuiltins "min" = some (.builtin "min") := by decide +kernel
theorem bt_all : bootBuiltins "all" = some (.builtin "all") := by decide +kernel
theorem et_if0 : Et B sl tIf0 (some true) := fun a b F O H σ Q s k => by cases b; exact k F H (.refl s.1)
theorem el_len0 {α : Type} : ∀ c : List α, some [] = some c → c.length ≤ 0 := fun c h => by grind
theorem el_len {α : Type} {m : Option α} {ma : Option (List α)} (h : ∀ b, ma = some b → b.length ≤ n) : ∀ c, (m.bind fun a => ma.bind fun b => some (a :: b)) = some c → c.length ≤ n + 1 := fun c e => by
  cases m with
  | none => cases e
  | some a =>
    cases ma with
    | none => cases e
    | some b => cases e; exact Nat.succ_le_succ (h b rfl)
theorem bnd {α β : Type} (a : α) (f : α → Option β) : (some a).bind f = f a := (fun (x : Option α) (e : x = some a) => by grind : ∀ x, x = some a → x.bind f = f a) _ rfl
structure Cal (P : Program) (w : World) (K : PySem.W.Frag) (mg : Str → Option Value) (base : Heap) (k : Nat) (x : Str) (ps : List Str) (sp : Sp) : Prop where
  ex : ∃ f fd, FnOk P w K mg base CX0 k f fd ps sp ∧ Binds K fd ps [] ∧ PySem.W.keepIn K (.ref f) = true ∧ mg x = some (.ref f)
theorem Cal.mono (c : Cal P w K mg base j x ps sp) (h : j ≤ k) : Cal P w K mg base k x ps sp := by
  obtain ⟨f, d, a, b⟩ := c.ex
  exact ⟨f, d, a.mono h, b⟩
theorem p_cal (c : Cal X.prog X.w X.K X.mg X.base k x ps sp) (i : Room k X.A) (m : PA X (e :: es) t) (l : Gl X x := by rfl) (a : (x == ("__debug__" : Str)) = false := by decide)
    (j : starEach (e :: es) X.env = (false, eval e X.env) :: starEach es X.env := by rfl) (b : (backTo pos (starEach es X.env)).any (·.1) = false := by rfl) : PE X (.Call (.Name x p) (e :: es) [] pos) (tCall sp [] E0 t) := by
  obtain ⟨f, fd, g, n, h, d⟩ := c.ex
  exact pe_call g i l d h n .nil pass0 m a j b
end
section
variable {P : Program} {w : World} {K : PySem.W.Frag} {mg : Str → Option Value} {base : Heap}
theorem def_ok {A β : Type} [Rp K β] {as : A → List (Slot K)} {e : A → Option β} (F : Fun K x d st f i) (S : FnScope N ps (defScope st)) (o : ∀ a, (as a).all isF = true) (g : ∀ a, (as a).length = ps.length)
    (l : ∀ (c : Value) (A : Around) (b : List Env) (s : Shared) (H : Hp) (E : XK), Room k (A.deeper (PyProof.Rows.envOfC d (defScope st) s.heap.objs.size f c)) →
      ∃ t, PSs (cxOf CX0 P w K mg base N d (defScope st) f c A b s H E).nox (defBody st) t ∧ ∀ j a, SB ⟨j, H⟩ (as a ++ List.replicate (N.length - ps.length) .un) t al (e a)) :
    FnOk P w K mg base CX0 (k + 1) f i ps (spF K al as e) :=
  F.ok S (fun m H Q E h => sp_len g h) fun c A b s H m Q E n h => by
    obtain ⟨t, p, q⟩ := l c A b s H E n
    exact ⟨t, p, sp_start o g q h⟩
end
end Ts
namespace Ts
open PySem L2
noncomputable def W {α : Type} (m : Option α) (P : α → Prop) : Prop := ∃ a, m = some a ∧ P a
section
variable {α β S : Type}
theorem W_some : W (some a) P ↔ P a := ⟨fun ⟨_, e, h⟩ => by grind, fun h => ⟨a, rfl, h⟩⟩
theorem W_none : W (none : Option α) P ↔ False := ⟨fun ⟨_, e, _⟩ => (by cases e), False.elim⟩
theorem W_bind {m : Option α} : W (m.bind f) Q ↔ W m fun a => W (f a) Q := by
  cases m with
  | none => exact ⟨fun ⟨_, e, _⟩ => (by cases e), fun ⟨_, e, _⟩ => (by cases e)⟩
  | some a => exact ⟨fun h => ⟨a, rfl, h⟩, by rintro ⟨_, e, h⟩; grind⟩
theorem W.imp {Q : α → Prop} (h : W m P) (f : ∀ a, P a → Q a) : W m Q := let ⟨a, e, p⟩ := h; ⟨a, e, f a p⟩
theorem W_mod : W (modM a b) Q ↔ 0 < b ∧ Q (a % b) := by
  unfold modM
  split
  · rw [W_some]; grind
  · rw [W_none]; grind
theorem W_div : W (divM a b) Q ↔ (0 < b ∧ b < 1073741824) ∧ Q (a / b) := by
  unfold divM
  split
  · rename_i h; rw [W_some]; exact ⟨fun q => ⟨h, q⟩, fun q => q.2⟩
  · rename_i h; rw [W_none]; exact ⟨False.elim, fun q => h q.1⟩
theorem W_pow : W (powM a b) Q ↔ (0 ≤ b ∧ b ≤ 1000000 ∧ a.natAbs < 2 ^ 64) ∧ Q (a ^ b.toNat) := by
  unfold powM
  split
  · rw [W_some]; grind
  · rw [W_none]; grind
def rng (n : Int) : List Int := (List.range n.toNat).map Int.ofNat
theorem W_range : W (rangeM n) Q ↔ (-(2 ^ 62) ≤ n ∧ n < 2 ^ 62) ∧ Q (rng n) := by
  unfold rangeM rng
  split
  · rename_i h; rw [W_some]; exact ⟨fun q => ⟨h, q⟩, fun q => q.2⟩
  · rename_i h; rw [W_none]; exact ⟨False.elim, fun q => h q.1⟩
theorem rng_len (h : 0 ≤ n) : ((rng n).length : Int) = n := by
  unfold rng
  grind
theorem rng_at {n : Int} {i : Nat} {x : Int} (h : (rng n)[i]? = some x) : x = i ∧ (i : Int) < n := by
  obtain ⟨a, b⟩ := range_at h
  exact ⟨b, by omega⟩
theorem atI_in (h : 0 ≤ i) : L2.atI xs i = xs[i.toNat]? := by
  unfold L2.atI ixN
  rw [if_pos h]
  by_cases q : i < xs.length
  · rw [if_pos q]; rfl
  · rw [if_neg q, List.getElem?_eq_none (by omega)]; rfl
theorem W_at (h0 : 0 ≤ i) : W (L2.atI xs i) Q ↔ ∃ a, xs[i.toNat]? = some a ∧ Q a := by
  rw [atI_in h0]
  exact Iff.rfl
theorem W_fold {step : S → α → Option S} {Q : S → Prop} (I : Nat → S → Prop) (h0 : I 0 s) (f : ∀ i x s, xs[i]? = some x → I i s → W (step s x) (I (i + 1))) (g : ∀ s, I xs.length s → Q s) : W (foldM step xs s) Q := by
  have key : ∀ (a : List α) (i : Nat) (s : S), (∀ j x, a[j]? = some x → xs[i + j]? = some x) → i + a.length = xs.length → I i s → W (foldM step a s) Q := by
    intro a
    induction a with
    | nil => intro i s _ c h; exact ⟨s, rfl, g s ((c) ▸ h)⟩
    | cons y a ih =>
      intro i s d c h
      show W ((step s y).bind fun b => foldM step a b) Q
      rw [W_bind]
      refine (f i y s (d 0 y rfl) h).imp fun b e => ih (i + 1) b (fun j x hx => ?_) (by grind) e
      have := d (j + 1) x (by grind)
      grind
  grind
theorem foldX_cons {step : S → α → Option (Out S β)} : foldX step (x :: xs) s = (step s x).bind fun o => o.thn fun s' => foldX step xs s' := by
  congr 1
theorem compM_tot (c : α → Bool) (f : α → β) : ∀ xs : List α, compM (fun x => some (c x)) (fun x => some (f x)) xs = some ((xs.filter c).map f)
  | [] => rfl
  | x :: xs => by
    have ih := compM_tot c f xs
    show (some (c x)).bind _ = _
    grind
theorem W_comp (c : α → Bool) (f : α → β) : W (compL (fun x => some (c x)) (fun x => some (f x)) xs) Q ↔ xs.length < cap ∧ Q ((xs.filter c).map f) := by
  unfold compL
  split
  · rename_i h; rw [compM_tot, W_some]; exact ⟨fun q => ⟨h, q⟩, fun q => q.2⟩
  · rename_i h; rw [W_none]; exact ⟨False.elim, fun q => h q.1⟩
theorem filter_tt (xs : List α) : xs.filter (fun _ => true) = xs := List.filter_eq_self.mpr fun _ _ => rfl
theorem W_map (f : α → β) : W (compL (fun _ => some true) (fun x => some (f x)) xs) Q ↔ xs.length < cap ∧ Q (xs.map f) := by
  rw [W_comp (fun _ => true) f, filter_tt]
theorem W_ite [Decidable c] : W (if c then a else b) Q ↔ (c → W a Q) ∧ (¬ c → W b Q) := by
  grind
theorem cap_of (h : n ≤ 1000) : n < cap := Nat.lt_of_le_of_lt h (by decide)
end
end Ts
namespace L2
open PySem PySem.Spec PyProof.Rows
section
variable {X : Cx}
theorem truth_bools {bs : List Bool} (r : Vals (bs.map V.bl) its) : TruthOf prog w A (fun i v => its.toArray[i]? = some v) (fun i => bs.getD i false) := by
  intro i v s Q E hv hq
  have hv : its[i]? = some v := by simpa using hv
  have hi : i < bs.length := by
    have := (List.getElem?_eq_some_iff.mp hv).1
    rw [← r.length, List.length_map] at this
    exact this
  obtain ⟨u, h1, h2⟩ := r.get (i := i) (x := .bl bs[i]) (by rw [List.getElem?_map, List.getElem?_eq_getElem hi] <;> rfl)
  rw [hv] at h1
  cases h1
  cases h2
  have hq : Q (bs.getD i false) s := hq
  rw [List.getD_eq_getElem?_getD, List.getElem?_eq_getElem hi] at hq
  exact wpAny_truthy_bool hq
theorem range_all {bs : List Bool} : ((List.range bs.length).all fun i => bs.getD i false) = bs.all id := by
  rw [Bool.eq_iff_iff, List.all_eq_true, List.all_eq_true]
  constructor
  · intro h x b
    obtain ⟨i, a, e⟩ := List.getElem_of_mem b
    have z := h i (List.mem_range.mpr a)
    grind
  · intro h i a
    have a := List.mem_range.mp a
    rw [List.getD_eq_getElem?_getD, List.getElem?_eq_getElem a]
    exact h _ (List.getElem_mem a)
def rBools (K : PySem.W.Frag) (f : List Bool → Bool) : List V → Hp → VK → Prop := fun b H Q => ∃ (p : Addr) (a : List Bool), b = [.ref p] ∧ SqL K H p (a.map V.bl) ∧ Q (.bl (f a)) H
theorem kept1 {s : Shared} {h' : Heap} (a : ∀ b o, b ∉ [s.heap.objs.size] → (s.heap.push { cls := .type "list_iterator", data := .fields #[.ref l, .int 0 0] }).get? b = some o → h'.get? b = some o) :
    ∀ b o, s.heap.get? b = some o → h'.get? b = some o := fun b o e => a b o (fun m => Nat.lt_irrefl _ (List.mem_singleton.mp m ▸ Heap.lt_size e)) (Heap.get?_push_of_some _ e)
theorem call_allL (K : PySem.W.Frag) (l : X.calm = true) (m : X.K = K := by rfl) : CallR X (.builtin "all") (rBools K fun bs => bs.all id) := by
  subst m
  intro pins s σ H xs us Q I r h
  obtain ⟨p, bs, rfl, i, q⟩ := h
  obtain ⟨u, rfl, f⟩ := vals1 r
  cases f
  obtain ⟨a, d, k, hz⟩ := I.list i
  have c := k.isList
  have b : p < s.heap.objs.size := by obtain ⟨_, e, _⟩ := c; exact Heap.lt_size e
  refine call_all_walk (wpAny_pyIter_list c ?_)
  refine ⟨_, _, _, _, _, _, _, rfl, Walks.list (A := X.A.in1) (I.ok.hd l) s.heap.objs.size p (Nat.ne_of_lt b) a.toArray, ⟨⟨_, Heap.get?_push_size _ rfl, rfl, rfl⟩, c.push _⟩, truth_bools d, fun h' tk g => ?_⟩
  have j : a.toArray.size = bs.length := by
    rw [List.size_toArray, ← d.length, List.length_map]
  rw [j, range_all]
  exact ⟨.bl (bs.all id), H, I.kept (kept1 g), rfl, q⟩
end
end L2
namespace Ts
open PySem L2
section
variable {K : PySem.W.Frag} {B : Bs} {sl : List (Slot K)} {md : Md} {t t1 t2 : TE} {n : Bool}
theorem ex_bools (h : Ex B sl .hp t m) : Ex B sl md (tCB (rBools K f) (tCons t tNil)) (m.bind fun bs => some (f bs)) := fun c hc F O H σ Q s k => by
  cases m with
  | none => cases hc
  | some bs =>
    cases (hc)
    refine h bs rfl F O H σ _ s fun v F' H' g r1 => ?_
    obtain ⟨p, vs, rfl, z1, z2⟩ := r1
    have z3 := z2.vals
    subst z3
    exact ⟨p, bs, rfl, SqL.of z1, k _ F' H' g rfl⟩
theorem ex_neg (h : Ex B sl .hp t m) : Ex B sl md (tUn (rU fun i => .int (-i)) t) (m.bind fun a => some (-a)) := fun c hc F O H σ Q s k => by
  cases m with
  | none => cases hc
  | some a =>
    cases (show some (-a) = some c from hc)
    refine h a rfl F O H σ _ s fun v F' H' g r1 => ?_
    cases r1
    exact ⟨a, rfl, k _ F' H' g rfl⟩
end
end Ts
namespace Ts
open PySem L2
section
variable {β : Type}
noncomputable def gK (kvs : List (Key × β)) (k : Key) : Option β := (kvs.find? fun a => decide (a.1 = k)).map (·.2)
def pK (kvs : List (Key × β)) (k : Key) (v : β) : List (Key × β) := if (kvs.any fun a => decide (a.1 = k)) = true then kvs.map (fun a => if a.1 = k then (a.1, v) else a) else kvs ++ [(k, v)]
abbrev dget (kvs : List (Key × β)) (k : Int) : Option β := gK kvs (Sum.inl k)
noncomputable def dput (kvs : List (Key × β)) (k : Int) (v : β) : Option (List (Key × β)) := if kvs.length < cap then some (pK kvs (Sum.inl k) v) else none
theorem gK_put : ∀ (kvs : List (Key × β)) (k j : Key) (v : β), gK (pK kvs k v) j = if j = k then some v else gK kvs j := fun kvs k j v => by
  unfold pK
  cases a : (kvs.any fun b => decide (b.1 = k)) with
  | true =>
    rw [if_pos rfl]
    induction kvs with
    | nil => cases a
    | cons x kvs ih =>
      unfold gK at ih ⊢
      rw [List.map_cons, List.find?_cons, List.find?_cons]
      by_cases e : x.1 = k
      · rw [if_pos e]
        by_cases f : j = k
        · subst f
          rw [decide_eq_true (show (x.1, v).1 = j from e), if_pos rfl]; rfl
        · rw [decide_eq_false (show ¬ (x.1, v).1 = j from fun z => f (z.symm.trans e)), if_neg f]
          show Option.map (fun x => x.2) (List.find? (fun b => decide (b.1 = j)) (List.map (fun b => if b.1 = k then (b.1, v) else b) kvs)) = Option.map (fun x => x.2) (List.find? (fun b => decide (b.1 = j)) kvs)
          clear ih a
          induction kvs with
          | nil => rfl
          | cons y kvs ih =>
            grind
      grind
  | false =>
    rw [if_neg (by decide)]
    unfold gK
    grind
theorem pK_len (kvs : List (Key × β)) (k : Key) (v : β) : (pK kvs k v).length ≤ kvs.length + 1 := by
  unfold pK
  grind
end
section
variable {K : PySem.W.Frag} {α : Type} [Rp K α]
abbrev DR (K : PySem.W.Frag) {α : Type} [Rp K α] (F : Hp) : Key × V → Key × α → Prop := fun x y => x.1 = y.1 ∧ rp K F x.2 y.2
theorem A2.any : ∀ {ks : List (Key × V)} {kvs : List (Key × α)}, A2 (DR K F) ks kvs → (ks.any fun a => decide (a.1 = k)) = (kvs.any fun a => decide (a.1 = k))
  | [], [], _ => rfl
  | _ :: _, _ :: _, h => by rw [List.any_cons, List.any_cons, h.1.1, A2.any h.2]
  | [], _ :: _, h => h.elim
  | _ :: _, [], h => h.elim
theorem A2.val : ∀ {ks : List (Key × V)} {kvs : List (Key × α)}, A2 (DR K F) ks kvs → (gK kvs k = none ∧ valV ks k = none) ∨ ∃ a v, gK kvs k = some a ∧ valV ks k = some v ∧ rp K F v a
  | [], [], _ => .inl ⟨rfl, rfl⟩
  | x :: ks, y :: kvs, h => by
    unfold gK valV
    rw [List.find?_cons, List.find?_cons, h.1.1]
    by_cases e : y.1 = k
    · rw [decide_eq_true e]; exact .inr ⟨y.2, x.2, rfl, rfl, h.1.2⟩
    · rw [decide_eq_false e]; exact A2.val h.2
  | [], _ :: _, h => h.elim
  | _ :: _, [], h => h.elim
theorem A2.putM (r : rp K F v a) : ∀ {ks : List (Key × V)} {kvs : List (Key × α)}, A2 (DR K F) ks kvs → A2 (DR K F) (ks.map fun b => if b.1 = k then (b.1, v) else b) (kvs.map fun b => if b.1 = k then (b.1, a) else b)
  | [], [], _ => trivial
  | x :: ks, y :: kvs, h => by
    rw [List.map_cons, List.map_cons]
    refine ⟨?_, A2.putM r h.2⟩
    by_cases e : x.1 = k
    · rw [if_pos e, if_pos (h.1.1 ▸ e)]; exact ⟨h.1.1, r⟩
    · rw [if_neg e, if_neg (h.1.1 ▸ e)]; exact h.1
  | [], _ :: _, h => h.elim
  | _ :: _, [], h => h.elim
theorem A2.put {F : Hp} {k : Key} {v : V} {a : α} (r : rp K F v a) {ks : List (Key × V)} {kvs : List (Key × α)} (h : A2 (DR K F) ks kvs) : A2 (DR K F) (putK ks k v) (pK kvs k a) := by
  unfold putK pK
  rw [h.any]
  split
  · exact h.putM r
  · exact h.snoc ⟨rfl, r⟩
structure Dc (α : Type) where
  kv : List (Key × α)
instance : Rp K (Dc α) := ⟨fun F v d => ∃ p ks, v = .ref p ∧ F p = some (.dK ks) ∧ A2 (DR K F) ks d.kv, fun s ⟨p, ks, h1, h2, h3⟩ => ⟨p, ks, h1, s _ _ h2, h3.imp fun _ _ z => ⟨z.1, Rp.mono s z.2⟩⟩⟩
variable {B : Bs} {sl : List (Slot K)} {md : Md} {t t2 : TE} {F H G : Hp} {O : Own} {σ : St} {u : TS} {al : Bool}
theorem ex_varD {kvs : List (Key × α)} (i : Nat) (e : sl[i]? = some (.od kvs)) : Ex B sl .hp (tVar i) (some (Dc.mk kvs)) := fun a' f F O H σ Q s k => by
  cases f
  obtain ⟨a, b⟩ := s
  obtain ⟨O1, O2, p, c, rfl, d, g, _⟩ := b.od_at e
  exact ⟨_, d, k _ F H (.refl a) ⟨p, c, rfl, a.one.2.2, g.imp fun _ _ z => ⟨z.1, Rp.mono a.fh z.2⟩⟩⟩
theorem ex_din {m : Option Int} {b : Option (Dc α)} (h : Ex B sl .hp t m) (h2 : Ex B sl .hp t2 b) : Ex B sl md (tDIn t t2) (m.bind fun k => b.bind fun d => some (dget d.kv k).isSome) := fun c o F O H σ Q s f => by
  obtain ⟨k, d, i, l, n⟩ := bind2 o
  cases n
  refine h k i F O H σ _ s fun v C q g y => ?_
  refine h2 d l C O q σ _ (s.grow g) fun w J E z D => ?_
  cases y
  obtain ⟨p, A, rfl, x, I⟩ := D
  refine ⟨p, _, rfl, DGet.k (k := Sum.inl k) x, ?_⟩
  have e : (valV A (Sum.inl k : Key)).isSome = (dget d.kv k).isSome := by
    rcases I.val (k := Sum.inl k) with ⟨j, r⟩ | ⟨a, v, j, r, _⟩
    · grind
    grind
  rw [e]
  exact f _ J E (g.trans z) rfl
theorem sn_dput {kvs : List (Key × α)} {m : Option α} {mi : Option Int} {te x : TE} (i : Nat) (C : sl[i]? = some (.od kvs)) (A : sl.all (fun s => !isHs s) = true) (J : Ex B sl .fz te m) (N : Ex B sl .hp x mi) :
    Sn B sl (sDPut (tVar i) x te) (fun ys => sl.set i (.od ys)) (m.bind fun a => mi.bind fun k => dput kvs k a) := fun ys E G D σ H s k => by
  obtain ⟨a, h, S, U, f⟩ := bind2 E
  unfold dput at f
  split at f
  case isFalse => cases f
  rename_i Q
  cases f
  obtain ⟨F, O, g, z⟩ := s
  refine J a S F O H σ _ z fun v P M j r => ?_
  obtain ⟨p, ks, y, h2, h3, _⟩ := (z.grow j).chgD C A
  refine ⟨_, y, ?_⟩
  refine N h U P O M σ _ (z.grow j) fun w T H2 b L => ?_
  cases L
  obtain ⟨p', n, l, q, c, o⟩ := ((z.grow j).grow b).chgD C A
  have e := y.symm.trans l
  cases e
  obtain ⟨I, R⟩ := o (putK n (Sum.inl h) v) (pK kvs (Sum.inl h) a) (c.put (Rp.mono b.ff r))
  exact ⟨p, _, rfl, DPut.k (k := Sum.inl h) q (cap_lt (by rw [c.len]; exact Q)), k _ _ ⟨T, I, (g.trans j.ff).trans b.ff, R⟩⟩
end
end Ts
namespace L2
open PySem PySem.Spec PyProof.Rows
def Its (x : Str) : It := ⟨fun i _ => i < x.cps.size, fun i H v a => a = H ∧ ∃ c, x.cps[i]? = some c ∧ v = .str ⟨#[c]⟩, fun i _ => x.cps.size ≤ i⟩
theorem turn_ascii {P : Program} {w : World} {K : PySem.W.Frag} {N : Expr} (d : Addr) (x : Str) (t : Tok) : Turn P w K N (Its x) [d] d (fun i h => h.IsStrIter d "str_ascii_iterator" x t i) where
  mem := List.mem_singleton.mpr rfl
  obj := fun i h st b f => by
    have e : b = d := List.mem_singleton.mp f
    subst e
    obtain ⟨o, m, g, M⟩ := st
    grind
  keep := fun i h l st k => by
    obtain ⟨o, m, r⟩ := st
    exact ⟨o, k d (List.mem_singleton.mpr rfl) _ m, r⟩
  item := by
    intro X B q y g i a s σ H E I p st G
    subst B q y
    obtain ⟨A, D, O, C, J, F⟩ := p d (List.mem_singleton.mpr rfl)
    refine (Walks.strAscii (prog := X.prog) (w := X.w) (I.ok.hd g) d x t).item i s _ _ G st fun v l L R j U => ?_
    obtain ⟨c, u, S, rfl⟩ := R
    have T : Inv X a σ H { s with heap := l, toks := L } := I.turned (fun b o f e => U b o (fun z => f (List.mem_singleton.mp z)) e) A D C J F
    obtain ⟨o, m, g, M⟩ := id j
    exact ⟨_, rfl, go_of (s := { s with heap := l, toks := L }) (n := "str_ascii_iterator") m g M (by decide) ⟨.str ⟨#[c]⟩, H, T, ⟨u, rfl⟩, ⟨rfl, c, S, rfl⟩, j, fun b f => (p b f).1⟩⟩
  done := by
    intro X B q y g i a s σ H E I p st G
    subst B q y
    obtain ⟨A, D, O, C, J, F⟩ := p d (List.mem_singleton.mpr rfl)
    exact wpAny_pyNext_ascii_end (I.ok.hd g) st (Array.getElem?_eq_none G) fun l Q => ⟨rfl, I.turned (t' := s.toks) (fun b o f e => Q b o f e) A D C J F⟩
  self := fun _ _ _ _ _ st h => wpAny_pyIter_striter_ascii st h
theorem turn_wide {P : Program} {w : World} {K : PySem.W.Frag} {N : Expr} (d : Addr) (x : Str) (t : Tok) : Turn P w K N (Its x) [d] d (fun i h => h.IsStrIter d "str_iterator" x t i) where
  mem := List.mem_singleton.mpr rfl
  obj := fun i h st b f => by
    have e : b = d := List.mem_singleton.mp f
    subst e
    obtain ⟨o, m, g, M⟩ := st
    grind
  keep := fun i h l st k => by
    obtain ⟨o, m, r⟩ := st
    exact ⟨o, k d (List.mem_singleton.mpr rfl) _ m, r⟩
  item := by
    intro X B q y g i a s σ H E I p st G
    subst B q y
    obtain ⟨A, D, O, C, J, F⟩ := p d (List.mem_singleton.mpr rfl)
    refine (Walks.strWide (prog := X.prog) (w := X.w) (I.ok.hd g) d x t).item i s _ _ G st fun v l L R j U => ?_
    obtain ⟨c, u, S, rfl⟩ := R
    have T : Inv X a σ H { s with heap := l, toks := L } := I.turned (fun b o f e => U b o (fun z => f (List.mem_singleton.mp z)) e) A D C J F
    obtain ⟨o, m, g, M⟩ := id j
    exact ⟨_, rfl, go_of (s := { s with heap := l, toks := L }) (n := "str_iterator") m g M (by decide) ⟨.str ⟨#[c]⟩, H, T, ⟨u, rfl⟩, ⟨rfl, c, S, rfl⟩, j, fun b f => (p b f).1⟩⟩
  done := by
    intro X B q y g i a s σ H E I p st G
    subst B q y
    obtain ⟨A, D, O, C, J, F⟩ := p d (List.mem_singleton.mpr rfl)
    exact wpAny_pyNext_wide_end (I.ok.hd g) st (Array.getElem?_eq_none G) fun l Q => ⟨rfl, I.turned (t' := s.toks) (fun b o f e => Q b o f e) A D C J F⟩
  self := fun _ _ _ _ _ st h => wpAny_pyIter_striter_wide st h
section
variable {X : Cx} {tg : Expr}
def iStr (a : TE) : TI := fun σ H R => a σ H fun x b => ∃ y, x = .str y ∧ R (Its y) b
theorem pi_str (n : PE X l p) : PI X tg l (iStr p) := by
  intro a s σ H R I h
  refine thn (n a s σ H _ I h) ?_
  rintro v c ⟨x, f, d, k, m⟩
  obtain ⟨y, e, q⟩ := m
  subst e
  obtain ⟨t, rfl⟩ := k
  have g : ∀ b ∈ [c.heap.objs.size], FpOk X a f b := fun b j => by
    have e : b = c.heap.objs.size := List.mem_singleton.mp j
    subst e
    exact d.fpOk (Nat.le_refl _) (d.hok.fresh (Nat.le_refl _))
  cases i : y.cps.all (· < 128)
  · exact wpAny_pyIter_wide i ⟨c.heap.objs.size, [c.heap.objs.size], _, _, f, rfl, d.kept (t' := c.toks) fun b o e => Heap.get?_push_of_some _ e, turn_wide _ y t, ⟨_, Heap.get?_push_size _ rfl, rfl, rfl⟩, g, q⟩
  · exact wpAny_pyIter_ascii i ⟨c.heap.objs.size, [c.heap.objs.size], _, _, f, rfl, d.kept (t' := c.toks) fun b o e => Heap.get?_push_of_some _ e, turn_ascii _ y t, ⟨_, Heap.get?_push_size _ rfl, rfl, rfl⟩, g, q⟩
end
end L2
namespace Ts
open PySem L2
section
variable {K : PySem.W.Frag} {B : Bs} {sl : List (Slot K)} {md : Md} {t ta tb tc : TE} {n : Bool}
def signs (x : Str) : List Str := x.cps.toList.map fun c => (⟨#[c]⟩ : Str)
theorem ei_str (h : Ex B sl .hp t mi) : Ei B sl n (iStr t) (mi.bind fun x => some (signs x)) := fun xs f F O H σ R a k => by
  cases mi with
  | none => cases f
  | some x =>
    cases (f)
    refine h x rfl F O H σ _ a fun v j q p r => ?_
    cases r
    refine ⟨x, rfl, k _ j q p fun i s O2 H2 sf m => ⟨fun l => ?_, fun y b => ?_⟩⟩
    · show x.cps.size ≤ i
      unfold signs at l
      grind
    · unfold signs at b
      rw [List.getElem?_map, Array.getElem?_toList] at b
      cases e : x.cps[i]? with
      | none => grind
      | some c =>
        rw [e] at b
        cases b
        have o : i < x.cps.size := (Array.getElem?_eq_some_iff.mp e).1
        refine ⟨o, fun v H3 g => ?_⟩
        obtain ⟨rfl, c', d, rfl⟩ := g
        rw [e] at d
        cases d
        exact ⟨s, .refl m, rfl⟩
theorem ex_chain {f g : Int → Int → Bool} (E : Ex B sl .hp ta y) (h2 : Ex B sl .hp tb I) (J : Ex B sl .hp tc p) :
    Ex B sl md (tChain (rI0 fun i j => .bl (f i j)) (rI0 fun i j => .bl (g i j)) ta tb tc) (y.bind fun a => I.bind fun b => if f a b = true then p.bind fun c => some (g b c) else some false) := fun d z F O H σ Q s k => by
  obtain ⟨a, b, P, M, e⟩ := bind2 z
  refine E a P F O H σ _ s fun v G A h C => ?_
  refine h2 b M G O A σ _ (s.grow h) fun w o m l D => ?_
  cases C
  cases D
  refine ⟨a, b, rfl, rfl, _, rfl, ?_⟩
  by_cases q : f a b = true
  · rw [if_pos q] at e ⊢
    cases p with
    | none => cases e
    | some c =>
      cases (e)
      refine J c rfl o O m σ _ ((s.grow h).grow l) fun u L N x r => ?_
      cases r
      exact ⟨b, c, rfl, rfl, k _ L N ((h.trans l).trans x) rfl⟩
  · rw [if_neg q] at e ⊢
    cases e
    exact k _ o m (h.trans l) rfl
def rLenS : List V → Hp → VK → Prop := fun a H Q => ∃ x : Str, a = [.str x] ∧ x.length < cap ∧ Q (.int x.length) H
theorem call_lenS : CallR X (.builtin "len") rLenS := by
  intro a s σ H xs c Q I r h
  obtain ⟨x, rfl, b, q⟩ := h
  exact call_len a s σ H _ c Q I r ⟨_, _, rfl, ⟨Nat.le_of_lt (cap_lt b), rfl⟩, q⟩
noncomputable def lenS (x : Str) : Option Int := if x.length < cap then some (x.length : Int) else none
theorem ex_lenS (h : Ex B sl .hp t m) : Ex B sl md (tCB rLenS (tCons t tNil)) (m.bind lenS) := fun c a F O H σ Q s k => by
  cases m with
  | none => cases a
  | some x =>
    have a : lenS x = some c := a
    unfold lenS at a
    split at a
    case isFalse => cases a
    rename_i e
    cases a
    refine h x rfl F O H σ _ s fun v d b g f => ?_
    cases f
    exact ⟨x, rfl, e, k _ d b g rfl⟩
def inS (i j : Str) : Bool := !(Builtin.Str.occurrences j i 0 j.length 1).isEmpty
abbrev rInS : R2 := fun x y H Q => ∃ i j, x = .str i ∧ y = .str j ∧ Q (.bl (!(Builtin.Str.occurrences j i 0 j.length 1).isEmpty)) H
theorem ex_inS (h : Ex B sl .hp ta d) (h2 : Ex B sl .hp tb i) : Ex B sl md (tOp rInS ta tb) (d.bind fun a => i.bind fun b => some (inS a b)) :=
  ex_op (fun a b c v w H Q e g f q => by
    cases e
    cases g
    cases f
    exact ⟨a, b, rfl, rfl, q⟩) h h2
theorem ex_inT {ws : List Str} (f : ∀ H, SqT K H p (ws.map V.str)) (h : Ex B sl .hp t m) : Ex B sl md (tOp (rIn K false) t (tC (.ref p))) (m.bind fun x => some (decide (x ∈ ws))) := fun c b F O H σ Q s k => by
  cases m with
  | none => cases b
  | some x =>
    cases (b)
    refine h x rfl F O H σ _ s fun v i d g e => ?_
    cases e
    refine ⟨p, _, rfl, .inr (f d), Fl.flat (K := K) x, flat_fl (K := K) ws, ?_⟩
    have := inV_fl (K := K) x ws
    rw [show inV (V.str x) (ws.map V.str) = decide (x ∈ ws) from this]
    exact k _ i d g rfl
end
end Ts
namespace Ts
open PySem L2
section
variable {P : Program} {w : World} {K : PySem.W.Frag} {mg : Str → Option Value} {base : Heap} {B : Bs} {sl : List (Slot K)} {al : Bool} {S β : Type} [Rp K β]
theorem sn_never : Sn B sl tNever L none := fun a b => by cases b
theorem sx_never : Sx B sl tNever al L (none : Option (Out S β)) := fun a b => by cases b
theorem def_okN {A : Type} {as : A → List (Slot K)} {u : A → Option Unit} (F : Fun K x i st f fd) (S : FnScope N ps (defScope st)) (hf : ∀ a, (as a).all isF = true) (n : ∀ a, (as a).length = ps.length)
    (hb : ∀ (d : Value) (A : Around) (c : List Env) (s : Shared) (H : Hp) (E : XK), Room k (A.deeper (PyProof.Rows.envOfC i (defScope st) s.heap.objs.size f d)) →
      ∃ t, PSs (cxOf CX0 P w K mg base N i (defScope st) f d A c s H E).nox (defBody st) t ∧ ∀ j a, ∃ L : Unit → List (Slot K), Sn ⟨j, H⟩ (as a ++ List.replicate (N.length - ps.length) .un) t L (u a)) :
    FnOk P w K mg base CX0 (k + 1) f fd ps (spF K al as u) :=
  F.ok S (fun m H Q E h => sp_len n h) fun d A c s H m Q E C h => by
    obtain ⟨t, p, q⟩ := hb d A c s H E C
    refine ⟨t, p, ?_⟩
    obtain ⟨a, b, j, s, l, r, v⟩ := h
    have e : L2.start N m = m.map some ++ List.replicate (N.length - ps.length) none := by
      unfold L2.start
      rw [r.len, n]
    rw [e]
    obtain ⟨L, q⟩ := q j a
    exact q b l j _ _ H ⟨j, [], .refl _, ⟨s, .refl _, fun b o h => .inl h, fun x z => (by cases z), (by simp)⟩, slots_start _ (hf a) r⟩ (by rintro σ' G ⟨F', O', g, D⟩; exact v .non G D.1.h0 rfl)
noncomputable def fsI (a : Str) (i : Int) : Option Str := if i.natAbs.log2 < 1920 then some (a ++ Str.ofString (toString i)) else none
noncomputable def fsS (a z : Str) : Option Str := if z.length ≤ 1000 then some (a ++ z) else none
theorem ex_fsI (a : Str) (h : Ex B sl .hp t m) : Ex B sl md (tFs a t) (m.bind (fsI a)) := fun c b F O H σ Q s k => by
  cases m with
  | none => cases b
  | some i =>
    have b : fsI a i = some c := b
    unfold fsI at b
    split at b
    case isFalse => cases b
    rename_i f
    cases b
    refine h i rfl F O H σ _ s fun v e d g j => ?_
    cases j
    exact .inl ⟨i, rfl, f, k _ e d g rfl⟩
theorem ex_fsS (a : Str) (h : Ex B sl .hp t m) : Ex B sl md (tFs a t) (m.bind (fsS a)) := fun c b F O H σ Q s k => by
  cases m with
  | none => cases b
  | some i =>
    have b : fsS a i = some c := b
    unfold fsS at b
    split at b
    case isFalse => cases b
    rename_i f
    cases b
    refine h i rfl F O H σ _ s fun v e d g j => ?_
    cases j
    exact .inr ⟨i, rfl, f, k _ e d g rfl⟩
theorem ki_ss : PySem.W.kitOne K (.type "str") (.type "str") = some true := rfl
theorem bt_str : bootBuiltins "str" = some (.type "str") := by decide +kernel
end
end Ts
namespace Ts
open PySem L2
section
variable {β : Type}
abbrev dgetS (kvs : List (Key × β)) (k : Str) : Option β := gK kvs (Sum.inr k)
noncomputable def dputS (kvs : List (Key × β)) (k : Str) (v : β) : Option (List (Key × β)) := if kvs.length < cap then some (pK kvs (Sum.inr k) v) else none
end
section
variable {K : PySem.W.Frag} {α : Type} [Rp K α]
variable {B : Bs} {sl : List (Slot K)} {md : Md} {t t2 : TE} {F H G : Hp} {O : Own} {σ : St} {u : TS} {al : Bool}
theorem ex_dinS {m : Option Str} {b : Option (Dc α)} (h : Ex B sl .hp t m) (h2 : Ex B sl .hp t2 b) : Ex B sl md (tDIn t t2) (m.bind fun k => b.bind fun d => some (dgetS d.kv k).isSome) := fun c o F O H σ Q s f => by
  obtain ⟨k, d, i, l, n⟩ := bind2 o
  cases n
  refine h k i F O H σ _ s fun v C q g y => ?_
  refine h2 d l C O q σ _ (s.grow g) fun w J E z D => ?_
  cases y
  obtain ⟨p, A, rfl, x, I⟩ := D
  refine ⟨p, _, rfl, DGet.k (k := Sum.inr k) x, ?_⟩
  have e : (valV A (Sum.inr k : Key)).isSome = (dgetS d.kv k).isSome := by
    rcases I.val (k := Sum.inr k) with ⟨j, r⟩ | ⟨a, v, j, r, _⟩
    · grind
    grind
  rw [e]
  exact f _ J E (g.trans z) rfl
theorem sn_dputS {kvs : List (Key × α)} {m : Option α} {mi : Option Str} {te q : TE} (i : Nat) (A : sl[i]? = some (.od kvs)) (y : sl.all (fun s => !isHs s) = true) (I : Ex B sl .fz te m) (M : Ex B sl .hp q mi) :
    Sn B sl (sDPut (tVar i) q te) (fun ys => sl.set i (.od ys)) (m.bind fun a => mi.bind fun k => dputS kvs k a) := fun ys C G D σ H s k => by
  obtain ⟨a, f, R, T, d⟩ := bind2 C
  unfold dputS at d
  split at d
  case isFalse => cases d
  rename_i P
  cases d
  obtain ⟨F, O, g, z⟩ := s
  refine I a R F O H σ _ z fun v N L h r => ?_
  obtain ⟨p, ks, x, h2, h3, _⟩ := (z.grow h).chgD A y
  refine ⟨_, x, ?_⟩
  refine M f T N O L σ _ (z.grow h) fun w S H2 b J => ?_
  cases J
  obtain ⟨p', l, j, o, c, n⟩ := ((z.grow h).grow b).chgD A y
  have e := x.symm.trans j
  cases e
  obtain ⟨E, Q⟩ := n (putK l (Sum.inr f) v) (pK kvs (Sum.inr f) a) (c.put (Rp.mono b.ff r))
  exact ⟨p, _, rfl, DPut.k (k := Sum.inr f) o (cap_lt (by rw [c.len]; exact P)), k _ _ ⟨S, E, (g.trans h.ff).trans b.ff, Q⟩⟩
end
end Ts
namespace Ts
open PySem L2
abbrev LLI := List (List Int)
abbrev MKs := List (Str × List Int)
structure RefTo (p : Addr) where
  u : Unit
noncomputable def mkG (C : Addr) (h : LLI → Option Unit) (f : MKs → Int → Option Unit) (i : LLI → Int → Option Unit) (e g : LLI → Option LLI) (xss : LLI) (mo : Option MKs) (fo : Option LLI) : Option (Mach C) :=
  (h xss).bind fun _ => (f (mo.getD []) (xss.length : Int)).bind fun _ => (i (fo.getD []) (xss.length : Int)).bind fun _ => (e xss).bind fun a => (compL (fun _ => some true) (fun x : Str × List Int => some (x.1, x.2)) (mo.getD [])).bind fun b =>
    (e (fo.getD [])).bind fun c => (g a).bind fun d => some ⟨a, b, c, d⟩
theorem opt_get {α β : Type} {m : Option α} {f : α → Option β} {b : β} (h : m.bind f = some b) : ∃ a, m = some a ∧ f a = some b := by
  cases m with
  | none => cases h
  | some a => exact ⟨a, rfl, h⟩
section
variable {K : PySem.W.Frag} {C : Addr} {B : Bs} {sl : List (Slot K)} {F H : Hp} {O : Own} {σ : St}
instance : Rp K (RefTo p) := ⟨fun _ v _ => v = .ref p, fun _ h => h⟩
noncomputable def spInG (K : PySem.W.Frag) (C : Addr) (mk : LLI → Option MKs → Option LLI → Option (Mach C)) : Sp := fun j H Q _ => ∃ (p i : Addr) (g d f : V) (a : LLI) (h : Option MKs) (e : Option LLI) (M : Mach C), j = [.ref p, g, d, f] ∧ H p = some (.ins C i []) ∧
  rp K (hid H p) g a ∧ rp K (hid H p) d h ∧ rp K (hid H p) f e ∧ mk a h e = some M ∧ ∀ c : Hp, (∀ b o, b ≠ p → H b = some o → c b = some o) → rp K (dif c (hid H p)) (.ref p) M → Q .non c
variable {mk : LLI → Option MKs → Option LLI → Option (Mach C)}
theorem spInG_of {a : Hp} {x d : Addr} (m : a x = none) (j : a d = none) {l h i : V} {xss : LLI} {mo : Option MKs} {fo : Option LLI} {c : Mach C} (z : rp K a l xss) (r : rp K a h mo) (y : rp K a i fo) (p : mk xss mo fo = some c) {Q : VK} {E : XK}
    (k : ∀ f : Hp, Same a f → rp K (dif f a) (.ref x) c → Q (.ref x) f) : spInG K C mk [.ref x, l, h, i] (upd (upd a d (.own x)) x (.ins C d [])) (fun v f => v = .non ∧ Q (.ref x) f) E := by
  have n : Same a (upd (upd a d (.own x)) x (.ins C d [])) := fun b o e => by rw [upd_ne (ne_of_none e m), upd_ne (ne_of_none e j)]; exact e
  have g : Same a (hid (upd (upd a d (.own x)) x (.ins C d [])) x) := fun b o e => by
    unfold hid
    rw [if_neg (ne_of_none e m)]
    exact n b o e
  refine ⟨x, d, l, h, i, xss, mo, fo, c, rfl, upd_same, Rp.mono g z, Rp.mono g r, Rp.mono g y, p, fun f t w => ⟨rfl, ?_⟩⟩
  refine k f (fun b o e => t b o (ne_of_none e m) (n b o e)) (Rp.mono (fun b o e => ?_) w)
  have s : a b = none := by
    cases q : a b with
    | none => rfl
    | some u =>
      have := g b u q
      unfold dif at e
      grind
  rw [dif_at s]
  exact dif_le _ _ e
theorem hid_ne (h : b ≠ p) : hid H p b = H b := by unfold hid; grind
theorem hid_eq : hid H p p = none := by unfold hid; grind
theorem hid_le : Same (hid H p) H := fun b o e => by
  by_cases q : b = p
  · subst q; rw [hid_eq] at e; cases e
  · rw [hid_ne q] at e; exact e
theorem hid_mono (s : Same H H') : Same (hid H p) (hid H' p) := fun b o e => by
  by_cases q : b = p
  · subst q; rw [hid_eq] at e; cases e
  · rw [hid_ne q] at e ⊢; exact s b o e
theorem hid_upd : hid (upd H p o) p = hid H p := by
  funext b
  by_cases q : b = p
  · subst q; rw [hid_eq, hid_eq]
  · rw [hid_ne q, hid_ne q, upd_ne q]
theorem new_in (kp : ∀ b o, b ≠ p → H b = some o → a b = some o) (d : a p ≠ none) : Same (dif H' a) (dif (hid H' p) (hid H p)) := fun b o e => by
  have g : a b = none := by
    cases q : a b with
    | none => rfl
    | some u => unfold dif at e; grind
  have c : b ≠ p := fun q => d (by grind)
  rw [dif_at g] at e
  have f : hid H p b = none := by
    rw [hid_ne c]
    cases q : H b with
    | none => rfl
    | some u => grind
  rw [dif_at f, hid_ne c]
  exact e
theorem at_hid (e : SlotsOk (K := K) ⟨hid c p, c⟩ (hid c p) (lo (hid c p) [] c) c sl σ []) : At (K := K) ⟨hid c p, c⟩ sl (hid c p) [] c σ :=
  ⟨⟨hid_le, .refl _, fun b o h => .inl h, fun x d => (by cases d), by simp⟩, e⟩
end
end Ts
namespace SetP
open PySem PySem.Spec PyProof.Rows
section
variable {κ : Type} [DecidableEq κ]
def met (a : Nat → κ) : Nat → List κ
  | 0 => []
  | i + 1 => if a i ∈ met a i then met a i else a i :: met a i
variable {prog : Program} {w : World} {knd : KeyKind prog w κ} {dec : Value → κ} {led : Bool} {A : Around} {R : Result → Shared → Prop} {I : Addr} {fp wr : List Addr} {G : Array GenState → Array GenState → Prop} {n : Nat} {P : Nat → Value → Prop} {St : Nat → Shared → Prop}
end
end SetP
namespace Ts
open PySem L2
noncomputable def cutL {α : Type} (xs : List α) (lo b : Option Int) : List α := (xs.drop (HT.sIx xs.length 0 lo)).take (HT.sIx xs.length xs.length b - HT.sIx xs.length 0 lo)
noncomputable def catM {α : Type} (xs ys : List α) : Option (List α) := if xs.length + ys.length ≤ cap then some (xs ++ ys) else none
section
variable {P : Program} {w : World} {K : PySem.W.Frag} {mg : Str → Option Value} {base : Heap} {B : Bs} {sl : List (Slot K)} {md : Md} {α β : Type} [Rp K α] [Rp K β] {tA : Addr} {tO : HO} {te t1 t2 : TE}
theorem A2.cut (h : A2 R vs xs) (lo a : Option Int) : A2 R (cutV vs lo a) (cutL xs lo a) := by
  unfold cutV cutL
  rw [h.len]
  exact (h.dr _).tk _
theorem eo_cutHi [Sc K α] {m : Option (List α)} {mi : Option Int} {e : TE} (h : Ex B sl .hp te m) (q : Ex B sl .hp e mi) : Eo B sl md (tSl (rSlL K) te tNoPart (tPart e)) (m.bind fun xs => mi.bind fun i => some (cutL xs none (some i))) := fun c b F O H σ Q s k => by
  obtain ⟨xs, i, j, a, b⟩ := bind2 b
  cases b
  refine h xs j F O H σ _ s fun v t z g r => ?_
  refine q i a t O z σ _ (s.grow g) fun u f A d o => ?_
  obtain ⟨p, y, rfl, n, C⟩ := r
  exact ⟨i, o, p, y, rfl, SqL.of (d.hh _ _ n), fun l x => k l _ f A (g.trans d) x (C.cut _ _).sc⟩
theorem eo_cat [Sc K α] {h j : Option (List α)} (z : Ex B sl .hp t1 h) (h2 : Ex B sl .hp t2 j) : Eo B sl md (tOp rCat t1 t2) (h.bind fun a => j.bind fun b => catM a b) := fun c d F O H σ Q s k => by
  obtain ⟨D, M, I, C, d⟩ := bind2 d
  unfold catM at d
  split at d
  case isFalse => cases d
  rename_i E
  cases d
  refine z D I F O H σ _ s fun v A o g r => ?_
  refine h2 M C A O o σ _ (s.grow g) fun u n L f y => ?_
  obtain ⟨p, G, rfl, t, m⟩ := r
  obtain ⟨q, x, rfl, J, i⟩ := y
  refine ⟨p, q, G, x, rfl, rfl, f.hh _ _ t, J, ?_, fun l e => k l _ n L (g.trans f) e (m.sc.app i.sc)⟩
  rw [m.len, i.len]
  exact cap_le E
theorem slLK (K : PySem.W.Frag) {X : Cx} (h : X.K = K := by rfl) : SlR X (rSlL K) := by subst h; exact sl_list
end
end Ts
namespace Ts
open PySem L2
section
variable {X : Cx} {pos pos' : Pos} {x : Str} {e : Expr} {te : TE}
theorem ps_st (i : Nat) (a : X.N.Nodup) (d : PE X e te) (b : X.N[i]? = some x := by rfl) (c : Loc X.env.scope x := by first|exact .inl rfl|exact .inr rfl) (g : swapsWith e (some (.Name x pos')) pos.line X.env = pure false := by rfl)
    (f : X.fn x = true ∨ X.env.scope.names.lookup x = some .local := by first|exact .inl rfl|exact .inr rfl|assumption) : PS X (.Assign [.Name x pos'] e pos) (tAsg te (gName i)) := ps_set a b c d g f
theorem pg_n (i : Nat) (a : X.N.Nodup) (d : X.N[i]? = some x := by rfl) (b : Loc X.env.scope x := by first|exact .inl rfl|exact .inr rfl) (c : X.fn x = true ∨ X.env.scope.names.lookup x = some .local := by first|exact .inl rfl|exact .inr rfl|assumption) : PG X (.Name x pos) (gName i) := pg_name a d b c
end
theorem esc {K : PySem.W.Frag} {B : Bs} {a : List (Slot K)} {md : Md} {α : Type} [Rp K α] [Sc K α] {t : TE} {m : Option α} (h : Ex B a .hp t m) : Ex B a md t m := h.sc
theorem fsc {N P : List Str} {s : Scope} (g : s.kind = .function := by rfl) (h2 : s.isCoroutine = false := by rfl) (d : s.isGenerator = false := by rfl) (e : N.Nodup := by decide +kernel) (b : N.take P.length = P := by rfl) (c : ∀ x ∈ P, s.names.lookup x = some .local ∨ s.names.lookup x = some .cell := by decide +kernel) (f : ∀ y ∈ s.names, y.2 ≠ .free := by decide +kernel) : FnScope N P s := ⟨g, h2, d, e, b, c, f⟩
section
variable {K : PySem.W.Frag} {x y : Str} {st : Stmt} {f : Addr} {fd : FuncData} {p0 p1 p2 p3 p4 : Str}
theorem bi1 (F : Fun K x y st f fd) (h : ∀ kV p o n j l i, bindArgs (PySem.W.fnOf x y (defArgs st) (defBody st) (defScope st) .none kV p o n j l) ⟨[i], []⟩ = pure [(p0, i)] := by intros; rfl) : Binds K fd [p0] [] := F.binds fun a b c d e g m k => by
  rcases m with _ | ⟨i, _ | _⟩ <;> cases k
  exact h a b c d e g i
theorem bi2 (F : Fun K x y st f fd) (h : ∀ kV m p o k l i j, bindArgs (PySem.W.fnOf x y (defArgs st) (defBody st) (defScope st) .none kV m p o k l) ⟨[i, j], []⟩ = pure [(p0, i), (p1, j)] := by intros; rfl) : Binds K fd [p0, p1] [] := F.binds fun a b c d e g n q => by
  rcases n with _ | ⟨i, _ | ⟨j, _ | _⟩⟩ <;> cases q
  exact h a b c d e g i j
theorem bi3 (F : Fun K x y st f fd) (h : ∀ kV n q p l r k i j, bindArgs (PySem.W.fnOf x y (defArgs st) (defBody st) (defScope st) .none kV n q p l r) ⟨[k, i, j], []⟩ = pure [(p0, k), (p1, i), (p2, j)] := by intros; rfl) : Binds K fd [p0, p1, p2] [] := F.binds fun a b c d e g o m => by
  rcases o with _ | ⟨k, _ | ⟨i, _ | ⟨j, _ | _⟩⟩⟩ <;> cases m
  exact h a b c d e g k i j
theorem bi4 (F : Fun K x y st f fd) (h : ∀ kV o r q m s l i j k, bindArgs (PySem.W.fnOf x y (defArgs st) (defBody st) (defScope st) .none kV o r q m s) ⟨[l, i, j, k], []⟩ = pure [(p0, l), (p1, i), (p2, j), (p3, k)] := by intros; rfl) : Binds K fd [p0, p1, p2, p3] [] := F.binds fun a b c d e g p n => by
  rcases p with _ | ⟨l, _ | ⟨i, _ | ⟨j, _ | ⟨k, _ | _⟩⟩⟩⟩ <;> cases n
  exact h a b c d e g l i j k
end
theorem lea {K : PySem.W.Frag} {a b : List (Slot K)} (h : Le a b := by repeat (first | exact Le.nil | refine Le.eq ?_ | refine Le.un ?_ | refine Le.fr ?_)) : Le a b := h
theorem lea0 {K : PySem.W.Frag} {a b : List (Slot K)} (h : Le0 a b := by repeat (first | exact Le0.nil | refine Le0.eq ?_ | refine Le0.un ?_)) : Le0 a b := h
abbrev Slot.z {α : Type} [Rp K α] (a : α) : Slot K := .fz false a
abbrev Slot.y {α : Type} [Rp K α] (a : α) : Slot K := .fz true a
end Ts
namespace SetP
open PySem PySem.SetTable
def seen (m : Nat) : Nat → Nat → Nat → Nat
  | 0, _, a => a
  | t + 1, i, a => seen m t ((i * 5 + 1) % m) (a ||| 1 <<< i)
theorem getD_none {owner : Array (Option Nat)} : owner.getD j (some 0) = none ↔ owner.toList[j]? = some none := by
  rw [Array.getD_eq_getD_getElem?, Array.getElem?_toList]
  cases owner[j]? with
  | none => simp
  | some x => simp
end SetP
namespace L2
open PySem PySem.Spec PyProof.Rows
def Itv (K : PySem.W.Frag) (a : Addr) (n : Nat) : It :=
  ⟨fun i H => i < n ∧ ∃ b x, SqL K H a b ∧ b[n - 1 - i]? = some x, fun i H x c => c = H ∧ ∀ b, SqL K H a b → b[n - 1 - i]? = some x, fun i _ => i = n⟩
theorem turn_rev {P : Program} {w : World} {K : PySem.W.Frag} {R : Expr} (a g : Addr) (n : Nat) : Turn P w K R (Itv K a n) [g] g (fun i h => h.IsRevIter g a ((n : Int) - 1 - (i : Nat))) where
  mem := by simp
  obj := fun i h st b l => by
    have e : b = g := by simpa using l
    subst e
    obtain ⟨o, e, c, d⟩ := st
    exact ⟨o, e, fun v z => by rw [d] at z; cases z⟩
  keep := fun i h m st k => st.at fun o e => k g (by simp) o e
  item := by
    intro X t F B N i f s σ H E I q st G
    subst t F B
    obtain ⟨M, xs, x, L, J⟩ := G
    obtain ⟨its, Q, p, hz⟩ := I.list L
    obtain ⟨u, Z, O⟩ := Q.get J
    obtain ⟨y, D, S, A, r, C⟩ := q g (by simp)
    have e : (n : Int) - 1 - (i : Nat) = ((n - 1 - i : Nat) : Int) := by lia
    rw [e] at st
    refine wpAny_pyNext_rev_item st p.isList (x := u) (by simpa using Z) fun m j sb => ?_
    have T : Inv X f σ H { s with heap := m } := I.turned (t' := s.toks) (fun b o l e => (sb.2 b l).trans e) y D A r C
    have e2 : ((n - 1 - i : Nat) : Int) - 1 = (n : Int) - 1 - ((i + 1 : Nat) : Int) := by lia
    rw [e2] at j
    obtain ⟨o, e, c, d⟩ := id j
    exact ⟨u, rfl, go_of (s := { s with heap := m }) e c d (by decide) ⟨x, H, T, O, ⟨rfl, fun ys Y => by rw [I.list_inj Y L]; exact J⟩, j, fun b l => (q b l).1⟩⟩
  done := by
    intro X t F B N i f s σ H E I q st G
    subst t F B
    have M : i = n := G
    subst M
    obtain ⟨y, D, S, A, r, C⟩ := q g (by simp)
    have e : (i : Int) - 1 - (i : Nat) = -1 := by lia
    rw [e] at st
    exact wpAny_pyNext_rev_end (I.ok.hd N) st fun m U => ⟨rfl, I.turned (t' := s.toks) (fun b o l e => U b o l e) y D A r C⟩
  self := fun _ _ _ _ _ st h => wpAny_pyIter_revIter st h
def iRev (K : PySem.W.Frag) (e : TA) : TI := fun σ H R => e σ H fun d c => ∃ a b, d = [.ref a] ∧ SqL K c a b ∧ R (Itv K a b.length) c
theorem boot_reversed' : bootBuiltins "reversed" = some (.type "reversed") := by decide +kernel
theorem pi_rev (B : Gl X "reversed") (w : X.mg "reversed" = none) (v : PA X [a] n) (r : starEach [a] X.env = [(false, eval a X.env)] := by rfl) : PI X tg (.Call (.Name "reversed" p) [a] [] pos) (iRev X.K n) := by
  intro f s σ H R I h
  refine Call_ (ld_blt I B w boot_reversed' (PyProof.Rows.callWith_type1 (thn (v pos f s σ H _ I h) ?_) r rfl))
  rintro us c ⟨vs, j, g, y, A⟩
  obtain ⟨l, i, e, t, q⟩ := A
  subst e
  obtain ⟨u, rfl, z⟩ := y.one
  cases z
  obtain ⟨d, x, p, hz⟩ := g.list t
  have hl := x.length
  refine call_reversed_list p.isList ?_
  have m : Inv X f σ j { c with heap := c.heap.push (revObj l ((d.toArray.size : Int) - 1)), toks := c.toks } := g.kept fun b o e => Heap.get?_push_of_some _ e
  have k : (c.heap.push (revObj l ((d.toArray.size : Int) - 1))).IsRevIter c.heap.objs.size l ((i.length : Int) - 1 - ((0 : Nat) : Int)) := by
    refine ⟨_, Heap.get?_push_size _ rfl, rfl, ?_⟩
    show Data.fields #[.ref l, rawInt ((d.toArray.size : Int) - 1)] = _
    grind
  refine wpAny_pyIter_revIter (s := { c with heap := c.heap.push (revObj l ((d.toArray.size : Int) - 1)) }) k ?_
  refine ⟨c.heap.objs.size, [c.heap.objs.size], _, _, j, rfl, m, turn_rev l _ i.length, k, fun b hb => ?_, q⟩
  have e : b = c.heap.objs.size := by grind
  subst e
  exact g.fpOk (Nat.le_refl _) (g.hok.fresh (Nat.le_refl _))
theorem comp_rev {n : Nat} {ix : List Nat} {g : TG} {h : TT} {te : TE} {σ : St} {Q : VK} {H : Hp} {K : PySem.W.Frag} {a : Addr} {xs : List V} (c : Nat → List V → St → Hp → Prop) (h0 : c 0 [] (σIn σ n ix) H) (u : ∀ i ys σ H, i ≤ xs.length → c i ys σ H → SqL K H a xs ∧ ys.length ≤ i) (hz : xs.length < sizeLine)
    (hs : ∀ i x ys σ H, xs[xs.length - 1 - i]? = some x → i < xs.length → c i ys σ H → g x σ H fun f s => h f s fun b j => if b = true then te f j fun y r => c (i + 1) (ys ++ [y]) f r else c (i + 1) ys f j)
    (o : ∀ ys σ H, c xs.length ys σ H → ∀ p, H p = none → Q (.ref p) (upd H p (.lst ys))) : rComp n ix g h te σ Q (Itv K a xs.length) H := by
  refine ⟨fun i m ys σ H => m = xs.length - i ∧ i ≤ xs.length ∧ c i ys σ H, ⟨xs.length, by simp, Nat.zero_le _, h0⟩, ?_⟩
  rintro i m ys σ H ⟨rfl, t, p⟩
  obtain ⟨q, hy⟩ := u i ys σ H t p
  by_cases d : i < xs.length
  · refine .inr ⟨⟨d, xs, xs[xs.length - 1 - i]'(by lia), q, List.getElem?_eq_getElem (by lia)⟩, by lia, c (i + 1), fun ys' σ' l k => ⟨xs.length - (i + 1), by lia, rfl, d, k⟩, fun x l y => ?_⟩
    obtain ⟨e, y⟩ := y
    grind
  · have e : i = xs.length := by lia
    subst e
    exact .inl ⟨rfl, by lia, o ys σ H p⟩
end L2
namespace Sy
open PySem L2
inductive Tr where
  | all
  | mark (x : Str)
  | one (i : Fin 6) (t : Tr)
  | two (i : Fin 4) (l r : Tr)
def w1 (i : Fin 6) : Str := (["not", "somenext", "eachnext", "somealways", "eachalways", "someever", "eachever"] : List Str).getD i.val Str.empty
def w2 (i : Fin 4) : Str := (["both", "either", "sometill", "eachtill"] : List Str).getD i.val Str.empty
def Tr.depth : Tr → Nat
  | .all => 0
  | .mark _ => 0
  | .one _ t => t.depth + 1
  | .two _ l r => max l.depth r.depth + 1
theorem same_new (h : H p = none) (o : HO) : Same H (upd H p o) := fun b u q => by rw [upd_ne (ne_of_none q h)]; exact q
theorem putF_len (f : Str) (v : V) : ∀ fs : List (Str × V), (putF f v fs).length ≤ fs.length + 1
  | [] => Nat.le_refl _
  | (g, x) :: r => by
    unfold putF
    split
    · exact Nat.le_succ _
    · exact Nat.succ_le_succ (putF_len f v r)
inductive Hd where
  | all
  | mark
  | one (i : Fin 6)
  | two (i : Fin 4)
def hd : Tr → Hd
  | .all => .all
  | .mark _ => .mark
  | .one i _ => .one i
  | .two i _ _ => .two i
def hw : Tr → Str
  | .all => "all"
  | .mark x => x
  | .one i _ => w1 i
  | .two i _ _ => w2 i
def n1 (i : Fin 6) : Str := (["Not", "SomeNext", "EachNext", "SomeAlways", "EachAlways", "SomeEver", "EachEver"] : List Str).getD i.val Str.empty
def n2 (i : Fin 4) : Str := (["Both", "Either", "SomeTill", "EachTill"] : List Str).getD i.val Str.empty
end Sy
namespace Ts
open PySem L2 Sy
structure Say (cl : Hd → Addr) where
  t : Tr
noncomputable def Say.name (x : Say cl) : Option Str := match x.t with
  | .mark s => some s
  | _ => none
end Ts
namespace Ts
open PySem L2 Sy
inductive Rsn where
  | none
  | step (n : Int)
  | shut
  | walk (xs : List Int)
  | out
  | loop (xs ys : List Int)
  | rank (n : Int) (o : Option Int)
  | here
  | dead
  | plain
def Rsn.len : Rsn → Int
  | .step _ => 2
  | .walk _ => 2
  | .loop _ _ => 3
  | .rank _ _ => 3
  | _ => 1
section
variable {K : PySem.W.Frag}
def Rsn.rest (K : PySem.W.Frag) (F : Hp) : Rsn → List V → Prop
  | .step n, c => c = [.int n]
  | .walk d, c => ∃ a, c = [a] ∧ rp K F a d
  | .loop d e, c => ∃ a b, c = [a, b] ∧ rp K F a d ∧ rp K F b e
  | .rank n o, c => ∃ b, c = [.int n, b] ∧ rp K F b o
  | _, c => c = []
end
end Ts
namespace L2
open PySem PySem.Spec PyProof.Rows
section
variable {X : Cx}
def rSlS : V → Option Int → Option Int → Hp → VK → Prop := fun x lo a H Q => ∃ z j, x = .str z ∧ lo = none ∧ a = some j ∧ z.length ≤ sizeLine ∧ Q (.str (Txt.slice z none (some j))) H
theorem sl_str : SlR X rSlS := by
  intro pins s σ H x v vl vu lo hi sl Q I f e d a h
  obtain ⟨z, j, rfl, rfl, rfl, c, q⟩ := h
  obtain ⟨t, rfl⟩ := f
  cases d
  cases a with
  | int _ g =>
    refine ⟨"str", _, PySem.F.slot_str_getitem.lookup, typeIs_str _ _ _, ?_⟩
    exact wpAny_getItem_str_slice (l := none) (u := some (j, g)) (st := none) e rfl (post_val_or_str ⟨Nat.le_trans (Txt.slice_le z _ _) c, fun b k => ⟨.str _, H, I.tok k, ⟨b, rfl⟩, q⟩⟩)
def rAddS : R2 := fun x y H Q => ∃ i j, x = .str i ∧ y = .str j ∧ i.length + j.length ≤ sizeLine ∧ Q (.str (i ++ j)) H
theorem op_addS : OpR X (binaryOp .Add) rAddS := op_add_str
def rIxT1 : R2 := fun x y H Q => ∃ z i c, x = .str z ∧ y = .int i ∧ 0 ≤ i ∧ i < 2 ^ 63 ∧ i < z.length ∧ z.cps[i.toNat]? = some c ∧ Q (.str ⟨#[c]⟩) H
theorem pe_ixS (g : PE X a d) (c : PE X b e) (f : PlainIxT b) : PE X (.Subscript a b pos) (tOp rIxT1 d e) := pe_item_str g c f
end
end L2
namespace Ts
open PySem L2
section
variable {K : PySem.W.Frag} {B : Bs} {sl : List (Slot K)} {md : Md} {t t1 t2 : TE}
noncomputable def ixS (z : Str) (i : Int) : Option Str := if 0 ≤ i ∧ i < 2 ^ 63 ∧ i < z.length then (z.cps[i.toNat]?).map fun c => ⟨#[c]⟩ else none
theorem ex_ixS (l : Ex B sl .hp t1 q) (h2 : Ex B sl .hp t2 n) : Ex B sl md (tOp rIxT1 t1 t2) (q.bind fun a => n.bind fun b => ixS a b) := fun c p F O H σ Q s k => by
  obtain ⟨a, b, r, h, d⟩ := bind2 p
  unfold ixS at d
  split at d
  case isFalse => cases d
  rename_i f
  cases e : a.cps[b.toNat]? with
  | none => grind
  | some z =>
    rw [e] at d
    cases d
    refine l a r F O H σ _ s fun v j x g m => ?_
    refine h2 b h j O x σ _ (s.grow g) fun w y u i o => ?_
    cases m
    cases o
    exact ⟨a, b, z, rfl, rfl, f.1, f.2.1, f.2.2, e, k _ y u (g.trans i) rfl⟩
end
end Ts
namespace Ts
open PySem L2
section
variable {K : PySem.W.Frag} {B : Bs} {sl : List (Slot K)} {F H H' L L' : Hp} {O : Own} {σ : St} {α : Type} [Rp K α]
abbrev isNu : Slot K → Bool
  | @Slot.nu _ _ _ _ => true
  | _ => false
theorem SlotsOk.mut2 (h : SlotsOk B F L H sl σ O) (a : sl.all (fun s => !isHs s && !isNu s) = true) : SlotsOk B F L' H' sl σ O := by
  induction h with
  | nil => exact .nil
  | un _ ih => exact .un (ih (by grind))
  | fz r _ ih => exact .fz (Rp.mono (reg_mdb _ (.refl _)) r) (ih (by grind))
  | hs r _ ih => grind
  | nu r _ ih => grind
  | ow r _ ih => exact .ow (r.imp fun _ _ => Rp.mono (reg_mdb _ (.refl _))) (ih (by grind))
  | od r _ ih => exact .od r (ih (by rw [List.all_cons, Bool.and_eq_true] at a; exact a.2))
  | ob r _ ih => exact .ob (Ob.mono (reg_mdb _ (.refl _)) r) (ih (by rw [List.all_cons, Bool.and_eq_true] at a; exact a.2))
end
end Ts
namespace Ts
open PySem L2
theorem sb_at {β : Type} [Rp K β] {m : Option β} (sl2 : List (Slot K)) (h : SB B sl2 t al m) (e : a = sl2 := by rfl) : SB B a t al m := e ▸ h
end Ts
namespace Ts
open PySem L2
def del (H : Hp) (p : Addr) : Hp := fun b => if b = p then none else H b
def spR (K : PySem.W.Frag) {A β : Type} [Rp K β] (as : A → List (Slot K)) (f : List Int → A → Option (β × List Int)) : Sp := fun i H Q _ =>
  ∃ (p : Addr) (g : List Int) (h : List V) (a : A) (b : β) (c : List Int) (e : Hp), i = .ref p :: h ∧ H p = some (.lst (g.map V.int)) ∧ e p = none ∧ Same e H ∧ f g a = some (b, c) ∧ Ar e (as a) h ∧
    ∀ v d, Same (del H p) d → d p = some (.lst (c.map V.int)) → rp K (dif d H) v b → Q v d
section
variable {K : PySem.W.Frag} {B : Bs} {sl : List (Slot K)} {md : Md} {β : Type} [Rp K β]
noncomputable def Ey (B : Bs) (sl : List (Slot K)) (md : Md) (t : TE) {α S : Type} [Rp K α] (L : S → List (Slot K)) (m : Option (α × S)) : Prop :=
  ∀ a s, m = some (a, s) → ∀ (F : Hp) (O : Own) (H : Hp) (σ : St) (Q : VK), At B sl F O H σ → (∀ (v : V) (c : Hp) (d : Own) (b : Hp), Same F c → At B (L s) c d b σ → rp K (reg B c b md) v a → Q v b) → t σ H Q
end
end Ts
namespace Ts
open PySem L2
structure RL (p : Addr) where
  ws : List Int
section
variable {K : PySem.W.Frag} {B : Bs} {sl : List (Slot K)} {F H : Hp} {O : Own} {σ : St} {md : Md} {β : Type} [Rp K β] {p : Addr} {ws : List Int}
instance : Rp K (RL p) := ⟨fun F v x => v = .ref p ∧ F p = some (.lst (x.ws.map V.int)), fun s ⟨h1, h2⟩ => ⟨h1, s _ _ h2⟩⟩
theorem At.chgN (z : At B sl F O H σ) (k : sl[i]? = some (.nu (RL.mk (p := p) ws))) (E : (sl.set i .un).all (fun s => !isHs s && !isNu s) = true) :
    σ[i]? = some (some (.ref p)) ∧ H p = some (.lst (ws.map V.int)) ∧ B.H0 p = none ∧ F p = none ∧ (∀ x ∈ O, x.1 ≠ p) ∧ ∀ a : List Int, At B (sl.set i (.nu (RL.mk (p := p) a))) F O (upd H p (.lst (a.map V.int))) σ := by
  obtain ⟨v, m, rfl, d⟩ := z.2.nu_at k
  have n : B.H0 p = none := by
    cases q : B.H0 p with
    | none => rfl
    | some u => unfold dif at d; rw [q] at d; cases d
  rw [dif_at n] at d
  have h2' := d
  unfold lo at d
  split at d
  case isTrue => cases d
  rename_i b
  have f := b
  rw [Bool.or_eq_true, not_or] at b
  have w : F p = none := by
    cases q : F p with
    | none => rfl
    | some u => exact absurd (by rw [q]; rfl) b.1
  have t : ∀ x ∈ O, x.1 ≠ p := fun x l e => b.2 (List.any_eq_true.mpr ⟨x, l, by simpa using e⟩)
  refine ⟨m, d, n, w, t, fun a => ⟨⟨z.1.fh.put w _, z.1.h0.put n _, z.1.fa, fun x l => ?_, z.1.nd⟩, ?_⟩⟩
  · obtain ⟨y, D, C⟩ := z.1.fo x l
    exact ⟨y, D, by rw [upd_ne (t x l)]; exact C⟩
  · have e : σ.set i (some (.ref p)) = σ := by
      apply List.ext_getElem?
      intro j
      rw [List.getElem?_set]
      split
      · rename_i o
        subst o
        split
        · exact m.symm
        · rename_i g
          rw [List.getElem?_eq_none (by omega)] at m
          cases m
      · rfl
    have q := z.2.put (s' := .un) (x := some (.ref p)) (fun sl σ O h => .un h) k rfl
    rw [e] at q
    have A := q.mut2 (L' := lo F O (upd H p (.lst (a.map V.int)))) (H' := upd H p (.lst (a.map V.int))) E
    have g : i < sl.length := by
      cases c : decide (i < sl.length) with
      | true => exact of_decide_eq_true c
      | false => rw [List.getElem?_eq_none (by have := of_decide_eq_false c; omega)] at k; cases k
    have r := A.put (s := .un) (s' := .nu (RL.mk (p := p) a)) (x := some (.ref p)) (i := i) (fun sl σ O h => .nu (by
      refine ⟨rfl, ?_⟩
      rw [dif_at n]
      unfold lo
      rw [if_neg f, upd_same]) h) (by rw [List.getElem?_set, if_pos rfl, if_pos g]) rfl
    rw [e, List.set_set] at r
    exact r
end
end Ts
namespace Ts
open PySem L2
section
variable {K : PySem.W.Frag} {B : Bs} {sl : List (Slot K)} {F H : Hp} {O : Own} {σ : St} {md : Md} {α β S : Type} [Rp K α] [Rp K β] {p : Addr} {ws : List Int} {te : TE} {t u : TS}
noncomputable def SBR (B : Bs) (p : Addr) (sl : List (Slot K)) (t : TS) {β : Type} [Rp K β] (m : Option (β × List Int)) : Prop :=
  ∀ b ws, m = some (b, ws) → ∀ (G : Hp) (D : Ends) (σ : St) (H : Hp), Sg B G sl σ H → (∀ v a, Same B.H0 a → a p = some (.lst (ws.map V.int)) → (∃ F : Hp, F p = none ∧ Same F a ∧ rp K (dif F B.H0) v b) → D.rt v a) → t D σ H
theorem SBR.of {m m' : Option (β × List Int)} (h : SBR B p sl t m) (e : m = m') : SBR B p sl t m' := e ▸ h
theorem sbr_ret {m : Option β} (i : Nat) (l : sl[i]? = some (.nu (RL.mk (p := p) ws))) (f : (sl.set i .un).all (fun s => !isHs s && !isNu s) = true) (h : Ex B sl .nw te m) : SBR B p sl (tSeq (tRet te) u) (m.bind fun b => some (b, ws)) := fun b ws' e G D σ H s k => by
  cases m with
  | none => cases e
  | some c =>
    obtain ⟨rfl, rfl⟩ := Prod.mk.inj (Option.some.inj (e))
    obtain ⟨F, O, g, a⟩ := s
    refine h c rfl F O H σ _ a fun v j q d r => ?_
    obtain ⟨_, o, _, n, _⟩ := (a.grow d).chgN l f
    exact k v q d.ok.h0 o ⟨j, n, d.ok.fh, r⟩
theorem slot_self (hs : sl[i]? = some s) : (sl.set i s')[i]? = some s' := by
  grind
theorem sbr_retY {s : Slot K} {m : Option (β × List Int)} (i : Nat) (hs : sl[i]? = some s) (hh : (sl.set i .un).all (fun s => !isHs s && !isNu s) = true) (h : Ey B sl .nw te (fun ws' => sl.set i (.nu (RL.mk (p := p) ws'))) m) : SBR B p sl (tSeq (tRet te) u) m := fun b ws' hb G D σ H s k => by
  obtain ⟨F, O, g, a⟩ := s
  refine h b ws' hb F O H σ _ a fun v F' O' H' sf a' r => ?_
  obtain ⟨_, h2, _, f0, _⟩ := a'.chgN (slot_self hs) (by rw [List.set_set]; exact hh)
  exact k v H' a'.1.h0 h2 ⟨F', f0, a'.1.fh, r⟩
theorem sbr_ifr {c : TT} {n : Option Bool} {m1 m2 : Option (β × List Int)} (hc : Et B sl c n) (h1 : SBR B p sl t m1) (h2 : SBR B p sl u m2) : SBR B p sl (tSeq (tIfS c t tNext) u) (n.bind fun b => if b = true then m1 else m2) := fun a w ha G D σ H s k => by
  cases n with
  | none => cases ha
  | some b =>
    obtain ⟨F, O, g, z⟩ := s
    refine hc b rfl F O H σ _ z fun F' H' gr => ?_
    cases b with
    | true => exact iteT (h1 a w (by simpa using ha) G _ σ H' (Sg.grow g z gr) k)
    | false => exact iteF (h2 a w (by simpa using ha) G D σ H' (Sg.grow g z gr) k)
theorem ey_popN (i : Nat) (hs : sl[i]? = some (.nu (RL.mk (p := p) ws))) (hh : (sl.set i .un).all (fun s => !isHs s && !isNu s) = true) : Ey B sl md (tBM0 K "list" rPop (tVar i)) (fun ws' => sl.set i (.nu (RL.mk (p := p) ws'))) (ws.getLast?.bind fun y => some (y, ws.dropLast)) := fun b ws' hb F O H σ Q z k => by
  cases e2 : ws.getLast? with
  | none => rw [e2] at hb; cases hb
  | some y =>
    rw [e2] at hb
    obtain ⟨rfl, rfl⟩ := Prod.mk.inj (Option.some.inj (show some (y, ws.dropLast) = some (b, ws') from hb))
    obtain ⟨h1, h2, b0, f0, o0, ch⟩ := z.chgN hs hh
    refine ⟨_, h1, .inl ⟨rfl, _, SqL.of h2⟩, p, ws.map V.int, V.int y, rfl, rfl, h2, ?_, ?_⟩
    · rw [List.length_map, List.getElem?_map, ← List.getLast?_eq_getElem?, e2]; rfl
    rw [← List.map_dropLast]
    exact k _ F O _ (.refl _) (ch ws.dropLast) rfl
theorem ex_lenN (i : Nat) (e : sl[i]? = some (.nu (RL.mk (p := p) ws))) (b : (sl.set i .un).all (fun s => !isHs s && !isNu s) = true) : Ex B sl md (tCB (rLen K) (tCons (tVar i) tNil)) (some (ws.length : Int)) := fun d f F O H σ Q z k => by
  cases f
  obtain ⟨c, a, _⟩ := z.chgN e b
  refine ⟨_, c, p, _, rfl, .inl (SqL.of a), k _ F H (.refl z.1) ?_⟩
  rw [List.length_map]
  rfl
theorem slots_startB {as : List (Slot K)} (k : Nat) (a : as.all isF = true) (r : Ar F as vs) : SlotsOk B F L' H (as ++ List.replicate k .un) (vs.map some ++ List.replicate k none) [] := by
  induction r with
  | nil =>
    show SlotsOk _ _ _ _ ([] ++ _) ([] ++ _) []
    induction k with
    | zero => exact .nil
    | succ k ih => exact .un ih
  | @cons n _ _ _ _ _ _ r _ ih =>
    rw [List.all_cons, Bool.and_eq_true] at a
    cases n with
    | false => exact .fz r (ih a.2)
    | true => grind
end
section
variable {P : Program} {w : World} {K : PySem.W.Frag} {mg : Str → Option Value} {base : Heap}
theorem def_okR {A β : Type} [Rp K β] {as : A → List (Slot K)} {C : List Int → A → Option (β × List Int)} (F : Fun K x i st f fd) (S : FnScope N ps (defScope st)) (hf : ∀ a, (as a).all isF = true) (G : ∀ a, (as a).length + 1 = ps.length)
    (hb : ∀ (g : Value) (A : Around) (d : List Env) (s : Shared) (H : Hp) (E : XK), Room k (A.deeper (PyProof.Rows.envOfC i (defScope st) s.heap.objs.size f g)) →
      ∃ t, PSs (cxOf CX0 P w K mg base N i (defScope st) f g A d s H E).nox (defBody st) t ∧ ∀ j p ws a, SBR ⟨j, del H p⟩ p (.nu (RL.mk (p := p) ws) :: (as a ++ List.replicate (N.length - ps.length) .un)) t (C ws a)) :
    FnOk P w K mg base CX0 (k + 1) f fd ps (spR K as C) :=
  F.ok S (fun vs H Q E h => by
    obtain ⟨p, ws, m, a, b, l, j, rfl, _, _, _, _, r, _⟩ := h
    rw [List.length_cons, r.len, G]) fun g A d s H vs Q E hr h => by
    obtain ⟨t, pt, q⟩ := hb g A d s H E hr
    refine ⟨t, pt, ?_⟩
    obtain ⟨p, ws, m, a, b, l, j, rfl, hp, fp, sf, n, r, kk⟩ := h
    have e : L2.start N (.ref p :: m) = some (.ref p) :: (m.map some ++ List.replicate (N.length - ps.length) none) := by
      unfold L2.start
      rw [List.length_cons, r.len, G]
      rfl
    have d0 : Same (del H p) H := fun c o e => by
      unfold del at e
      split at e
      · cases e
      · exact e
    have B : del H p p = none := by
      unfold del
      rw [if_pos rfl]
    rw [e]
    refine q j p ws a b l n j _ _ H ⟨j, [], .refl _, ⟨sf, d0, fun b o h => .inl h, fun x hx => (by cases hx), (by simp)⟩, .nu ⟨rfl, ?_⟩ (slots_startB _ (hf a) r)⟩ (fun v D s1 e1 z => ?_)
    · rw [dif_at B]
      unfold lo
      rw [fp]
      exact hp
    · obtain ⟨J, f2, s2, r2⟩ := z
      refine kk v D s1 e1 (Rp.mono (fun c o e => ?_) r2)
      unfold dif at e ⊢
      by_cases I : c = p
      · subst I
        have e : (match del H c c with | none => J c | some _ => none) = some o := e
        rw [B, f2] at e
        cases e
      · have ed : del H p c = H c := by
          unfold del
          rw [if_neg I]
        have e : (match del H p c with | none => J c | some _ => none) = some o := e
        rw [ed] at e
        show (match H c with | none => D c | some _ => none) = some o
        cases y : H c with
        | none => rw [y] at e; exact s2 _ _ e
        | some u => rw [y] at e; cases e
end
end Ts
namespace Ts
open PySem L2
section
variable {K : PySem.W.Frag} {B : Bs} {sl : List (Slot K)} {md : Md} {α β S : Type} [Rp K α] [Rp K β] {te : TE}
theorem sn_setY {L : S → List (Slot K)} (n : Bool) (j : Nat) (f : ∀ s, ∃ x, (L s)[j]? = some x ∧ isOw x = false) (h : Ey B sl (mdb n) te L m) : Sn B sl (tAsg te (gName j)) (fun r : α × S => (L r.2).set j (.fz n r.1)) m := fun a i G D σ H s k => by
  obtain ⟨F, O, g, z⟩ := s
  obtain ⟨x, d, b⟩ := f a.2
  exact h a.1 a.2 i F O H σ _ z fun v F' O' H' c l r => k _ _ (Sg.set (g.trans c) l d b r)
end
end Ts
namespace Ts
open PySem L2
section
variable {K : PySem.W.Frag} {B : Bs} {sl : List (Slot K)} {md : Md} {α β S : Type} [Rp K α] [Rp K β] {te : TE} {p : Addr} {ws : List Int}
structure Fr (p : Addr) (F H F' H' : Hp) : Prop where
  ff : Same F F'
  hh : ∀ b o, b ≠ p → H b = some o → H' b = some o
  nw : ∀ b, F b = none → H b ≠ none → F' b = none
theorem Fr.of (g : Grow B F H O a H') : Fr p F H a H' := ⟨g.ff, fun b o _ e => g.hh b o e, g.nw⟩
theorem Fr.refl (F H : Hp) : Fr p F H F H := ⟨.refl _, fun _ _ _ e => e, fun _ h _ => h⟩
theorem Fr.trans (a : Fr p F H g d) (b : Fr p g d j h) (hp : d p ≠ none) : Fr p F H j h :=
  ⟨a.ff.trans b.ff, fun c o n e => b.hh c o n (a.hh c o n e), fun c f i => b.nw c (a.nw c f i) (by
    by_cases n : c = p
    · grind
    · cases q : H c with
      | none => grind
      | some o => rw [a.hh c o n q]; grind)⟩
noncomputable def EyN (B : Bs) (p : Addr) (sl : List (Slot K)) (md : Md) (t : TE) {α S : Type} [Rp K α] (L : S → List (Slot K)) (m : Option (α × S)) : Prop :=
  ∀ a s, m = some (a, s) → ∀ (F : Hp) (O : Own) (H : Hp) (σ : St) (Q : VK), At B sl F O H σ → (∀ (v : V) (c b : Hp), Fr p F H c b → At B (L s) c O b σ → rp K (reg B c b md) v a → Q v b) → t σ H Q
theorem EyN.ey {L : S → List (Slot K)} {m : Option (α × S)} (h : EyN B p sl md te L m) : Ey B sl md te L m := fun a s e F O H σ Q z k => h a s e F O H σ Q z fun v c b f d r => k v c O b f.ff d r
theorem eyn_callN {A : Type} {as : A → List (Slot K)} {f : List Int → A → Option (β × List Int)} {D : Option A} (i : Nat) (E : sl[i]? = some (.nu (RL.mk (p := p) ws))) (I : (sl.set i .un).all (fun s => !isHs s && !isNu s) = true) (h : Ea B sl .fz T as D) :
    EyN B p sl md (tCall (spR K as f) [] E0 (tCons (tVar i) T)) (fun g => sl.set i (.nu (RL.mk (p := p) g))) (D.bind fun a => f ws a) := fun b g t F O H σ Q z k => by
  cases D with
  | none => cases t
  | some a =>
    have t : f ws a = some (b, g) := t
    obtain ⟨U, _⟩ := z.chgN E I
    refine ⟨_, U, ?_⟩
    refine h a rfl F O H σ _ z fun G l j C r => ?_
    obtain ⟨_, L, b0, R, o0, P⟩ := (z.grow C).chgN E I
    show spR K as f ((.ref p :: G) ++ []) j Q E0
    rw [List.append_nil]
    refine ⟨p, ws, G, a, b, g, l, rfl, L, R, C.ok.fh, t, r, fun v m N Y M => ?_⟩
    have w := P g
    have J : Same (upd j p (.lst (g.map V.int))) m := fun c o e => by
      by_cases q : c = p
      · subst q
        rw [upd_same] at e
        rw [Y]
        exact e
      · rw [upd_ne q] at e
        refine N c o ?_
        unfold del
        rw [if_neg q]
        exact e
    have x := w.1.called J
    have u : Fr p l j l (upd j p (.lst (g.map V.int))) := ⟨.refl _, fun c o n e => by rw [upd_ne n]; exact e, fun _ h _ => h⟩
    have X : upd j p (.lst (g.map V.int)) p ≠ none := by rw [upd_same]; intro q; cases q
    refine k v _ m ((Fr.of C).trans (u.trans (.of x) X) (by rw [L]; intro q; cases q)) (w.grow x) ?_
    have d : Same (dif m j) (dif m (upd j p (.lst (g.map V.int)))) := fun c o e => by
      unfold dif at e ⊢
      by_cases q : c = p
      · grind
      · rw [upd_ne q]
        exact e
    have y := Rp.mono (ext_new (F := l) w.1.h0 J) (Rp.mono d M)
    exact match md with
    | .nw => y
    | .fz => Rp.mono dif_le y
    | .hp => Rp.mono (dif_le.trans x.ok.fh) y
end
end Ts
namespace Ts
open PySem L2
def mapY {α β : Type} (f : List Int → α → Option (β × List Int)) : List Int → List α → Option (List β × List Int)
  | a, [] => some ([], a)
  | a, x :: b => (f a x).bind fun r => (mapY f r.2 b).bind fun q => some (r.1 :: q.1, q.2)
noncomputable def compY {α β : Type} (f : List Int → α → Option (β × List Int)) (ws : List Int) (xs : List α) : Option (List β × List Int) := if xs.length < cap then mapY f ws xs else none
section
variable {K : PySem.W.Frag} {B : Bs} {sl : List (Slot K)} {md : Md} {α β S : Type} [Rp K α] [Rp K β] {te : TE} {p : Addr} {ws : List Int} {n n' : Bool}
noncomputable def EoN (B : Bs) (p : Addr) (sl : List (Slot K)) (md : Md) (t : TE) {α S : Type} [Rp K α] (L : S → List (Slot K)) (m : Option (List α × S)) : Prop :=
  ∀ a s, m = some (a, s) → ∀ (F : Hp) (O : Own) (H : Hp) (σ : St) (Q : VK), At B sl F O H σ → (∀ (q : Addr) (d : List V) (c b : Hp), Fr p F H c b → At B (L s) c O b σ → b q = none → A2 (rp K (reg B c b md)) d a → Q (.ref q) (upd b q (.lst d))) → t σ H Q
theorem At.moveN {f : List Int} (z : At B sl F O H σ) (d : sl[i]? = some (.nu (RL.mk (p := p) ws))) (l : (sl.set i .un).all (fun s => !isHs s && !isNu s) = true) (c : Fr p F H b a) (k2 : Ok B b [] a) (hp : a p = some (.lst (f.map V.int))) (fp : b p = none) : At B (sl.set i (.nu (RL.mk (p := p) f))) b O a σ := by
  obtain ⟨h1, h2, o, f0, m, _⟩ := z.chgN d l
  refine ⟨⟨k2.fh, k2.h0, k2.fa, fun x g => ?_, z.1.nd⟩, ?_⟩
  · obtain ⟨u, t, k⟩ := z.1.fo x g
    exact ⟨c.nw _ u (by rw [k]; intro q; cases q), t, c.hh _ _ (m x g) k⟩
  · have e : σ.set i (some (.ref p)) = σ := by
      apply List.ext_getElem?
      grind
    have q := z.2.put (s' := .un) (x := some (.ref p)) (fun sl σ O h => .un h) d rfl
    rw [e] at q
    have r := (q.mut2 (L' := lo b O a) (H' := a) l).mono c.ff (.refl _) (.refl _)
    have j := r.put (s := .un) (s' := .nu (RL.mk (p := p) f)) (x := some (.ref p)) (i := i) (fun sl σ O h => .nu (by
      refine ⟨rfl, ?_⟩
      rw [dif_at o]
      unfold lo
      grind) h) (slot_self d) rfl
    rw [e, List.set_set] at j
    exact j
theorem eo_compY {slI : List Int → List (Slot K)} {R : List Int → α → List (Slot K)} {f : List Int → α → Option (β × List Int)} (j : Nat) (I : sl[j]? = some (.nu (RL.mk (p := p) ws))) (hh : (sl.set j .un).all (fun s => !isHs s && !isNu s) = true)
    (h0 : ∀ (F : Hp) (O : Own) (H : Hp) (σ : St), At B sl F O H σ → SlotsOk B F (lo F [] H) H (slI ws) (σIn σ no ix) [])
    (hi : Ei B sl n l mi) (hg : ∀ ws, Tg B (slI ws) n g (R ws)) (hc : ∀ ws x, Et B (R ws x) tc (some true)) (he : ∀ ws x, EyN B p (R ws x) (mdb n') te (fun P => R P x) (f ws x)) (hle : ∀ ws x, Le0 (R ws x) (slI ws)) (hI : ∀ ws x, ∃ jI, (R ws x)[jI]? = some (.nu (RL.mk (p := p) ws)) ∧ ((R ws x).set jI .un).all (fun s => !isHs s && !isNu s) = true) :
    EoN B p sl (mdb n') (tComp no ix l g tc te) (fun P => sl.set j (.nu (RL.mk (p := p) P))) (mi.bind fun xs => compY f ws xs) := fun d c E F O H σ Q a k => by
  cases mi with
  | none => cases E
  | some xs =>
    have E : compY f ws xs = some (d, c) := E
    unfold compY at E
    split at E
    case isFalse => cases E
    rename_i hcap
    have hcl := cap_lt hcap
    refine hi xs rfl F O H σ _ a fun J F' H' gr yl => ?_
    have a' := a.grow gr
    have zl : d.length = xs.length := by
      have key : ∀ (xs : List α) (ws : List Int) (d : List β) (c : List Int), mapY f ws xs = some (d, c) → d.length = xs.length := by
        intro xs
        induction xs with
        | nil => intro ws d c h; cases h; rfl
        | cons x xs ih =>
          intro ws d c h
          unfold mapY at h
          cases X : f ws x with
          | none => rw [X] at h; cases h
          | some r =>
            rw [X] at h
            have h : ((mapY f r.2 xs).bind fun q => some (r.1 :: q.1, q.2)) = some (d, c) := h
            cases M : mapY f r.2 xs with
            | none => rw [M] at h; cases h
            | some q =>
              rw [M] at h
              cases (show some (r.1 :: q.1, q.2) = some (d, c) from h)
              rw [List.length_cons, List.length_cons, ih r.2 q.1 q.2 M]
      exact key xs ws d c E
    refine ⟨fun i m ys σ2 C => m = xs.length - i ∧ i ≤ xs.length ∧ ∃ (D : Hp) (l : List Int) (Z Y : List β), mapY f l (xs.drop i) = some (Y, c) ∧ Z ++ Y = d ∧ Z.length = i ∧ Fr p F' H' D C ∧ At B (sl.set j (.nu (RL.mk (p := p) l))) D O C σ ∧ SlotsOk B D (lo D [] C) C (slI l) σ2 [] ∧ A2 (rp K (reg B D C (mdb n'))) ys Z,
      ⟨xs.length, rfl, Nat.zero_le _, F', ws, [], d, E, rfl, rfl, .refl _ _, ?_, h0 F' O H' σ a', trivial⟩, ?_⟩
    · have e : sl.set j (.nu (RL.mk (p := p) ws)) = sl := by
        apply List.ext_getElem?
        intro i
        rw [List.getElem?_set]
        split
        · rename_i hij
          subst hij
          split
          · exact I.symm
          · rename_i t
            rw [List.getElem?_eq_none (by lia)] at I
            cases I
        · rfl
      rw [e]
      exact a'
    rintro i m ys σ2 C ⟨rfl, hil, D, l, Z, Y, b, ez, bl, T, A, s2, r2⟩
    have hyl : ys.length = i := by rw [r2.len, bl]
    obtain ⟨y1, y2⟩ := yl i D O C T.ff A.1
    by_cases t : i < xs.length
    · obtain ⟨go, y3⟩ := y2 xs[i] (List.getElem?_eq_getElem t)
      rw [List.drop_eq_getElem_cons t] at b
      unfold mapY at b
      cases X : f l xs[i] with
      | none => rw [X] at b; cases b
      | some r =>
        rw [X] at b
        have b : ((mapY f r.2 (xs.drop (i + 1))).bind fun q => some (r.1 :: q.1, q.2)) = some (Y, c) := b
        cases M : mapY f r.2 (xs.drop (i + 1)) with
        | none => rw [M] at b; cases b
        | some q =>
          rw [M] at b
          obtain ⟨y, w2⟩ := r
          obtain ⟨cs', wE'⟩ := q
          obtain ⟨rfl, rfl⟩ := Prod.mk.inj (Option.some.inj (show some (y :: cs', wE') = some (Y, c) from b))
          refine .inr ⟨go, by lia, fun ys' σ' U => ∃ (L : Hp), Fr p F' H' L U ∧ At B (sl.set j (.nu (RL.mk (p := p) w2))) L O U σ ∧ SlotsOk B L (lo L [] U) U (slI w2) σ' [] ∧ A2 (rp K (reg B L U (mdb n'))) ys' (Z ++ [y]), (by rintro ys' σ' U ⟨L, z1, z2, z3, z4⟩; exact ⟨xs.length - (i + 1), by lia, rfl, t, L, w2, Z ++ [y], cs', M, by rw [List.append_assoc]; exact ez, by rw [List.length_append, bl]; rfl, z1, z2, z3, z4⟩), fun v H3 yd => ?_⟩
          obtain ⟨F3, o, r3⟩ := y3 v H3 yd
          have G := A.grow o
          have at3 : At B (slI l) F3 [] H3 σ2 := ⟨o.ok.nil, s2.mono o.ff (lo_mono ⟨o.ff, o.hh, o.ok.nil, o.nw⟩) o.hh⟩
          refine hg l v xs[i] F3 [] H3 σ2 _ at3 r3 fun σ4 a4 => ?_
          refine hc l xs[i] true rfl F3 [] H3 σ4 _ a4 fun F5 H5 g5 => iteT ?_
          have g5' := Grow.lift o.ok g5
          have at5 := G.grow g5'
          refine he l xs[i] y w2 X F5 [] H5 σ4 _ (a4.grow g5) fun u F6 H6 N a6 r6 => ?_
          obtain ⟨_, hp5, b5, f5, o5, ch5⟩ := at5.chgN (slot_self I) (by rw [List.set_set]; exact hh)
          obtain ⟨jI, i1, i2⟩ := hI w2 xs[i]
          obtain ⟨_, hp6, _, f6, _⟩ := a6.chgN i1 i2
          obtain ⟨_, hp2, _⟩ := A.chgN (slot_self I) (by rw [List.set_set]; exact hh)
          obtain ⟨_, hp3, _⟩ := G.chgN (slot_self I) (by rw [List.set_set]; exact hh)
          have nn : ∀ {H : Hp} {w : List Int}, H p = some (.lst (w.map V.int)) → H p ≠ none := fun e => by rw [e]; intro z; cases z
          have at6 := at5.moveN (slot_self I) (by rw [List.set_set]; exact hh) N a6.1 hp6 f6
          rw [List.set_set] at at6
          exact ⟨F6, T.trans ((Fr.of o).trans ((Fr.of g5').trans N (nn hp5)) (nn hp3)) (nn hp2), at6, a6.2.le0 (hle w2 xs[i]), (r2.imp fun _ _ => Rp.mono (reg_mdb _ (o.ff.trans (g5.ff.trans N.ff)))).snoc r6⟩
    · have e : i = xs.length := by lia
      subst e
      rw [List.drop_length] at b
      cases (show some (([] : List β), l) = some (Y, c) from b)
      rw [List.append_nil] at ez
      subst ez
      exact .inl ⟨y1 (Nat.le_refl _), by lia, fun q hq => k q ys D C ((Fr.of gr).trans T (by
        obtain ⟨_, h2, _⟩ := a'.chgN I hh
        rw [h2]; intro q; cases q)) A hq r2⟩
end
end Ts
namespace Ts
open PySem L2
section
variable {K : PySem.W.Frag} {B : Bs} {sl : List (Slot K)} {md : Md} {α β S : Type} [Rp K α] [Rp K β] {te t1 t2 : TE} {p : Addr}
theorem EoN.eyn {L : S → List (Slot K)} {m : Option (List α × S)} (n : ∀ s, ∃ (i : Nat) (ws : List Int), (L s)[i]? = some (.nu (RL.mk (p := p) ws)) ∧ ((L s).set i .un).all (fun s => !isHs s && !isNu s) = true) (h : EoN B p sl md te L m) : EyN B p sl md te L m := fun a s e F O H σ Q z k => h a s e F O H σ Q z fun q d F' H' j b f r => by
  have c := Grow.new b.1 f (.lst d)
  obtain ⟨i, w1, l, g⟩ := n s
  obtain ⟨_, hp1, _⟩ := b.chgN l g
  exact k _ _ _ (j.trans (.of c) (by grind)) (b.grow c) ⟨q, d, rfl, reg_upd b.1 f md, r.imp fun _ _ => Rp.mono (reg_mono c md)⟩
end
end Ts
namespace Ts
open PySem L2
section
variable {K : PySem.W.Frag} {B : Bs} {sl : List (Slot K)} {F H : Hp} {O : Own} {σ : St}
abbrev capR : Slot K → Slot K
  | @Slot.fz _ n _ i a => @Slot.fz _ n _ i a
  | @Slot.nu _ _ i a => @Slot.nu _ _ i a
  | _ => .un
theorem lo_nil : Same (lo F O H) (lo F [] H) := fun b o h => by
  unfold lo at h ⊢
  grind
theorem SlotsOk.oneR (a : At B sl F O H σ) (j : Nat) (g : sl[j]? = some s) : ∀ {c : List (Slot K)} {e : St}, SlotsOk B F (lo F [] H) H c e [] → SlotsOk B F (lo F [] H) H (capR s :: c) ((σ[j]?).getD none :: e) [] := fun {c e} h => by
  cases s with
  | un => exact .un h
  | fz n b => obtain ⟨v, f, d⟩ := a.2.fz_at g; rw [f]; exact .fz d h
  | hs b => exact .un h
  | nu b => obtain ⟨v, f, d⟩ := a.2.nu_at g; rw [f]; exact .nu (Rp.mono (dif_mono lo_nil) d) h
  | ow n xs => exact .un h
  | od kvs => exact .un h
  | ob n a => exact .un h
def slInR (sl : List (Slot K)) (n : Nat) (ix : List Nat) : List (Slot K) := List.replicate n .un ++ ix.map fun j => capR ((sl[j]?).getD .un)
theorem slInR_ok (a : At B sl F O H σ) (n : Nat) : ∀ (ix : List Nat), (∀ j ∈ ix, j < sl.length) → SlotsOk B F (lo F [] H) H (slInR sl n ix) (σIn σ n ix) [] := fun ix b => by
  unfold slInR σIn
  induction n with
  | zero =>
    induction ix with
    | nil => exact .nil
    | cons j ix ih =>
      have c := b j List.mem_cons_self
      have d := List.getElem?_eq_getElem c
      have z := SlotsOk.oneR a j d (ih fun k e => b k (List.mem_cons_of_mem _ e))
      grind
  | succ n ih => exact .un ih
theorem compY0 {ix : List Nat} (hix : (ix.all fun j => decide (j < sl.length)) = true) (hI : slI = slInR sl no ix) : ∀ (F : Hp) (O : Own) (H : Hp) (σ : St), At B sl F O H σ → SlotsOk B F (lo F [] H) H slI (σIn σ no ix) [] := fun F O H σ a => by
  rw [hI]
  exact slInR_ok a no ix fun j hj => by simpa using (List.all_eq_true.mp hix) j hj
end
end Ts
namespace Ts
open PySem L2
structure Tri (α β γ : Type) where
  a : α
  b : β
  c : γ
section
variable {K : PySem.W.Frag} {B : Bs} {sl : List (Slot K)} {md : Md} {n : Bool} {α β γ S : Type} [Rp K α] [Rp K β] [Rp K γ] {te t1 t2 t3 : TE}
instance : Rp K (Tri α β γ) := ⟨fun F v x => ∃ p u w z, v = .ref p ∧ F p = some (.tup [u, w, z]) ∧ rp K F u x.a ∧ rp K F w x.b ∧ rp K F z x.c, fun s h => by
    obtain ⟨p, u, w, z, h1, h2, h3, h4, h5⟩ := h
    exact ⟨p, u, w, z, h1, s _ _ h2, Rp.mono s h3, Rp.mono s h4, Rp.mono s h5⟩⟩
theorem tg_tup3 (i j l : Nat) (q : sl[i]? = some s) (D : isOw s = false) (f : ∀ x : Slot K, (sl.set i x)[j]? = some s') (m : isOw s' = false) (e : ∀ x y : Slot K, ((sl.set i x).set j y)[l]? = some u) (g : isOw u = false) :
    Tg B sl n (gTup K 3 (gCons (gName i) (gCons (gName j) (gCons (gName l) gNil)))) (fun x : Tri α β γ => ((sl.set i (.fz n x.a)).set j (.fz n x.b)).set l (.fz n x.c)) := fun v x F O H σ Q a r k => by
  obtain ⟨p, o, h, d, rfl, t, C, A, w⟩ := r
  refine ⟨p, [o, h, d], rfl, .inl (.inl (tup_reg a.1 t)), rfl, o, [h, d], rfl, h, [d], rfl, d, [], rfl, rfl, ?_⟩
  exact k _ ⟨a.1, ((a.2.put (fun _ _ _ z => .fz C z) q D).put (fun _ _ _ z => .fz A z) (f _) m).put (fun _ _ _ z => .fz w z) (e _ _) g⟩
end
end Ts
namespace Ts
open PySem L2
section
variable {K : PySem.W.Frag} {B : Bs} {sl : List (Slot K)} {md : Md} {te : TE}
theorem eo_rev {mi : Option (List Int)} (h : Ex B sl .hp te mi) : Eo B sl md (tComp 1 [] (iRev K (tCons te tNil)) (gName 0) tIf0 (tVar 0)) (mi.bind fun us => if us.length < cap then some us.reverse else none) := fun y c F O H σ Q a k => by
  cases mi with
  | none => cases c
  | some us =>
    have c : (if us.length < cap then some us.reverse else none) = some y := c
    split at c
    case isFalse => cases c
    rename_i e
    cases c
    refine h us rfl F O H σ _ a fun v s o D r => ?_
    obtain ⟨p, b, rfl, m, w⟩ := r
    have m : o p = some (.lst b) := m
    have z : b = us.map V.int := A2.eq_map w
    have A : b.length = us.length := w.len
    refine ⟨p, b, rfl, SqL.of m, comp_rev (xs := b) (fun i l j d => d = o ∧ (∃ v, j = [v]) ∧ l = b.reverse.take i) ⟨rfl, ⟨none, rfl⟩, rfl⟩ (?_) (by rw [A]; exact cap_lt e) (fun i x l j d C t ⟨g, ⟨v, u⟩, n⟩ => ?_) (fun l j d ⟨g, _, n⟩ q E => ?_)⟩
    rintro i l j d t ⟨g, _, u⟩
    · subst g
      exact ⟨SqL.of m, by grind⟩
    · subst g
      subst u
      subst n
      refine ⟨x, rfl, rfl, ⟨some x, rfl⟩, ?_⟩
      rw [List.take_add_one, List.getElem?_reverse t, C]
      rfl
    · subst g
      subst n
      refine k q _ s d D E ?_
      rw [← List.length_reverse, List.take_length, z]
      exact (A2.of_map (R := rp K (reg B s d md)) (f := V.int) (fun _ => rfl) us).rev
end
end Ts
namespace Ts
open PySem L2
noncomputable def revM (us : List Int) : Option (List Int) := if us.length < cap then some us.reverse else none
section
variable {K : PySem.W.Frag} {B : Bs} {sl sl2 : List (Slot K)} {md : Md} {te : TE} {t : TS} {β : Type} [Rp K β] {p : Addr}
theorem eo_cutSc {m : Option Scr} {mi : Option Int} {d : TE} (h : Ex B sl .hp te m) (w : Ex B sl .hp d mi) : Eo B sl md (tSl (rSlL K) te tNoPart (tPart d)) (m.bind fun xs => mi.bind fun i => some (cutL xs.ns none (some i))) := fun c b F O H σ Q s k => by
  obtain ⟨xs, i, n, a, b⟩ := bind2 b
  cases b
  refine h xs n F O H σ _ s fun v x z g r => ?_
  refine w i a x O z σ _ (s.grow g) fun u j A e q => ?_
  obtain ⟨p, rfl, o⟩ := r
  exact ⟨i, q, p, xs.ns.map V.int, rfl, e.hh.seq o, fun l y => k l _ j A (g.trans e) y ((A2.of_map (f := V.int) (fun _ => rfl) xs.ns).cut _ _)⟩
theorem eo_revM (h : Ex B sl .hp te mi) : Eo B sl md (tComp 1 [] (iRev K (tCons te tNil)) (gName 0) tIf0 (tVar 0)) (mi.bind fun us => revM us) := eo_rev h
theorem i_revK (K : PySem.W.Frag) {X : Cx} (b : X.mg "reversed" = none) (f : PA X [a] d) (h : X.K = K := by rfl) (e : Gl X "reversed" := by rfl) (c : starEach [a] X.env = [(false, eval a X.env)] := by rfl) : PI X tg (.Call (.Name "reversed" q) [a] [] pos) (iRev K d) := by subst h; exact pi_rev e b f c
end
end Ts
namespace Ts
open PySem L2
section
variable {K : PySem.W.Frag} {B : Bs} {sl : List (Slot K)} {F H : Hp} {O : Own} {σ : St} {t u : TS} {al : Bool} {α β S A A1 A2 : Type} [Rp K α] [Rp K β] {b : β}
def SnA (B : Bs) (sl : List (Slot K)) (t : TS) {S : Type} (L : S → List (Slot K)) (P : S → Prop) : Prop :=
  ∀ (G : Hp) (D : Ends) (σ : St) (H : Hp), Sg B G sl σ H → (∀ s, P s → ∀ a c, Sg B G (L s) a c → D.nx a c) → t D σ H
end
end Ts
namespace L2
open PySem PySem.Spec PyProof.Rows
section
variable {X : Cx}
theorem strs_are : ∀ {ts : List Str} {a : List Value}, Vals (ts.map V.str) a → ∃ l : List (Str × Tok), a = strValues l ∧ l.map (·.1) = ts
  | [], [], _ => ⟨[], rfl, rfl⟩
  | x :: ts, _ :: a, h => by
    cases h with
    | cons r t =>
      obtain ⟨k, rfl⟩ := r
      obtain ⟨l, b, e2⟩ := strs_are t
      exact ⟨(x, k) :: l, by rw [b] <;> rfl, by grind⟩
def rJoin (K : PySem.W.Frag) : V → List V → Hp → VK → Prop := fun x c H Q => ∃ (a : Str) (p : Addr) (b : List Str), x = .str a ∧ c = [.ref p] ∧ SqL K H p (b.map V.str) ∧ JoinOk a b = true ∧ Q (.str (Txt.join a b)) H
theorem mt_join (K : PySem.W.Frag) (n : X.K = K := by rfl) : MtM X "str.join" (rJoin K) := by
  subst n
  intro pins s σ H x vs v us Q I o d h
  obtain ⟨b, p, f, rfl, rfl, w, a, q⟩ := h
  obtain ⟨t, rfl⟩ := o
  obtain ⟨u, rfl, j⟩ := d.one
  cases j
  obtain ⟨its, r, g, hz⟩ := I.list w
  obtain ⟨l, e, m⟩ := strs_are r
  have c := g.isList
  rw [e] at c
  exact SC.join c m a fun i k => ⟨.str (Txt.join b f), H, I.tok k, ⟨i, rfl⟩, q⟩
theorem join_ok {a : Str} (h : ∀ y ∈ ts, y.length ≤ n) (b : ts.length * n + ts.length * a.length ≤ 16777216) : JoinOk a ts = true := by
  unfold JoinOk
  rw [StrLaws.joinFits h b]
  rfl
end
end L2
namespace Ts
open PySem L2
open PySem.SeqAt (EqAt RcAt RcNeAt)
noncomputable def joinM (a : Str) (ts : List Str) : Option Str := if JoinOk a ts = true then some (Txt.join a ts) else none
section
variable {K : PySem.W.Frag} {B : Bs} {sl : List (Slot K)} {md : Md} {te t1 t2 : TE} {α β γ δ : Type} [Rp K α] [Rp K β] [Rp K γ] [Rp K δ]
theorem ex_join (a : Str) (h : Ex B sl .hp te m) : Ex B sl md (tBM K "str" (rJoin K) (tC (.str a)) (tCons te tNil)) (m.bind (joinM a)) := fun c b F O H σ Q s k => by
  cases m with
  | none => cases b
  | some e =>
    have b : joinM a e = some c := b
    unfold joinM at b
    split at b
    case isFalse => cases b
    rename_i d
    cases b
    refine ⟨rfl, h e rfl F O H σ _ s fun v n l g r => ?_⟩
    obtain ⟨p, vs, rfl, f, j⟩ := r
    have i := j.vals
    subst i
    exact ⟨a, p, e, rfl, rfl, SqL.of f, d, k _ n l g rfl⟩
theorem sn_tgE {L : α → List (Slot K)} (h : Ex B sl (mdb n) te m) (f : Tg B sl n g L) : Sn B sl (tAsg te g) L m := fun a i G D σ H s k => by
  obtain ⟨F, O, e, z⟩ := s
  exact h a i F O H σ _ z fun v c d b r => f v a c O d σ _ (z.grow b) r fun σ' j => k _ _ ⟨c, O, e.trans b.ff, j⟩
end
end Ts
namespace Ts
open PySem L2
section
variable {K : PySem.W.Frag} {mg : Str → Option Value} {B : Bs} {sl : List (Slot K)} {md : Md} {te t1 t2 : TE} {C : Addr} {α β γ S : Type} [Rp K α] [Rp K β] [Rp K γ] {u : TS} {al : Bool}
theorem sb_openR {n : Bool} {ws : List Int} {m : Option β} (i : Nat) (j : sl[i]? = some (.ow n ws)) (hh : sl.all (fun s => !isHs s) = true) (h : ∀ p, SB B (sl.set i (.nu (RL.mk (p := p) ws))) u al m) : SB B sl u al m := fun b r G D σ H s k => by
  obtain ⟨F, O, g, c, A⟩ := s
  obtain ⟨d, e, p, I, rfl, l, L, _, w⟩ := A.ow_at j
  obtain ⟨q, E, J⟩ := c.one
  have t : I = ws.map V.int := A2.eq_map L
  subst t
  have v := c.ndp
  have f : lo F (d ++ e) H p = some (.lst (ws.map V.int)) := by rw [lo_at q v]; exact J
  have z := w .un (some (.ref p)) fun _ _ _ y => .un y
  rw [set_self l] at z
  have M := z.mono (.refl _) lo_drop (.refl _)
  have hi : i < sl.length := (List.getElem?_eq_some_iff.mp j).1
  have o := M.put (i := i) (s := .un) (s' := .nu (RL.mk (p := p) ws)) (x := some (.ref p)) (fun _ _ _ y => .nu (show V.ref p = .ref p ∧ dif (lo F (d ++ e) H) B.H0 p = some (.lst (ws.map V.int)) from ⟨rfl, by rw [dif_at E]; exact f⟩) y) (by grind) rfl
  rw [List.set_set, set_self l] at o
  exact h p b r G D σ H ⟨F, d ++ e, g, c.drop, o⟩ k
end
end Ts
namespace PySem
open Sem (wp)
structure IK (prog : Program) (w : World) (α : Type) [DecidableEq α] where
  is : Heap → α → Value → Prop
  hash : α → Int
  draws : α → Nat
  inj : ∀ {h : Heap} {v : Value} {x y : α}, is h x v → is h y v → x = y
  keeps : ∀ {h h' : Heap} {k : α} {v : Value} {d : Addr} {o : Obj} {es ep}, is h k v → h.get? d = some o → o.data = .dict es ep → Heap.SameBut d h h' → is h' k v
  pyHash : ∀ {A : Around} {E : Value → Shared → Prop} {s : Shared} {k : α} {v : Value} {Q : Int → Shared → Prop}, A.units < cLine → is s.heap k v → Q (hash k) { s with toks := s.toks + draws k } → wpAny (model prog w) A (PySem.pyHash v) Q E s
  eqBool : ∀ {A : Around} {E : Value → Shared → Prop} {s : Shared} {x y : α} {u v : Value} {Q : Bool → Shared → Prop}, A.units < cLine → is s.heap x u → is s.heap y v → Q (decide (x = y)) s → wpAny (model prog w) A (PySem.eqBool u v) Q E s
  quiet : ∀ {A : Around} {E : Value → Shared → Prop} {s : Shared} {k : α} {v : Value} {Q : Bool → Shared → Prop}, is s.heap k v → Q true s → wpAny (model prog w) A (eqIsQuiet 7 v) Q E s
end PySem
namespace L2
open PySem PySem.Spec PyProof.Rows
structure AK (α : Type) [DecidableEq α] where
  at_ : Hp → α → V → Prop
  ik : ∀ (P : Program) (w : World), IK P w α
  ok : ∀ {P : Program} {w : World} {H : Hp} {h : Heap} {x : α} {v : V} {u : Value}, HOk P w H h → at_ H x v → RelV v u → (ik P w).is h x u
  mono : ∀ {H H' : Hp} {x : α} {v : V}, at_ H x v → (∀ b xs, H b = some (.tup xs) → H' b = some (.tup xs)) → at_ H' x v
section
variable {α β : Type} [DecidableEq α] [DecidableEq β]
abbrev NKV (α β : Type) := List ((α × β) × Addr × Int)
variable {X : Cx} {pins : List (Addr × Obj)} {σ : St} {H : Hp} {s : Shared} {a1 : AK α} {a2 : AK β} {d : Addr} {kvs : NKV α β}
end
end L2
namespace Ts
open PySem L2
section
variable {κ : Type} [DecidableEq κ]
def dd : List κ → List κ → List κ
  | acc, [] => acc
  | acc, k :: r => dd (if k ∈ acc then acc else acc ++ [k]) r
end
end Ts
namespace Ts
open PySem L2
structure Rws (α : Type) where
  xss : List (List α)
abbrev Rr := List (Addr × List V)
def rrO (p : Addr) (a : Rr) : Own := (p, .lst (a.map fun r => V.ref r.1)) :: a.map fun r => (r.1, HO.lst r.2)
def RrOk (K : PySem.W.Frag) {α : Type} [Rp K α] (R : Hp) (b : Rr) (xss : List (List α)) : Prop := A2 (fun (r : Addr × List V) (a : List α) => A2 (rp K R) r.2 a) b xss
section
variable {K : PySem.W.Frag} {α : Type} [Rp K α]
theorem rr_refs : ∀ {a : Rr} {xss : List (List α)}, RrOk K R a xss → (∀ r ∈ a, R r.1 = some (.lst r.2)) → A2 (rp K R) (a.map fun r => V.ref r.1) xss
  | [], [], _, _ => trivial
  | r :: a, row :: xss, h, m => ⟨⟨r.1, r.2, rfl, m r List.mem_cons_self, h.1⟩, rr_refs h.2 fun q b => m q (List.mem_cons_of_mem _ b)⟩
  | [], _ :: _, h, _ => h.elim
  | _ :: _, [], h, _ => h.elim
theorem RrOk.mono {R b : Hp} (s : Same R b) {a : Rr} {xss : List (List α)} (h : RrOk K R a xss) : RrOk K b a xss := A2.imp (fun _ _ z => z.imp fun _ _ => Rp.mono s) h
theorem rr_in (h : r ∈ a) : (r.1, HO.lst r.2) ∈ rrO p a := List.mem_cons_of_mem _ (List.mem_map.mpr ⟨r, h, rfl⟩)
instance : Ob K (Rws α) where
  β := List (List α)
  rpβ := inferInstance
  ro R v x Oc := ∃ p rs, v = .ref p ∧ Oc = rrO p rs ∧ RrOk K R rs x.xss
  mono s := fun ⟨p, rs, h1, h2, h3⟩ => ⟨p, rs, h1, h2, h3.mono s⟩
  val x := x.xss
  frz := fun ⟨p, rs, h1, h2, h3⟩ m => by
    subst h2
    exact ⟨p, _, h1, m _ List.mem_cons_self, rr_refs h3 fun r hr => m (r.1, .lst r.2) (rr_in hr)⟩
instance : Rp K (Rws α) := ⟨fun F v x => ∃ (p : Addr) (rs : Rr), v = .ref p ∧ (∀ y ∈ rrO p rs, F y.1 = some y.2) ∧ (List.map (fun y : Addr × HO => y.1) (rrO p rs)).Nodup ∧ RrOk K F rs x.xss, fun s ⟨p, rs, h1, h2, h3, h4⟩ => ⟨p, rs, h1, fun y hy => s _ _ (h2 y hy), h3, h4.mono s⟩⟩
theorem rr_map (p : Addr) (a : Rr) : (rrO p a).map (·.1) = p :: a.map (·.1) := by
  unfold rrO
  rw [List.map_cons, List.map_map]
  rfl
end
section
variable {K : PySem.W.Frag} {B : Bs} {sl sl2 : List (Slot K)} {F H G : Hp} {O : Own} {σ : St} {md : Md} {te t2 t3 : TE} {t u : TS} {al : Bool}
theorem At.setC {β : Type} [Ob K β] {a : β} (z : At B sl F O H σ) (hs : sl[i]? = some (.ob n a)) (hh : sl.all (fun s => !isHs s) = true) :
    ∃ Oc v, σ[i]? = some (some v) ∧ Ob.ro K (reg B F H (mdb n)) v a Oc ∧ (∀ x ∈ Oc, H x.1 = some x.2 ∧ F x.1 = none ∧ B.H0 x.1 = none) ∧ (Oc.map (·.1)).Nodup ∧ (∀ x ∈ Oc, x ∈ O) ∧
      ∀ (N : β) (j : Own) (H' : Hp), Ob.ro K (reg B F H (mdb n)) v N j → (j.map (·.1)).Nodup → (∀ b u, H b = some u → (∀ x ∈ Oc, x.1 ≠ b) → H' b = some u) → (∀ x ∈ j, H' x.1 = some x.2 ∧ ((∃ y ∈ Oc, y.1 = x.1) ∨ H x.1 = none)) → ∃ O', At B (sl.set i (.ob n N)) F O' H' σ := by
  obtain ⟨k, z0⟩ := z
  obtain ⟨C, Oc, A, v, rfl, h1, h2, h3⟩ := z0.ob_at hs
  have f : ∀ x ∈ Oc, x ∈ C ++ (Oc ++ A) := fun x c => List.mem_append_right _ (List.mem_append_left _ c)
  have nd := k.nd
  rw [List.map_append, List.map_append, List.nodup_append] at nd
  obtain ⟨R, L, I⟩ := nd
  rw [List.nodup_append] at L
  obtain ⟨S, T, U⟩ := L
  refine ⟨Oc, v, h1, h2, fun x c => ⟨(k.fo x (f x c)).2.2, (k.fo x (f x c)).1, (k.fo x (f x c)).2.1⟩, S, f, fun N j H' r nd' h g => ⟨C ++ (j ++ A), ?_, ?_⟩⟩
  · have E : ∀ x ∈ j, F x.1 = none ∧ B.H0 x.1 = none := fun x c => by
      rcases (g x c).2 with ⟨y, d, e⟩ | e
      · rw [← e]; exact ⟨(k.fo y (f y d)).1, (k.fo y (f y d)).2.1⟩
      · exact ⟨k.fh.free e, k.h0.free e⟩
    have p : ∀ x ∈ C, ∀ y ∈ Oc, y.1 ≠ x.1 := fun x c y d e => I x.1 (List.mem_map.mpr ⟨x, c, rfl⟩) y.1 (List.mem_append_left _ (List.mem_map.mpr ⟨y, d, rfl⟩)) e.symm
    have m : ∀ x ∈ A, ∀ y ∈ Oc, y.1 ≠ x.1 := fun x c y d e => U y.1 (List.mem_map.mpr ⟨y, d, rfl⟩) x.1 (List.mem_map.mpr ⟨x, c, rfl⟩) e
    have J : ∀ x ∈ C, x ∈ C ++ (Oc ++ A) := fun x c => List.mem_append_left _ c
    have M : ∀ x ∈ A, x ∈ C ++ (Oc ++ A) := fun x c => List.mem_append_right _ (List.mem_append_right _ c)
    refine ⟨fun b o e => ?_, fun b o e => ?_, k.fa, fun x c => ?_, ?_⟩
    · exact h b o (k.fh b o e) fun x c q => by rw [← q, (k.fo x (f x c)).1] at e; cases e
    · exact h b o (k.h0 b o e) fun x c q => by rw [← q, (k.fo x (f x c)).2.1] at e; cases e
    · rcases List.mem_append.mp c with c | c
      · obtain ⟨Y, Z, X⟩ := k.fo x (J x c)
        exact ⟨Y, Z, h _ _ X (p x c)⟩
      · rcases List.mem_append.mp c with c | c
        · exact ⟨(E x c).1, (E x c).2, (g x c).1⟩
        · obtain ⟨Y, Z, X⟩ := k.fo x (M x c)
          exact ⟨Y, Z, h _ _ X (m x c)⟩
    · have fresh : ∀ x ∈ j, ∀ y, y ∈ C ∨ y ∈ A → y.1 ≠ x.1 := fun x c y d e => by
        rcases (g x c).2 with ⟨w, hw, q⟩ | q
        · rcases d with d | d
          · exact p y d w hw (q.trans e.symm)
          · exact m y d w hw (q.trans e.symm)
        · have : H y.1 = some y.2 := d.elim (fun d => (k.fo y (J y d)).2.2) fun d => (k.fo y (M y d)).2.2
          rw [e, q] at this
          cases this
      rw [List.map_append, List.map_append, List.nodup_append, List.nodup_append]
      refine ⟨R, ⟨nd', T, fun a Q b l e => ?_⟩, fun a Q b l e => ?_⟩
      · obtain ⟨x, c, rfl⟩ := List.mem_map.mp Q
        obtain ⟨y, d, rfl⟩ := List.mem_map.mp l
        exact fresh x c y (.inr d) e.symm
      · obtain ⟨y, d, rfl⟩ := List.mem_map.mp Q
        rcases List.mem_append.mp l with l | l
        · obtain ⟨x, c, rfl⟩ := List.mem_map.mp l
          exact fresh x c y (.inl d) e
        · exact I _ Q _ (List.mem_append_right _ l) e
  · have zz := h3 (.ob n N) (some v) j fun _ _ _ y => .ob r y
    rw [set_self h1] at zz
    refine zz.mut (fun b w e => ?_) (all_set rfl hh)
    unfold lo at e ⊢
    split at e
    · cases e
    · rename_i l
      simp only [Bool.or_eq_true, List.any_eq_true, not_or, not_exists, not_and, beq_iff_eq] at l
      have D : ∀ x ∈ Oc, x.1 ≠ b := fun x c => l.2 x (f x c)
      rw [if_neg]
      · exact h b w e D
      · simp only [Bool.or_eq_true, List.any_eq_true, not_or, not_exists, not_and, beq_iff_eq]
        refine ⟨l.1, fun x c q => ?_⟩
        rcases List.mem_append.mp c with c | c
        · exact l.2 x (List.mem_append_left _ c) q
        · rcases List.mem_append.mp c with c | c
          · rcases (g x c).2 with ⟨y, d, P⟩ | P
            · exact D y d (P.trans q)
            · rw [q, e] at P; cases P
          · exact l.2 x (List.mem_append_right _ (List.mem_append_right _ c)) q
section
variable {α : Type} [Rp K α]
theorem sn_obNil (i : Nat) (e : sl[i]? = some s) (l : isOw s = false) : Sn B sl (tAsg (tLst tNil) (gName i)) (fun x : Rws α => sl.set i (.ob true x)) (some (Rws.mk [])) := fun a f G D σ H s k => by
  cases f
  obtain ⟨F, O, g, h, d⟩ := s
  refine ⟨Nat.zero_le _, fun p b => k _ _ ?_⟩
  obtain ⟨O1, O2, rfl, j⟩ := d.own (s' := .ob true (Rws.mk ([] : List (List α)))) (fun _ _ _ z => SlotsOk.ob (Oc := rrO p []) (show ∃ (q : Addr) (c : Rr), V.ref p = .ref q ∧ rrO p [] = rrO q c ∧ RrOk K _ c ([] : List (List α)) from ⟨p, [], rfl, rfl, trivial⟩) z) e l
  exact ⟨F, _, g, h.add b, j.mono (.refl _) (lo_add b) (same_new b _)⟩
noncomputable def rwsAdd (x : Rws α) (ys : List α) : Option (Rws α) := if x.xss.length < cap then some (Rws.mk (x.xss ++ [ys])) else none
theorem rr_snoc {R : Hp} {a : Rr} {xss : List (List α)} {q : Addr} {vs : List V} {ys : List α} (h : RrOk K R a xss) (r : A2 (rp K R) vs ys) : RrOk K R (a ++ [(q, vs)]) (xss ++ [ys]) := A2.snoc h r
theorem sn_obApp {n : Bool} {x : Rws α} {m : Option (List α)} (i : Nat) (U : sl[i]? = some (.ob n x)) (T : sl.all (fun s => !isHs s) = true) (h : Eo B sl (mdb n) te m) :
    Sn B sl (tDrop (tBM K "list" rAppend (tVar i) (tCons te tNil))) (fun a => sl.set i (.ob n a)) (m.bind fun ys => rwsAdd x ys) := fun c j G D σ H s k => by
  cases m with
  | none => cases j
  | some ys =>
    have j : rwsAdd x ys = some c := j
    unfold rwsAdd at j
    split at j
    case isFalse => cases j
    rename_i hl
    cases j
    obtain ⟨F, O, g, z⟩ := s
    obtain ⟨Oc, v, h1, ⟨p, rs, rfl, rfl, h2⟩, c1, _⟩ := z.setC U T
    refine ⟨_, h1, .inl ⟨rfl, _, SqL.of (c1 _ List.mem_cons_self).1⟩, h ys rfl F O H σ _ z fun q J F' H' Z o r => ?_⟩
    have z1 := z.grow Z
    obtain ⟨Oc2, v2, R, ⟨p2, f, rfl, rfl, E⟩, P, I, _, up⟩ := z1.setC U T
    cases h1.symm.trans R
    have Q := (P _ List.mem_cons_self).1
    have X : p ≠ q := fun e => by rw [← e] at o; rw [o] at Q; cases Q
    have S : f.length = x.xss.length := E.len
    refine ⟨p, _, .ref q, rfl, rfl, by rw [upd_ne X]; exact Q, cap_lt (by rw [List.length_map, S]; exact hl), ?_⟩
    have L : ((rrO p (f ++ [(q, J)])).map (·.1)).Nodup := by
      rw [rr_map] at I ⊢
      rw [List.map_append, ← List.cons_append, List.nodup_append]
      refine ⟨I, by simp, fun a Y b hb e => ?_⟩
      rw [← rr_map] at Y
      obtain ⟨y, A, rfl⟩ := List.mem_map.mp Y
      have := (P y A).1
      rw [e, List.mem_singleton.mp hb, o] at this
      cases this
    have l : ∀ y ∈ rrO p (f ++ [(q, J)]), upd (upd H' q (.lst J)) p (.lst (f.map (fun r => V.ref r.1) ++ [.ref q])) y.1 = some y.2 ∧ ((∃ w ∈ rrO p f, w.1 = y.1) ∨ H' y.1 = none) := fun y A => by
      rcases List.mem_cons.mp A with e | A
      · subst e
        exact ⟨by rw [upd_same, List.map_append]; rfl, .inl ⟨_, List.mem_cons_self, rfl⟩⟩
      · obtain ⟨C, d, rfl⟩ := List.mem_map.mp A
        rcases List.mem_append.mp d with d | d
        · have j := P _ (rr_in (p := p) d)
          refine ⟨?_, .inl ⟨_, rr_in d, rfl⟩⟩
          have n1 : C.1 ≠ p := fun e => by
            rw [rr_map, List.nodup_cons] at I
            exact I.1 (e ▸ List.mem_map.mpr ⟨C, d, rfl⟩)
          have n2 : C.1 ≠ q := fun e => by have := j.1; rw [show C.1 = q from e, o] at this; cases this
          show upd _ _ _ C.1 = _
          rw [upd_ne n1, upd_ne n2]
          exact j.1
        · obtain rfl := List.mem_singleton.mp d
          exact ⟨by show upd _ _ _ q = _; rw [upd_ne X.symm, upd_same], .inr o⟩
    obtain ⟨O', z'⟩ := up (Rws.mk (x.xss ++ [ys])) (rrO p (f ++ [(q, J)])) _ ⟨p, _, rfl, rfl, rr_snoc E r⟩ L (fun b u e N => by
      rw [upd_ne fun M => N _ List.mem_cons_self M.symm, upd_ne fun M => by rw [M, o] at e; cases e]
      exact e) l
    exact k _ _ ⟨F', O', g.trans Z.ff, z'⟩
end
end
end Ts
namespace Ts
open PySem L2
structure Ob0 where
  u : Unit
instance : Ob K Ob0 where
  β := Unit
  rpβ := inferInstance
  ro _ v _ O := v = .non ∧ O = []
  mono _ h := h
  val _ := ()
  frz h _ := h.1
class NoL (K : PySem.W.Frag) (α : Type) [Rp K α] : Prop where
  keep : ∀ {F F' : Hp} {v : V} {a : α}, (∀ b t, F b = some (.tup t) → F' b = some (.tup t)) → rp K F v a → rp K F' v a
section
variable {K : PySem.W.Frag}
instance : NoL K Int := ⟨fun _ h => h⟩
variable {B : Bs} {sl sl2 : List (Slot K)} {F F' H H1 H2 G : Hp} {O : Own} {σ : St} {md : Md} {te t1 t2 t3 : TE} {t u : TS} {al : Bool}
theorem At.cutX (X : Addr → Bool) (z : At B sl F O H1 σ) (d : Same H1 H2) (l : sl.all (fun s => !isNuHs s) = true) : ∃ a, Same F a ∧ At B sl a O H2 σ ∧ (∀ b o, dif H2 H1 b = some o → X b = false → a b = some o) ∧ ∀ b o, dif H2 H1 b = some o → X b = true → a b = none ∧ B.H0 b = none ∧ ∀ x ∈ O, x.1 ≠ b := by
  have g : ∀ b o, dif H2 H1 b = some o → H1 b = none ∧ H2 b = some o := fun b o e => by
    unfold dif at e
    grind
  let a : Hp := fun b => match F b with
    | some o => some o
    | none => if X b = true then none else dif H2 H1 b
  have f : ∀ b o, F b = some o → a b = some o := fun b o e => by show (match F b with | some o => some o | none => _) = _; rw [e]
  have c : ∀ b, F b = none → a b = if X b = true then none else dif H2 H1 b := fun b e => by show (match F b with | some o => some o | none => _) = _; rw [e]
  refine ⟨a, f, ⟨⟨fun b o e => ?_, z.1.h0.trans d, fun b o e => ?_, fun x m => ?_, z.1.nd⟩, (z.2.mono f (.refl _) d).calm l⟩, fun b o e x => ?_, fun b o e x => ?_⟩
  · cases q : F b with
    | some u => rw [f b u q] at e; cases e; exact d _ _ (z.1.fh _ _ q)
    | none =>
      grind
  · cases q : F b with
    | some u => rw [f b u q] at e; cases e; exact z.1.fa _ _ q
    | none =>
      rw [c b q] at e
      split at e
      · cases e
      · exact .inr (z.1.h0.free (g b o e).1)
  · obtain ⟨n, k, i⟩ := z.1.fo x m
    refine ⟨?_, k, d _ _ i⟩
    rw [c _ n]
    split
    · rfl
    · unfold dif
      rw [i]
  · rw [c b (z.1.fh.free (g b o e).1), if_neg (by rw [x]; decide)]
    exact e
  · have h := (g b o e).1
    refine ⟨by rw [c b (z.1.fh.free h), if_pos x], z.1.h0.free h, fun y j q => ?_⟩
    have := (z.1.fo y j).2.2
    rw [q, h] at this
    cases this
theorem At.addC {β : Type} [Ob K β] {a : β} {Oc : Own} (z : At B sl F O H σ) (A : sl.all (fun s => !isNuHs s) = true) (o : sl[i]? = some s) (w : isOw s = false) (C : (Oc.map (·.1)).Nodup) (c : ∀ x ∈ Oc, F x.1 = none ∧ B.H0 x.1 = none ∧ H x.1 = some x.2 ∧ ∀ y ∈ O, y.1 ≠ x.1) (r : Ob.ro K (reg B F H (mdb n)) v a Oc) : ∃ I, At B (sl.set i (.ob n a)) F I H (σ.set i (some v)) := by
  obtain ⟨k, D⟩ := z
  have q := D.put (s' := .ob true (Ob0.mk ())) (x := some .non) (fun _ _ _ y => SlotsOk.ob (Oc := []) (show V.non = .non ∧ ([] : Own) = [] from ⟨rfl, rfl⟩) y) o w
  obtain ⟨l, Oc0, m, v0, e, _, ⟨_, rfl⟩, E⟩ := q.ob_at (slot_self o)
  have e : O = l ++ m := e
  subst e
  have p := E (.ob n a) (some v) Oc fun _ _ _ y => .ob r y
  rw [List.set_set, List.set_set] at p
  refine ⟨l ++ (Oc ++ m), ⟨k.fh, k.h0, k.fa, fun x d => ?_, ?_⟩, p.calm (all_set rfl A)⟩
  · rcases List.mem_append.mp d with d | d
    · exact k.fo x (List.mem_append_left _ d)
    · rcases List.mem_append.mp d with d | d
      · exact ⟨(c x d).1, (c x d).2.1, (c x d).2.2.1⟩
      · exact k.fo x (List.mem_append_right _ d)
  · have g := k.nd
    rw [List.map_append, List.nodup_append] at g
    rw [List.map_append, List.map_append, List.nodup_append, List.nodup_append]
    refine ⟨g.1, ⟨C, g.2.1, fun a h b f e => ?_⟩, fun a h b f e => ?_⟩
    · obtain ⟨x, d, rfl⟩ := List.mem_map.mp h
      obtain ⟨y, j, rfl⟩ := List.mem_map.mp f
      exact (c x d).2.2.2 y (List.mem_append_right _ j) e.symm
    · obtain ⟨y, j, rfl⟩ := List.mem_map.mp h
      rcases List.mem_append.mp f with f | f
      · obtain ⟨x, d, rfl⟩ := List.mem_map.mp f
        exact (c x d).2.2.2 y (List.mem_append_left _ j) e
      · exact g.2.2 _ h _ f e
section
variable {α : Type} [Rp K α]
theorem sn_obOf [NoL K α] {s : Slot K} {m : Option (Rws α)} (i : Nat) (hs : sl[i]? = some s) (ho : isOw s = false) (I : sl.all (fun s => !isNuHs s) = true) (h : En B sl te m) : Sn B sl (tAsg te (gName i)) (fun a => sl.set i (.ob true a)) m := fun a ha G D σ H s k => by
  obtain ⟨F, O, g, z⟩ := s
  refine h a ha F O H σ _ z fun v F' H1 H2 o X r => k _ _ ?_
  obtain ⟨p, d, rfl, c, U, T⟩ := r
  obtain ⟨E, R, z2, L, Y⟩ := (z.grow o).cutX (fun b => decide (b ∈ (rrO p d).map (·.1))) X I
  have C : ∀ b t, dif H2 H1 b = some (.tup t) → b ∉ (rrO p d).map (·.1) := fun b t e N => by
    obtain ⟨y, l, rfl⟩ := List.mem_map.mp N
    rw [c y l] at e
    rcases List.mem_cons.mp l with q | l
    · rw [q] at e; cases e
    · obtain ⟨w, _, q⟩ := List.mem_map.mp l
      rw [← q] at e; cases e
  have S : RrOk K (dif E B.H0) d a.xss := A2.imp (fun _ _ z => z.imp fun _ _ => NoL.keep fun b t e => by
    have P : B.H0 b = none := o.ok.h0.free (by
      unfold dif at e
      cases q : H1 b with
      | none => rfl
      | some u => rw [q] at e; cases e)
    rw [dif_at P]
    exact L b _ e (decide_eq_false (C b t e))) T
  obtain ⟨Q, z'⟩ := z2.addC (n := true) (a := a) (v := .ref p) (Oc := rrO p d) I hs ho U (fun x A => by
    obtain ⟨a1, Z, M⟩ := Y x.1 x.2 (c x A) (decide_eq_true (List.mem_map.mpr ⟨x, A, rfl⟩))
    exact ⟨a1, Z, dif_le _ _ (c x A), M⟩) (show ∃ (J : Addr) (j : Rr), V.ref p = .ref J ∧ rrO p d = rrO J j ∧ RrOk K (dif E B.H0) j a.xss from ⟨p, d, rfl, rfl, S⟩)
  exact ⟨E, Q, g.trans (o.ff.trans R), z'⟩
end
end
end Ts
namespace L2
open PySem PySem.Spec PyProof.Rows
def insL {α : Type} (k : Nat) (y : α) (xs : List α) : List α := xs.take k ++ y :: xs.drop k
def rInsert : V → List V → Hp → VK → Prop := fun x vs H Q => ∃ l xs i y, x = .ref l ∧ vs = [.int i, y] ∧ H l = some (.lst xs) ∧ 0 ≤ i ∧ i ≤ (xs.length : Int) ∧ xs.length < sizeLine ∧ Q .non (upd H l (.lst (insL i.toNat y xs)))
theorem insL_len {α : Type} {y : α} {xs : List α} (h : k ≤ xs.length) : (insL k y xs).length = xs.length + 1 := by
  unfold insL
  grind
theorem mt_insert : MtM X "list.insert" rInsert := by
  intro pins s σ H x vs v us Q I rx rv h
  obtain ⟨l, xs, i, y, rfl, rfl, hH, h0, h1, hz, q⟩ := h
  cases rx
  obtain ⟨u0, u, rfl, ri, ru⟩ := rv.two
  obtain ⟨t, rfl⟩ := ri
  obtain ⟨z, its, n, r, hl, e⟩ := I.lstM hH
  have hfit : ¬ (!Builtin.List.listFitsIndex i) = true := by
    have hc : sizeLine < 2 ^ 62 := by decide
    have : Builtin.List.listFitsIndex i = true := by
      unfold Builtin.List.listFitsIndex
      simp
      omega
    rw [this]
    decide
  refine call_meets F.slot_list_insert ⟨_, e, rfl⟩ F.entry_list_insert (F.args_list_insert_3 _ _ _) (AutoListH.list_insert_list_int_val_1 l its.toArray n i t u hfit (by rw [List.size_toArray]; omega)) ⟨e, ?_⟩
  refine ⟨.non, _, I.lset (its' := insL i.toNat u its) hH e ?_ ((r.take i.toNat).append (.cons ru (r.drop i.toNat))) ?_, rfl, q⟩
  · have ek : (if i < 0 then (i + ((its.toArray.size : Nat) : Int)).toNat else min i.toNat its.toArray.size) = i.toNat := by
      rw [if_neg (by omega), List.size_toArray]
      omega
    show ((its.toArray.extract 0 (if i < 0 then (i + ((its.toArray.size : Nat) : Int)).toNat else min i.toNat its.toArray.size)).push u ++ its.toArray.extract (if i < 0 then (i + ((its.toArray.size : Nat) : Int)).toNat else min i.toNat its.toArray.size)) = _
    rw [ek]
    unfold insL
    simp
    exact List.take_of_length_le (by rw [List.length_drop]; exact Nat.le_refl _)
  · show (insL i.toNat y xs).length ≤ sizeLine
    rw [insL_len (by omega)]
    omega
end L2
namespace Ts
open PySem L2
section
variable {K : PySem.W.Frag} {B : Bs} {sl : List (Slot K)} {F H G : Hp} {O : Own} {σ : St} {md : Md} {te ti t t2 t3 : TE} {u : TS} {al : Bool} {α β : Type} [Rp K α] [Rp K β]
theorem reg_leQ (k : Ok B a O H') : ∀ md : Md, Same (reg B a H' md) H'
  | .nw => dif_le.trans k.fh
  | .fz => k.fh
  | .hp => .refl _
end
end Ts
namespace L2
open PySem PySem.Spec PyProof.Rows
theorem ObjOk.is (x : ObjOk P w H h a o) : ∃ u, h.get? a = some u := by
  cases o with
  | lst xs => obtain ⟨_, _, _, _, e⟩ := x; exact ⟨_, e⟩
  | tup xs => obtain ⟨_, _, _, ob, e, _⟩ := x; exact ⟨_, e⟩
  | dK kvs => obtain ⟨_, _, _, _, o, _, _, e, _⟩ := x; exact ⟨_, e⟩
  | dT kvs => obtain ⟨_, _, _, _, o, _, _, e, _⟩ := x; exact ⟨_, e⟩
  | set S n => obtain ⟨o, _, _, _, e, _⟩ := x; exact ⟨_, e⟩
  | ins C dx fs => obtain ⟨_, _, _, e, _⟩ := x; exact ⟨_, e⟩
  | own y => exact x
  | xd fs => obtain ⟨_, ⟨_, _, _, e, _⟩, _⟩ := x; exact ⟨_, e⟩
  | rng lo hi => obtain ⟨_, _, _, e⟩ := x; exact ⟨_, e⟩
  | frz ob u => obtain ⟨e, _⟩ := x; exact ⟨_, e⟩
  | tbl ps => exact ⟨_, x⟩
  | met f y => exact ⟨_, x⟩
  | ext φ => exact x.2.1
theorem HOk.non (x : HOk P w H h) (e : h.get? a = none) : H a = none := by
  cases q : H a with
  | none => rfl
  | some o =>
    obtain ⟨u, z⟩ := (x a o q).is
    rw [e] at z; cases z
def Trc (h : Heap) (a T : Addr) (C : Value) : Prop := ∃ a0 oe vs oT ts, h.get? a = some oe ∧ (oe.cls = C ∧ vs[0]? = some a0) ∧ oe.data = .fields vs ∧ vs[1]? = some (.ref T) ∧ T ≠ a ∧ h.get? T = some oT ∧ oT.data = .fields ts ∧ ts[3]? = some .none
def CXX (P : Program) (w : World) : CXT := fun outer H s E e s' => ∃ a T C H', e = .ref a ∧ s'.os = s.os ∧ AllBare s'.gens ∧ Un (frs outer) [] H H' s.heap s'.heap ∧ HOk P w H' s'.heap ∧ s.heap.get? a = none ∧ s.heap.get? T = none ∧ H' a = none ∧ H' T = none ∧ Trc s'.heap a T C ∧ E C none H'
theorem CXX.mono (h : CXX P w outer H s E e s') (k : ∀ C H, E C none H → E' C none H) : CXX P w outer H s E' e s' := by
  obtain ⟨a, T, C, H', r, h1, h2, h3, h4, h5, h6, h7, h8, h9, q⟩ := h
  exact ⟨a, T, C, H', r, h1, h2, h3, h4, h5, h6, h7, h8, h9, k C H' q⟩
section
variable {X : Cx} {pins : List (Addr × Obj)} {σ : St} {H : Hp} {s : Shared} {h2 : Heap} {E : XK} {C : Value}
theorem Inv.new0 (I : Inv X pins σ H s) (hx : X.ex = []) (e : s.heap.get? a = none) : X.s₀.heap.get? a = none := by
  cases q : X.s₀.heap.get? a with
  | none => rfl
  | some o =>
    obtain ⟨u, z⟩ := I.base.there a o q (by rw [hx]; simp)
    rw [e] at z; cases z
theorem Inv.gone (I : Inv X pins σ H s) (hx : X.ex = []) {bad : List Addr} (hb : ∀ b ∈ bad, X.s₀.heap.get? b = none ∧ H b = none) (k : ∀ b o, s.heap.get? b = some o → b ∉ frs X.stack → b ∉ bad → h2.get? b = some o)
    (k2 : ∀ b o, s.heap.get? b = some o → b ∈ frs X.stack → ∃ sl, h2.get? b = some { o with slots := sl }) : Un X.fs [] X.H₀ H X.s₀.heap h2 ∧ HOk X.prog X.w H h2 := by
  have nx : ∀ b : Addr, b ∉ X.ex := fun b => by rw [hx]; simp
  have nb : ∀ b o, X.s₀.heap.get? b = some o → b ∉ bad := fun b o e z => by rw [(hb b z).1] at e; cases e
  have nf : ∀ b o, X.s₀.heap.get? b = some o → b ∉ X.fs → b ∉ frs X.stack := fun b o e n z => by
    rcases List.mem_cons.mp (I.stkSub b z) with q | q
    · have := Heap.lt_size e
      have l := I.ok.above
      rw [q] at this
      exact absurd (Nat.lt_of_lt_of_le this l) (Nat.lt_irrefl _)
    · exact n q
  have ex2 : ∀ b o, s.heap.get? b = some o → b ∉ bad → ∃ o', h2.get? b = some o' := fun b o e n => by
    by_cases z : b ∈ frs X.stack
    · obtain ⟨sl, q⟩ := k2 b o e z
      exact ⟨_, q⟩
    · exact ⟨o, k b o e z n⟩
  refine ⟨⟨fun b o q n hf _ => k b o (I.base.keep b o q n hf (nx b)) (nf b o q hf) (nb b o q), fun b o q n hf _ => ?_, fun b o q n _ => I.base.free b o q n (nx b), fun b o q _ => ?_, I.base.tups, I.base.frzs, I.base.tbls⟩, fun b u e => ?_⟩
  · obtain ⟨sl, q1⟩ := I.base.slot b o q n hf (nx b)
    have z : b ∈ frs X.stack := by
      rcases I.ok.stk with e | ⟨e, _⟩
      · rw [e]; exact hf
      · rw [e]
        unfold frs
        rw [List.filterMap_cons]
        split
        · exact hf
        · exact List.mem_cons_of_mem _ hf
    obtain ⟨sl2, q2⟩ := k2 b _ q1 z
    exact ⟨sl2, q2⟩
  · obtain ⟨o', q1⟩ := I.base.there b o q (nx b)
    exact ex2 b o' q1 (nb b o q)
  · have tr : ∀ c v, H c = some v → c ∉ frs X.stack ∧ c ∉ bad := fun c v ec => ⟨fun z => (by rw [I.stkFree c z] at ec; cases ec), fun z => (by rw [(hb c z).2] at ec; cases ec)⟩
    refine (I.hok b u e).stay (fun c v hc q => ?_) (fun _ q => q) fun _ _ q => q
    rcases hc with rfl | hc
    · exact k _ _ q (tr _ _ e).1 (tr _ _ e).2
    · exact k _ _ q (tr _ _ hc).1 (tr _ _ hc).2
theorem leave_on (I : Inv X pins σ H s) (hx : X.ex = []) (hst : X.stack = X.env :: X.outer) (hf : X.env.frame = some X.env.locals) (fa : X.s₀.heap.get? a = none) (fT : X.s₀.heap.get? T = none) (na : H a = none) (nT : H T = none)
    (tr : Trc s.heap a T C) (hE : E C none H) : wpAny M X.A (leaving X.env (.ref a)) (fun _ s2 => CXX X.prog X.w X.outer X.H₀ X.s₀ E (.ref a) s2) E2 s := by
  obtain ⟨a0, oe, vs, oT, ts, he, hc, hd, h1, hne, hT, hdT, h3⟩ := tr
  have hin : ∀ env ∈ (X.env :: X.outer), ∀ b, env.frame = some b → b ∈ a :: T :: frs X.stack := fun env z b e => by
    rw [hst]
    exact .tail _ (.tail _ (List.mem_filterMap.mpr ⟨env, z, e⟩))
  have stk := I.stack
  refine wpAny_leaves_onW (base := PySem.W.hideAll s.heap (a :: T :: frs X.stack)) (by rw [I.ok.frames, hst]) hf ⟨fun b o q => PySem.W.of_hideAll _ q, PySem.W.hideAll_none _ (.head _), PySem.W.funFrames_hide (by rw [← hst]; exact stk) hin, oe, vs, T, oT, ts, he, hc, hd, h1, PySem.W.hideAll_none _ (.tail _ (.head _)), hne, hT, hdT, h3⟩ fun g2 fl up => ?_
  obtain ⟨st, _, _, oe', vs', T', oT', ts', he', hc', hd', h1', hn', hne', hT', hdT', h3'⟩ := fl
  have fr : ∀ b ∈ frs X.stack, ∃ o, s.heap.get? b = some o ∧ ∀ vs, o.data ≠ .fields vs := fun b z => (stk.mem z).2
  have new : X.s₀.heap.get? T' = none ∧ H T' = none := by
    cases q : s.heap.get? T' with
    | none => exact ⟨I.new0 hx q, I.hok.non q⟩
    | some o =>
      have z : T' ∈ a :: T :: frs X.stack := Classical.byContradiction fun z => by rw [PySem.W.hideAll_get _ q z] at hn'; cases hn'
      rcases List.mem_cons.mp z with e | z
      · exact absurd e hne'
      rcases List.mem_cons.mp z with e | z
      · rw [e]; exact ⟨fT, nT⟩
      · obtain ⟨o2, e2, nd⟩ := fr T' z
        obtain ⟨sl, e3⟩ := up T' o2 e2 nd
        rw [e3] at hT'; cases hT'
        exact absurd hdT' (nd _)
  obtain ⟨un, ok⟩ := I.gone (h2 := g2) hx (bad := [a, T]) (fun b z => by
    rcases List.mem_cons.mp z with e | z
    · rw [e]; exact ⟨fa, na⟩
    · rw [List.mem_singleton.mp z]; exact ⟨fT, nT⟩) (fun b o q n1 n2 => st b o (PySem.W.hideAll_get _ q fun z => by
      rcases List.mem_cons.mp z with e | z
      · exact n2 (by rw [e]; exact .head _)
      rcases List.mem_cons.mp z with e | z
      · exact n2 (by rw [e]; exact .tail _ (.head _))
      · exact n1 z)) (fun b o q z => by
      obtain ⟨o2, e2, nd⟩ := fr b z
      rw [q] at e2; cases e2
      exact up b o q nd)
  exact ⟨a, T', C, H, rfl, I.os, I.bare, un, ok, fa, new.1, na, new.2, ⟨a0, oe', vs', oT', ts', he', hc', hd', h1', hne', hT', hdT', h3'⟩, hE⟩
theorem leave_made (I : Inv X pins σ H s) (hx : X.ex = []) (hst : X.stack = X.env :: X.outer) (hf : X.env.frame = some X.env.locals) (hm : Heap.MadeExcOf s.heap h1 e C us) (hE : E C none H) :
    wpAny M X.A (leaving X.env (.ref e)) (fun _ s2 => CXX X.prog X.w X.outer X.H₀ X.s₀ E (.ref e) s2) E2 { s with heap := h1 } := by
  have hin : ∀ env ∈ (X.env :: X.outer), ∀ b, env.frame = some b → b ∈ frs X.stack := fun env z b q => by
    rw [hst]
    exact List.mem_filterMap.mpr ⟨env, z, q⟩
  have stk := I.stack
  refine wpAny_leaves_madeW (base := PySem.W.hideAll s.heap (frs X.stack)) (h := s.heap) (by rw [I.ok.frames, hst]) hf (fun b o q => PySem.W.of_hideAll _ q) (PySem.W.funFrames_hide (by rw [← hst]; exact stk) hin) hm fun h2 t fl _ _ up => ?_
  have up : h1.UpToSlots h2 := up
  obtain ⟨st, _, _, oe', vs', T', oT', ts', he', hc', hd', h1', hn', hne', hT', hdT', h3'⟩ := fl
  have fr : ∀ b ∈ frs X.stack, ∃ o, s.heap.get? b = some o ∧ ∀ vs, o.data ≠ .fields vs := fun b z => (stk.mem z).2
  have new : X.s₀.heap.get? T' = none ∧ H T' = none := by
    cases q : s.heap.get? T' with
    | none => exact ⟨I.new0 hx q, I.hok.non q⟩
    | some o =>
      have z : T' ∈ frs X.stack := Classical.byContradiction fun z => by rw [PySem.W.hideAll_get _ q z] at hn'; cases hn'
      obtain ⟨o2, e2, nd⟩ := fr T' z
      obtain ⟨sl, e3⟩ := up T' o2 (hm.keeps _ _ e2) nd
      rw [e3] at hT'; cases hT'
      exact absurd hdT' (nd _)
  obtain ⟨un, ok⟩ := I.gone (h2 := h2) hx (bad := []) (fun b z => by cases z) (fun b o q n1 _ => st b o (PySem.W.hideAll_get _ q n1)) (fun b o q z => by
      obtain ⟨o2, e2, nd⟩ := fr b z
      rw [q] at e2; cases e2
      exact up b o (hm.keeps _ _ q) nd)
  exact ⟨e, T', C, H, rfl, I.os, I.bare, un, ok, I.new0 hx hm.new, new.1, I.hok.non hm.new, new.2, ⟨.ref t, oe', vs', oT', ts', he', hc', hd', h1', hne', hT', hdT', h3'⟩, hE⟩
end
end L2
namespace L2
open PySem PySem.Spec PyProof.Rows
def Lk (C : Value) (E : XK) (D : Ends) : Prop := ∀ v H, D.rt v H → E C none H
def noR (D : Ends) : Ends := { D with rt := fun _ _ => False }
def PSr (X : Cx) (C : Value) (E : XK) (st : Stmt) (t : TS) : Prop :=
  ∀ (pins : List (Addr × Obj)) (s : Shared) (σ : St) (H : Hp) (D : Ends), Lk C E D → Inv X pins σ H s → t D σ H → wpAny (model X.prog X.w) X.A (exec st X.env) (SP X pins (noR D)) X.xe s
def Thr (X : Cx) (C : Value) (E : XK) : Prop := ∀ (pins : List (Addr × Obj)) (σ : St) (H : Hp) (s : Shared) (h1 : Heap) (e : Addr) (us : List Value), Inv X pins σ H s → Heap.MadeExcOf s.heap h1 e C us → E C none H → X.xe (.ref e) { s with heap := h1 }
structure ExcK (K : PySem.W.Frag) (C : Addr) : Prop where
  ex : ∃ (newId Bn inN B nid initId : String) (bm bmN : List Value), PySem.W.excIn K C bm newId = true ∧ ExcBaseFacts Bn newId inN bmN ∧ bm.contains (.type Bn) = true ∧ ExcBaseFacts B nid initId bm
def tRaise (ta : TA) : TS := fun D σ H => ta σ H fun vs H1 => vs.length ≤ sizeLine ∧ D.rt .non H1
section
variable {X : Cx} {E : XK} {C : Addr}
theorem psr_raise {x : Str} {np cpos pos : Pos} {e₀ : Expr} {rest : List Expr} {ta : TA} (T : Thr X (.ref C) E) (hcm : X.calm = true) (O : ExcK X.K C) (hg : Gl X x) (hm : X.mg x = some (.ref C)) (ha : PA X (e₀ :: rest) ta) (hdb : (x == ("__debug__" : Str)) = false := by decide)
    (he : starEach (e₀ :: rest) X.env = (false, eval e₀ X.env) :: starEach rest X.env := by rfl) (hpl : (backTo cpos (starEach rest X.env)).any (·.1) = false := by rfl) :
    PSr X (.ref C) E (.Raise (some (.Call (.Name x np) (e₀ :: rest) [] cpos)) none pos) (tRaise ta) := by
  intro pins s σ H D L I h
  obtain ⟨newId, Bn, inN, B, nid, initId, bm, bmN, q, Fn, hBn, FB⟩ := O.ex
  have obj : ∀ h : Heap, X.K.In h → ∃ tl N nm qn bs hd sn sub ab col dd k0 k1 k2 k3 k5 mN, h.get? C = some (excClassObj nm qn C N bs tl hd sn sub ab col dd k0 k1 k2 k3 k5 newId) ∧ h.Ns N mN ∧ mN "__init__" = none ∧ OwnTail h bm tl := fun h XI => by
    unfold PySem.W.excIn at q
    cases hl : X.K.lookup C with
    | none => rw [hl] at q; cases q
    | some o =>
      rw [hl] at q
      obtain ⟨c, dd, dt, sl⟩ := o
      have ho := XI _ _ hl
      split at q
      · rename_i dd2 cd sl2 heq
        cases heq
        split at q
        · rename_i C' tl k0 k1 k2 k3 n k5 hmr hs
          simp only [Bool.and_eq_true, beq_iff_eq, Bool.not_eq_true'] at q
          obtain ⟨⟨⟨⟨⟨rfl, rfl⟩, hdel⟩, ht⟩, hok⟩, hni⟩ := q
          cases cd
          dsimp only at hmr hdel hok hni
          subst hmr hdel
          obtain rfl : sl = #[k0, k1, k2, k3, some (.builtin n), k5] := by cases sl; exact congrArg Array.mk hs
          exact ⟨tl, _, _, _, _, _, _, _, _, _, dd, k0, k1, k2, k3, k5, _, ho, .of_isNs (PySem.W.isNs_of_in XI hok), PySem.W.nsMap_none_of_in XI hok hni, PySem.W.tail_of_in XI ht⟩
        · cases q
      · cases q
  obtain ⟨tl, N, nm, qn, bs, hd, sn, sub, ab, col, dd, k0, k1, k2, k3, k5, mN, hC, hN, hni, OT⟩ := obj X.base I.ok.mod.kin
  refine wpAny_Raise_call_subU (C := C) (nm := nm) (q := qn) (N := N) (bs := bs) (bm := tl) (hdct := hd) (sn := sn) (sub := sub) (ab := ab) (col := col) (dd := dd) (k0 := k0) (k1 := k1) (k2 := k2) (k3 := k3) (k5 := k5)
    Fn hBn FB (mN := mN) (OT.hasType FB.hasBase) (I.ok.hd hcm) (by rw [he]; exact hpl) hni (ld_glob I hg hm ⟨rfl, ?_⟩ hdb)
  have h9 := ha cpos pins s σ H _ I h
  rw [he] at h9 ⊢
  refine Calls.evalArgs_plain (thn h9 fun us s1 ⟨vs, H1, I1, r, z1, z2⟩ => ⟨rfl, by rw [← r.length]; exact z1, I1.bk _ _ hC, hN.keeps I1.bk, OT.keeps I1.bk, fun h' e hm' => T pins σ H1 s1 h' e us I1 hm' (L _ _ z2)⟩)
end
section
variable {P : Program} {w : World} {K : PySem.W.Frag} {mg : Str → Option Value} {base : Heap}
theorem thr_cx : Thr (cxOf (CXX P w) P w K mg base N qual scope f cd A outer s H E) C E := fun pins σ H1 s1 h1 e us I hm hE =>
  leave_made (X := cxOf (CXX P w) P w K mg base N qual scope f cd A outer s H E) I rfl rfl rfl hm hE
theorem pass_cx : Passes (CXX P w) (cxOf (CXX P w) P w K mg base N qual scope f cd A outer s H E) E := fun pins σ H1 s1 e s2 I h => by
  obtain ⟨a, T, C, H', rfl, h1, h2, h3, h4, h5, h6, h7, h8, h9, q⟩ := h
  have I2 := I.call' h1 h3 h4 h2 (fun b z => absurd z (by simp))
  exact leave_on (X := cxOf (CXX P w) P w K mg base N qual scope f cd A outer s H E) I2 rfl rfl rfl (I.new0 rfl h5) (I.new0 rfl h6) h7 h8 h9 q
theorem own_cx : PassesOwn (model P w) (cxOf (CXX P w) P w K mg base N qual scope f cd A outer s H E).A (cxOf (CXX P w) P w K mg base N qual scope f cd A outer s H E).env (cxOf (CXX P w) P w K mg base N qual scope f cd A outer s H E).xe := fun a b h => PassesOwn.leaving a b h
end
end L2
namespace L2
open PySem PySem.Spec PyProof.Rows
def excO (a : Addr) (C : Value) : HO := .ext fun h => ∃ oe, h.get? a = some oe ∧ oe.cls = C
section
variable {X : Cx} {pins : List (Addr × Obj)} {σ : St} {H : Hp} {s : Shared} {h2 : Heap}
def Apart (X : Cx) (pins : List (Addr × Obj)) (H : Hp) (b : Addr) : Prop := (X.s₀.heap.get? b = none ∧ H b = none) ∧ b ≠ X.env.locals ∧ ∀ p ∈ X.pn ++ pins, p.1 ≠ b
theorem Inv.caught {t' : Nat} (I : Inv X pins σ H s) (hx : X.ex = []) (hcl : X.env.cells = []) (hfr : X.env.locals ∈ frs X.stack) {bad : List Addr} (hb : ∀ b ∈ bad, Apart X pins H b) (k : ∀ b o, s.heap.get? b = some o → b ∉ frs X.stack → b ∉ bad → h2.get? b = some o)
    (k2 : ∀ b o, s.heap.get? b = some o → b ∈ frs X.stack → ∃ sl, h2.get? b = some { o with slots := sl }) : Inv X pins σ H { s with heap := h2, toks := t' } := by
  obtain ⟨un, ok⟩ := I.gone hx (fun b z => (hb b z).1) k k2
  refine ⟨I.ok, I.os, I.bare, by rw [hx]; exact un, ?_, fun x c e => (by rw [hcl] at e; cases e), I.free, I.freeC, fun p hp => ?_, ok, I.len⟩
  · obtain ⟨m, ⟨o, es, ep, ho, r⟩, hl⟩ := I.loc
    obtain ⟨sl, q⟩ := k2 _ o ho hfr
    refine ⟨m, ⟨_, es, ep, q, r⟩, fun i x v e1 e2 e3 => ?_⟩
    obtain ⟨u, ru, lk⟩ := hl i x v e1 e2 e3
    refine ⟨u, ru, ?_⟩
    rcases lk with lk | ⟨_, c, e, _⟩
    · exact .inl lk
    · rw [hcl] at e; cases e
  · obtain ⟨e, n, ne, nf, d⟩ := I.pin p hp
    exact ⟨k _ _ e (fun z => (List.mem_cons.mp (I.stkSub _ z)).elim ne nf) (fun z => (hb _ z).2.2 p hp rfl), n, ne, nf, d⟩
theorem Inv.track (I : Inv X pins σ H s) (hx : X.ex = []) (hcl : X.env.cells = []) (ap : Apart X pins H a) (new : ObjOk X.prog X.w (upd H a o) s.heap a o) : Inv X pins σ (upd H a o) s := by
  obtain ⟨⟨f, n⟩, nl, np⟩ := ap
  have up : ∀ {b u}, H b = some u → upd H a o b = some u := fun {b u} e => by rw [upd_ne (ne_of_none e n)]; exact e
  refine ⟨I.ok, I.os, I.bare, ⟨I.base.keep, I.base.slot, fun b ob q nn hxx => ?_, I.base.there, fun b xs e => up (I.base.tups b xs e), fun b ob u e => up (I.base.frzs b ob u e), fun b ps e => ?_⟩, I.loc, I.cell, (by rw [upd_ne (Ne.symm nl)]; exact I.free), fun x c e => (by rw [hcl] at e; cases e), fun p hp => ?_, fun b u e => ?_, I.len⟩
  · rw [upd_ne (fun z => by rw [z, f] at q; cases q)]
    exact I.base.free b ob q nn hxx
  · obtain ⟨more, z⟩ := I.base.tbls b ps e
    exact ⟨more, up z⟩
  · obtain ⟨e, n', ne, nf, d⟩ := I.pin p hp
    exact ⟨e, by rw [upd_ne (np p hp)]; exact n', ne, nf, d⟩
  · by_cases hb : b = a
    · subst hb
      rw [upd_same] at e
      cases e
      exact new
    · rw [upd_ne hb] at e
      exact (I.hok b u e).stay (fun _ _ _ q => q) (fun c q => up q) fun c xs q => up q
theorem Inv.forget (I : Inv X pins σ H s) (hn : h2.Ns X.env.locals m') (sb : Heap.SameBut X.env.locals s.heap h2) (hcl : X.env.cells = []) : Inv X pins (List.replicate X.N.length none) H { s with heap := h2, toks := t' } := by
  have neL : ∀ b o, X.s₀.heap.get? b = some o → b ≠ X.env.locals := fun b o e => Nat.ne_of_lt (Nat.lt_of_lt_of_le (Heap.lt_size e) I.ok.above)
  refine ⟨I.ok, I.os, I.bare, ⟨fun b o q n hf hx => (sb.2 b (neL b o q)).trans (I.base.keep b o q n hf hx), fun b o q n hf hx => ?_, I.base.free, fun b o q hx => ?_, I.base.tups, I.base.frzs, I.base.tbls⟩, ⟨m', hn, fun i x v e1 e2 _ => ?_⟩, fun x c e => (by rw [hcl] at e; cases e), I.free, I.freeC, fun p hp => ?_, fun b u e => ?_, (by rw [List.length_replicate])⟩
  · obtain ⟨sl, e⟩ := I.base.slot b o q n hf hx
    exact ⟨sl, (sb.2 b (neL b o q)).trans e⟩
  · obtain ⟨o', e⟩ := I.base.there b o q hx
    exact ⟨o', (sb.2 b (neL b o q)).trans e⟩
  · rw [List.getElem?_replicate] at e2
    split at e2 <;> cases e2
  · obtain ⟨e, n, ne, nf, d⟩ := I.pin p hp
    exact ⟨(sb.2 _ ne).trans e, n, ne, nf, d⟩
  · have nl : ∀ c v, H c = some v → c ≠ X.env.locals := fun c v z q => by rw [q, I.free] at z; cases z
    refine (I.hok b u e).stay (fun c v hc q => ?_) (fun _ q => q) fun _ _ q => q
    rcases hc with rfl | hc
    · exact (sb.2 _ (nl _ _ e)).trans q
    · exact (sb.2 _ (nl _ _ hc)).trans q
end
abbrev Cx.held (X : Cx) (a : Addr) : Cx := { X with A := X.A.mark (some (.ref a)), calm := false, xe := fun _ _ => False }
abbrev Cx.tried (X : Cx) (pins : List (Addr × Obj)) (xe : Value → Shared → Prop) : Cx := { X with pn := X.pn ++ pins, xe := xe }
section
variable {X : Cx} {pins : List (Addr × Obj)} {σ : St} {H : Hp} {s : Shared}
theorem Cx.Ok.held (ok : X.Ok) (a : Addr) : (X.held a).Ok := ⟨ok.mod, ok.kind, ok.glob, ok.blt, ok.above, ok.inj, ok.has, ok.cab, (fun e => by cases e), ok.frames, ok.stk, ok.exf, ok.bs, ok.bsz, ok.noex, ok.exfs, ok.funs, ok.frf⟩
theorem Inv.held (I : Inv X pins σ H s) (a : Addr) : Inv (X.held a) pins σ H s := ⟨I.ok.held a, I.os, I.bare, I.base, I.loc, I.cell, I.free, I.freeC, I.pin, I.hok, I.len⟩
theorem Inv.unheld (I : Inv (X.held a) pins σ H s) (ok : X.Ok) : Inv X pins σ H s := ⟨ok, I.os, I.bare, I.base, I.loc, I.cell, I.free, I.freeC, I.pin, I.hok, I.len⟩
theorem Cx.Ok.tried (ok : X.Ok) (xe : Value → Shared → Prop) : (X.tried pins xe).Ok := ⟨ok.mod, ok.kind, ok.glob, ok.blt, ok.above, ok.inj, ok.has, ok.cab, ok.hd, ok.frames, ok.stk, ok.exf, ok.bs, ok.bsz, ok.noex, ok.exfs, ok.funs, ok.frf⟩
theorem Inv.tried (I : Inv X pins σ H s) (xe : Value → Shared → Prop) : Inv (X.tried pins xe) [] σ H s := ⟨I.ok.tried xe, I.os, I.bare, I.base, I.loc, I.cell, I.free, I.freeC, (fun p hp => I.pin p (by rw [List.append_nil] at hp; exact hp)), I.hok, I.len⟩
theorem Inv.untried (I : Inv (X.tried pins xe) pins2 σ H s) (ok : X.Ok) : Inv X pins σ H s := ⟨ok, I.os, I.bare, I.base, I.loc, I.cell, I.free, I.freeC, (fun p hp => I.pin p (List.mem_append_left _ hp)), I.hok, I.len⟩
end
end L2
namespace PySem.W
open PySem PySem.Spec PySem.Calls PyProof.Rows Builtin Builtin.ObjectAttr Builtin.Getset_descriptor
section
variable {prog : Program} {w : World} {A : Around} {E : Value → Shared → Prop} {s : Shared} {K : Frag} {x D : Addr}
theorem exc_get {R : Result → Shared → Prop} (X : K.In s.heap) (L0 : Looks (model prog w) s.heap (typeOf (.ref x)) (.ref D)) (hm : mroIn K D (.type "object") = some true) (h : R (.ok (.ret (.ref D))) s) :
    codeAny (model prog w) A (.call (.builtin "getset_descriptor.__get__") ⟨[.builtin "object.__class__", .ref x, tp], []⟩) R s := by
  obtain ⟨hp, ge, dw, tk, so⟩ := s
  have L1 := looks_mroIn (M := model prog w) X hm
  refine codeAny_call_builtin KF.slot_gs.plain KF.entry_gs (KF.slot_gs.check _ _ _ _ _ _ _ _ KF.type_class (KF.args_gs _ _ _) (by
    unfold Builtin.«getset_descriptor.__get__» descrGet
    rw [dga_obj]
    refine wpAny_bind (wpAny_pure ?_); unfold descrGetter descrCheckInstance descrNameAndClass isInstance
    simp only [KF.owner_class]
    (repeat lk); refine ⟨Code.quiet_builtin _ (by decide +kernel), codeAny_builtin KF.entry_class ?_⟩
    unfold Builtin.«object.__class__» shownTypeOf
    (repeat lk); exact h))
structure ExcT (K : Frag) (D : Addr) : Prop where
  ga : findIn K (.ref D) "__getattribute__" = some (some (.builtin "BaseException.__getattribute__"))
  no : findIn K (.ref D) "__getattr__" = some none
  cl : findIn K (.ref D) "__class__" = some (some (.builtin "object.__class__"))
  gt : specialIn K (.builtin "object.__class__") "__get__" = some (some (.builtin "getset_descriptor.__get__"))
  tk : takesIn K (.builtin "object.__class__") = some true
  ob : mroIn K D (.type "object") = some true
  be : mroIn K D (.type "BaseException") = some true
  ty : (clsIn K D).isSome = true
theorem exc_find (X : K.In s.heap) (T : ExcT K D) : Looks (model prog w) s.heap (find (.ref x) (.ref D) "__class__") (.bind (.builtin "getset_descriptor.__get__") (.builtin "object.__class__")) := by
  have L1 := looks_findIn (M := model prog w) X T.cl
  have L2 := looks_specialIn (M := model prog w) X T.gt
  have L3 := looks_takesIn (M := model prog w) X T.tk
  have L2' : Looks (model prog w) s.heap (getOf (some (.builtin "object.__class__"))) (some (.builtin "getset_descriptor.__get__")) := L2
  refine L1.andThen (L2'.andThen ?_)
  have L4 : Looks (model prog w) s.heap (dataDescriptor? (some (.builtin "object.__class__")) (some (.builtin "getset_descriptor.__get__"))) (some (.builtin "getset_descriptor.__get__", .builtin "object.__class__")) := by
    unfold dataDescriptor?
    exact L3.andThen .now
  exact L4.andThen (Looks.tag .now)
theorem exc_attr {Q : Option Value → Shared → Prop} (X : K.In s.heap) (T : ExcT K D) (L0 : ∀ t, Looks (model prog w) ({ s with toks := t } : Shared).heap (typeOf (.ref x)) (.ref D)) (h : Q (some (.ref D)) { s with toks := s.toks + 1 }) : wpAny (model prog w) A (getAttr? (.ref x) "__class__") Q E s := by
  obtain ⟨hp, ge, dw, tk, so⟩ := s
  have X : K.In hp := X
  have L0 : Looks (model prog w) hp (typeOf (.ref x)) (.ref D) := L0 tk
  have L1 := looks_findIn (M := model prog w) X T.ga
  have L2 := looks_findIn (M := model prog w) X T.no
  have L3 := looks_mroIn (M := model prog w) X T.be
  have L4 : Looks (model prog w) hp (find (.ref x) (.ref D) "__class__") (.bind (.builtin "getset_descriptor.__get__") (.builtin "object.__class__")) := exc_find (s := ⟨hp, ge, dw, tk, so⟩) X T
  unfold getAttr? getAttrBy? getAttrBy
  refine wpAny_bind (wpAny_mkText (wpAny_bind (wpAny_attempt (wpAny_holding (wpAny_bind (L0.at (wpAny_bind (L1.at ?_))))))))
  show wpAny _ _ (getAttrByItsOwn _ _ _ _ _ _) _ _ _
  unfold getAttrByItsOwn
  refine wpAny_bind ?_
  show wpAny _ _ (typeLookup (.ref D) "__getattr__") _ _ _
  refine L2.at ?_
  refine wpAny_bind (wpAny_attempt (wpAny_holding ?_))
  show wpAny _ _ (boundAndCalled _ _ _) _ _ _
  unfold boundAndCalled
  rw [F.excAttr_ValueError.ga.bind]
  refine wpAny_bind (wpAny_pure ?_)
  refine wpAny_call (codeAny_call_builtin F.excAttr_ValueError.ga.plain F.entry_bexc_ga ?_)
  have kd : builtinKind "BaseException.__getattribute__" = some .slot := by decide +kernel
  have sp : splitId "BaseException.__getattribute__" = some ("BaseException", "__getattribute__") := by decide +kernel
  simp only [checkBuiltinCall, kd, sp]
  have LI : Looks (model prog w) hp (isInstance (.ref x) (.type "BaseException")) true := L0.andThen L3
  have ao := F.args_bexc_ga (.ref x) (.str "__class__" tk)
  unfold argsOk at ao
  show wpAny (model prog w) A.in1 (isInstance (.ref x) (.type "BaseException") >>= _) _ _ _
  refine wpAny_bind (LI.at ?_)
  rw [if_neg (by decide)]
  refine wpAny_of_eq (a := ()) (by revert ao; cases Manifest.signature? "BaseException.__getattribute__" <;> exact fun z => z) ?_
  unfold «object.__getattribute__»
  show wpAny (model prog w) A.in1 (slotArgs "__getattribute__" 1 ⟨[.ref x, .str "__class__" tk], []⟩ >>= _) _ _ _
  refine wpAny_bind (wpAny_pure ?_)
  show wpAny (model prog w) A.in1 (attrName (.str "__class__" tk) >>= _) _ _ _
  refine wpAny_bind (wpAny_pure ?_)
  refine wpAny_bind (L0.at (wpAny_bind (L4.at ?_)))
  show wpAny (model prog w) A.in1 (bindTo _ _ _ _) _ _ _
  unfold bindTo
  dsimp only
  refine wpAny_bind (wpAny_holding (wpAny_call (exc_get (s := ⟨hp, ge, dw, tk + 1, so⟩) X L0 T.ob (wpAny_pure ?_))))
  exact wpAny_pure (wpAny_pure h)
theorem kitx_exc (T : ExcT K D) : KitX K (.ref x) (.ref D) (fun h => ∃ oe, h.get? x = some oe ∧ oe.cls = .ref D) where
  ty := fun M h _ ⟨oe, h1, h2⟩ => h2 ▸ (Looks.ld h1).andThen .now
  it := fun M h X _ => by
    obtain ⟨cd, hc⟩ := Option.isSome_iff_exists.mp T.ty
    unfold clsIn at hc
    split at hc
    · rename_i c' d' cd' sl' ho
      intro A' Q' E' s' k q; unfold isType loadHead; exact wpAny_bind (wpAny_loadPart (k _ _ (X _ _ ho)) (wpAny_pure q))
    · cases hc
  ne := fun h tp dd its n sl X htp => Bool.eq_false_iff.mpr fun q => by
    obtain rfl : D = tp := Value.ref.inj (beq_iff_eq.mp q)
    obtain ⟨cd, hc⟩ := Option.isSome_iff_exists.mp T.ty
    unfold clsIn at hc
    split at hc
    · rename_i c' d' cd' sl' ho
      cases (X _ _ ho).symm.trans htp
    · cases hc
  ca := fun X ⟨oe, h1, h2⟩ k => exc_attr X T (fun t => h2 ▸ (Looks.ld h1).andThen .now) k
end
end PySem.W
namespace L2
open PySem PySem.Spec PyProof.Rows
section
variable {X : Cx} {D : Addr}
def rIsX (K : PySem.W.Frag) (D : Addr) (c : Value) (b : Bool) : List V → Hp → VK → Prop := fun xs H Q => ∃ a y, xs = [.ref a, y] ∧ RelV y c ∧ H a = some (excO a (.ref D)) ∧ Q (.bl b) H
theorem call_isX (T : PySem.W.ExcT X.K D) (e : PySem.W.kitOne X.K (.ref D) c = some b) (hc : ∀ y u, RelV y c → RelV y u → u = c) : CallR X (.builtin "isinstance") (rIsX X.K D c b) := by
  intro pins s σ H xs us Q I r h
  obtain ⟨a, y, rfl, ry, ha, q⟩ := h
  obtain ⟨u, v, rfl, ru, rv⟩ := r.two
  obtain rfl := hc y v ry rv
  obtain rfl : u = .ref a := ru
  exact PySem.W.kia_one (PySem.W.kitx_exc T) I.kIn (I.hok a _ ha).1 e (fun z => nomatch z) fun tk => ⟨.bl b, H, I.tok tk, rfl, q⟩
def rIsXs (K : PySem.W.Frag) (D : Addr) (vs : List V) (b : Bool) : List V → Hp → VK → Prop := fun xs H Q => ∃ a t, xs = [.ref a, .ref t] ∧ H t = some (.tup vs) ∧ H a = some (excO a (.ref D)) ∧ Q (.bl b) H
theorem call_isXs (T : PySem.W.ExcT X.K D) (e : PySem.W.kitAny X.K (.ref D) cs = some b) (hc : ∀ us, Vals vs us → us = cs) : CallR X (.builtin "isinstance") (rIsXs X.K D vs b) := by
  intro pins s σ H xs us Q I r h
  obtain ⟨a, t, rfl, ht, ha, q⟩ := h
  obtain ⟨u, v, rfl, ru, rv⟩ := r.two
  obtain rfl : u = .ref a := ru
  obtain rfl : v = .ref t := rv
  obtain ⟨_, its, r2, ob, e1, e2, n, e3⟩ := (I.hok t _ ht)
  obtain rfl := hc its r2
  obtain ⟨c0, d0, dt, sl⟩ := ob
  cases e2
  cases e3
  exact PySem.W.kia_tup (PySem.W.kitx_exc T) I.kIn (I.hok a _ ha).1 e1 e (fun z => nomatch z) fun tk => ⟨.bl b, H, I.tok tk, rfl, q⟩
end
end L2
namespace L2
open PySem PySem.Spec PyProof.Rows
section
variable {X : Cx}
def rSlB : V → Option Int → Option Int → Hp → VK → Prop := fun x lo hi H Q => ∃ z i, x = .str z ∧ lo = some i ∧ hi = none ∧ z.length ≤ sizeLine ∧ Q (.str (Txt.slice z (some i) none)) H
theorem sl_strB : SlR X rSlB := by
  intro pins s σ H x v vl vu lo hi sl Q I rx hs pl pu h
  obtain ⟨z, j, rfl, rfl, rfl, hz, q⟩ := h
  obtain ⟨t, rfl⟩ := rx
  cases pu
  cases pl with
  | int _ tk =>
    refine ⟨"str", _, PySem.F.slot_str_getitem.lookup, typeIs_str _ _ _, ?_⟩
    exact wpAny_getItem_str_slice (l := some (j, tk)) (u := none) (st := none) hs rfl (post_val_or_str ⟨Nat.le_trans (Txt.slice_le z _ _) hz, fun t' k => ⟨.str _, H, I.tok k, ⟨t', rfl⟩, q⟩⟩)
end
end L2
namespace Ts
open PySem L2
section
variable {K : PySem.W.Frag} {B : Bs} {sl : List (Slot K)} {md : Md} {t t1 t2 : TE}
noncomputable def addT (a b : Str) : Option Str := if a.length + b.length ≤ 9000 then some (a ++ b) else none
theorem ex_addT (h1 : Ex B sl .hp t1 m1) (h2 : Ex B sl .hp t2 m2) : Ex B sl md (tOp rAddS t1 t2) (m1.bind fun a => m2.bind fun b => addT a b) := fun c hc F O H σ Q s k => by
  obtain ⟨a, b, ha, hb, hf⟩ := bind2 hc
  unfold addT at hf
  split at hf
  case isFalse => cases hf
  rename_i hl
  cases hf
  refine h1 a ha F O H σ _ s fun v F' H' g r1 => ?_
  refine h2 b hb F' O H' σ _ (s.grow g) fun w F2 H2 g2 r2 => ?_
  cases r1
  cases r2
  exact ⟨a, b, rfl, rfl, Nat.le_trans hl (by decide), k _ F2 H2 (g.trans g2) rfl⟩
noncomputable def cutT (z : Str) (j : Int) : Option Str := if z.length ≤ 9000 then some (Txt.slice z none (some j)) else none
theorem ex_cutT (h1 : Ex B sl .hp t1 m1) (h2 : Ex B sl .hp t2 m2) : Ex B sl md (tSl rSlS t1 tNoPart (tPart t2)) (m1.bind fun a => m2.bind fun b => cutT a b) := fun c hc F O H σ Q s k => by
  obtain ⟨a, b, ha, hb, hf⟩ := bind2 hc
  unfold cutT at hf
  split at hf
  case isFalse => cases hf
  rename_i hl
  cases hf
  refine h1 a ha F O H σ _ s fun v F' H' g r1 => ?_
  refine h2 b hb F' O H' σ _ (s.grow g) fun w F2 H2 g2 r2 => ?_
  cases r1
  cases r2
  exact ⟨b, rfl, a, b, rfl, rfl, rfl, Nat.le_trans hl (by decide), k _ F2 H2 (g.trans g2) rfl⟩
noncomputable def cutB (z : Str) (j : Int) : Option Str := if z.length ≤ 9000 then some (Txt.slice z (some j) none) else none
theorem ex_cutB (h1 : Ex B sl .hp t1 m1) (h2 : Ex B sl .hp t2 m2) : Ex B sl md (tSl rSlB t1 (tPart t2) tNoPart) (m1.bind fun a => m2.bind fun b => cutB a b) := fun c hc F O H σ Q s k => by
  obtain ⟨a, b, ha, hb, hf⟩ := bind2 hc
  unfold cutB at hf
  split at hf
  case isFalse => cases hf
  rename_i hl
  cases hf
  refine h1 a ha F O H σ _ s fun v F' H' g r1 => ?_
  refine h2 b hb F' O H' σ _ (s.grow g) fun w F2 H2 g2 r2 => ?_
  cases r1
  cases r2
  exact ⟨b, rfl, a, b, rfl, rfl, rfl, Nat.le_trans hl (by decide), k _ F2 H2 (g.trans g2) rfl⟩
end
end Ts
namespace Ts
open PySem L2
inductive Mx where
  | mi (n : Int)
  | mb (c : Bool)
  | mn
  | ms (x : Str)
def Mx.v : Mx → V
  | .mi n => .int n
  | .mb c => .bl c
  | .mn => .non
  | .ms x => .str x
def mxI : Mx → Option Int
  | .mi n => some n
  | _ => none
def isiI : Mx → Bool
  | .mi _ => true
  | .mb _ => true
  | _ => false
def isiB : Mx → Bool
  | .mb _ => true
  | _ => false
def mxL : List Mx → Option (List Int)
  | [] => some []
  | x :: xs => (mxI x).bind fun a => (mxL xs).bind fun l => some (a :: l)
def mxLL : List (List Mx) → Option (List (List Int))
  | [] => some []
  | x :: xs => (mxL x).bind fun a => (mxLL xs).bind fun l => some (a :: l)
def mxMk : List (Str × List Mx) → Option (List (Str × List Int))
  | [] => some []
  | x :: xs => (mxL x.2).bind fun a => (mxMk xs).bind fun l => some ((x.1, a) :: l)
section
variable {K : PySem.W.Frag} {B : Bs} {sl : List (Slot K)} {md : Md} {t : TE} {F : Hp} {v : V}
instance : Rp K Mx := ⟨fun _ v a => v = a.v, fun _ h => h⟩
instance : Sc K Mx := ⟨Mx.v, Iff.rfl, fun {a b} h => by cases a <;> cases b <;> cases h <;> rfl⟩
theorem rp_mxI (e : mxI x = some n) (h : rp K F v x) : rp K F v n := by
  cases x <;> cases e
  exact h
theorem a2_mx : ∀ {xs : List Mx} {ns : List Int} {vs : List V}, mxL xs = some ns → A2 (rp K F) vs xs → A2 (rp K F) vs ns
  | [], ns, vs, e, h => by cases e; cases vs with
    | nil => trivial
    | cons _ _ => exact h.elim
  | x :: xs, ns, vs, e, h => by
    cases vs with
    | nil => exact h.elim
    | cons w vs =>
      unfold mxL at e
      cases a : mxI x with
      | none => rw [a] at e; cases e
      | some n =>
        cases b : mxL xs with
        | none => rw [a, b] at e; cases e
        | some l =>
          rw [a, b] at e
          cases e
          exact ⟨rp_mxI a h.1, a2_mx b h.2⟩
theorem rp_mxL (e : mxL xs = some ns) (h : rp K F v xs) : rp K F v ns := by
  obtain ⟨p, vs, h1, h2, h3⟩ := h
  exact ⟨p, vs, h1, h2, a2_mx e h3⟩
theorem a2_mxL : ∀ {xs : List (List Mx)} {ns : List (List Int)} {vs : List V}, mxLL xs = some ns → A2 (rp K F) vs xs → A2 (rp K F) vs ns
  | [], ns, vs, e, h => by cases e; cases vs with
    | nil => trivial
    | cons _ _ => exact h.elim
  | x :: xs, ns, vs, e, h => by
    cases vs with
    | nil => exact h.elim
    | cons w vs =>
      unfold mxLL at e
      cases a : mxL x with
      | none => rw [a] at e; cases e
      | some n =>
        cases b : mxLL xs with
        | none => rw [a, b] at e; cases e
        | some l =>
          rw [a, b] at e
          cases e
          exact ⟨rp_mxL a h.1, a2_mxL b h.2⟩
theorem rp_mxLL (e : mxLL xs = some ns) (h : rp K F v xs) : rp K F v ns := by
  obtain ⟨p, vs, h1, h2, h3⟩ := h
  exact ⟨p, vs, h1, h2, a2_mxL e h3⟩
theorem a2_mxM : ∀ {xs : List (Str × List Mx)} {ns : List (Str × List Int)} {vs : List V}, mxMk xs = some ns → A2 (rp K F) vs xs → A2 (rp K F) vs ns
  | [], ns, vs, e, h => by cases e; cases vs with
    | nil => trivial
    | cons _ _ => exact h.elim
  | x :: xs, ns, vs, e, h => by
    cases vs with
    | nil => exact h.elim
    | cons w vs =>
      unfold mxMk at e
      cases a : mxL x.2 with
      | none => rw [a] at e; cases e
      | some n =>
        cases b : mxMk xs with
        | none => rw [a, b] at e; cases e
        | some l =>
          rw [a, b] at e
          cases e
          obtain ⟨p, y, z, h1, h2, h3, h4⟩ := h.1
          exact ⟨⟨p, y, z, h1, h2, h3, rp_mxL a h4⟩, a2_mxM b h.2⟩
theorem rp_mxMk (e : mxMk xs = some ns) (h : rp K F v xs) : rp K F v ns := by
  obtain ⟨p, vs, h1, h2, h3⟩ := h
  exact ⟨p, vs, h1, h2, a2_mxM e h3⟩
theorem ex_as {α β : Type} [Rp K α] [Rp K β] {f : α → Option β} (hf : ∀ {F : Hp} {v : V} {a : α} {b : β}, f a = some b → rp K F v a → rp K F v b) {m : Option α} (h : Ex B sl md t m) : Ex B sl md t (m.bind f) := fun c hc F O H σ Q s k => by
  cases m with
  | none => cases hc
  | some a => exact h a rfl F O H σ Q s fun v F' H' g r => k v F' H' g (hf hc r)
theorem ex_mxI (h : Ex B sl md t m) : Ex B sl md t (m.bind mxI) := ex_as rp_mxI h
theorem ex_mxL (h : Ex B sl md t m) : Ex B sl md t (m.bind mxL) := ex_as rp_mxL h
theorem ty_mx (h : rp K H v x) : ∃ t, TyOf K H v t ∧ PySem.W.kitOne K t (.type "int") = some (isiI x) ∧ PySem.W.kitOne K t (.type "bool") = some (isiB x) := by
  have e : v = x.v := h
  subst e
  cases x with
  | mi n => exact ⟨_, .int _, ki_ii, ki_ib⟩
  | mb c => exact ⟨_, .bl _, (by first | rfl | (unfold PySem.W.kitOne PySem.W.kitCls; decide +kernel)), (by first | rfl | (unfold PySem.W.kitOne PySem.W.kitCls; decide +kernel))⟩
  | mn => exact ⟨_, .non, (by first | rfl | (unfold PySem.W.kitOne PySem.W.kitCls; decide +kernel)), (by first | rfl | (unfold PySem.W.kitOne PySem.W.kitCls; decide +kernel))⟩
  | ms z => exact ⟨_, .str _, (by first | rfl | (unfold PySem.W.kitOne PySem.W.kitCls; decide +kernel)), (by first | rfl | (unfold PySem.W.kitOne PySem.W.kitCls; decide +kernel))⟩
theorem ex_isMI (h : Ex B sl .hp t m) : Ex B sl md (tCB (rIsi K (.type "int")) (tCons t (tCons (tC (.ty "int")) tNil))) (m.bind fun x => some (isiI x)) := fun d hd F O H σ Q s k => by
  cases m with
  | none => cases hd
  | some a =>
    cases hd
    refine h a rfl F O H σ _ s fun v F' H' g r1 => ?_
    obtain ⟨y, z1, z2, _⟩ := ty_mx r1
    exact ⟨v, _, y, _, rfl, rfl, z1, z2, k _ F' H' g rfl⟩
theorem ex_isMB (h : Ex B sl .hp t m) : Ex B sl md (tCB (rIsi K (.type "bool")) (tCons t (tCons (tC (.ty "bool")) tNil))) (m.bind fun x => some (isiB x)) := fun d hd F O H σ Q s k => by
  cases m with
  | none => cases hd
  | some a =>
    cases hd
    refine h a rfl F O H σ _ s fun v F' H' g r1 => ?_
    obtain ⟨y, z1, _, z2⟩ := ty_mx r1
    exact ⟨v, _, y, _, rfl, rfl, z1, z2, k _ F' H' g rfl⟩
end
end Ts
namespace L2
open PySem PySem.Spec PyProof.Rows
def exD (E : XK) (D : Ends) : Ends := { D with rt := fun v H => ∃ c, v = .ref c ∧ E (.ref c) none H }
def Lm (E : XK) (D : Ends) : Prop := ∀ v H, D.rt v H → ∃ c, v = .ref c ∧ E (.ref c) none H
def PSm (X : Cx) (E : XK) (st : Stmt) (t : TS) : Prop :=
  ∀ (pins : List (Addr × Obj)) (s : Shared) (σ : St) (H : Hp) (D : Ends), Lm E D → Inv X pins σ H s → t D σ H → wpAny (model X.prog X.w) X.A (exec st X.env) (SP X pins (noR D)) X.xe s
def PSsm (X : Cx) (E : XK) (st : List Stmt) (t : TS) : Prop :=
  ∀ (pins : List (Addr × Obj)) (s : Shared) (σ : St) (H : Hp) (D : Ends), Lm E D → Inv X pins σ H s → t D σ H → wpAny (model X.prog X.w) X.A (execs st X.env) (SP X pins (noR D)) X.xe s
section
variable {X : Cx} {E : XK} {st : Stmt} {rest : List Stmt} {t u : TS} {pos : Pos}
theorem psm_of (h : PS X st t) (ht : ∀ D σ H, t D σ H → t (noR D) σ H := by exact fun _ _ _ h => h) : PSm X E st t := fun pins s σ H D _ I q => h pins s σ H (noR D) I (ht D σ H q)
theorem pssm_never : PSsm X E rest tNever := fun _ _ _ _ _ _ _ h => h.elim
theorem pssm_nil : PSsm X E [] tNext := fun pins s σ H D _ I h => wpAny_execs_nil ⟨σ, H, I, h⟩
theorem pssm_cons (h1 : PSm X E st t) (h2 : PSsm X E rest u) : PSsm X E (st :: rest) (tSeq t u) := by
  intro pins s σ H D L I h
  refine wpAny_execs_cons (thn (h1 pins s σ H { D with nx := u D } L I h) fun f s1 q => ?_)
  cases f with
  | next =>
    obtain ⟨σ', H', I', q⟩ := q
    exact h2 pins s1 σ' H' D L I' q
  | ret v => exact q
  | brk => exact q
  | cont => exact q
theorem psm_if (hc : PT X c tc) (ha : PSsm X E a t) (hb : PSsm X E b u) : PSm X E (.If c a b pos) (tIfS tc t u) := by
  intro pins s σ H D L I h
  refine wpAny_If (thn (hc pins s σ H _ I h) fun d s1 ⟨H1, I1, q1⟩ => ?_)
  cases d with
  | true => exact ha pins s1 σ H1 D L I1 q1
  | false => exact hb pins s1 σ H1 D L I1 q1
theorem psm_for (hp : PassesOwn (model X.prog X.w) X.A X.env X.xe) (hc : X.calm = true) (hi : PI X tg iter wi) (hg : PG X tg g) (hb : PSsm X E body tb)
    (hs : ∀ x, foldedSetIterable iter X.env x = pure x := by intro _; rfl) : PSm X E (.For tg iter body [] pos) (tFor wi g tb) := by
  intro pins s σ H D L I h
  refine wpAny_For (thn (hi pins s σ H _ I h) fun v s1 h1 => thn h1 fun itv s2 h2 => ?_) hs
  obtain ⟨it, fp, tn, J, H2, e, I2, T, st2, f2, Wd, ⟨m0, w0⟩, turn⟩ := h2
  subst e
  have stat : ∀ {H' : Hp}, (∀ b ∈ fp, H' b = none) → ∀ b ∈ fp, FpOk X pins H' b := fun hn b hb => ⟨hn b hb, (f2 b hb).2⟩
  refine codeAny_forLoop_any (fun n s' => ∃ i σ' H', Inv X pins σ' H' s' ∧ tn i s'.heap ∧ (∀ b ∈ fp, H' b = none) ∧ Wd i n σ' H') ?_ m0 ⟨0, σ, H2, I2, st2, fun b hb => (f2 b hb).1, w0⟩
  rintro n s3 ⟨i, σ3, H3, I3, st3, fr3, w3⟩
  rcases turn i n σ3 H3 w3 with ⟨stop, qn⟩ | ⟨go, N, hN, step⟩
  · refine wpAny_passesOwn hp (thn (T.done X rfl rfl rfl hc i pins s3 σ3 H3 X.xe I3 (stat fr3) st3 stop) fun r s4 ⟨hr, I4⟩ => ?_)
    subst hr
    exact wpAny_execs_nil ⟨σ3, H3, I4, qn⟩
  · refine wpAny_passesOwn hp (thn (T.item X rfl rfl rfl hc i pins s3 σ3 H3 X.xe I3 (stat fr3) st3 go) fun r s4 ⟨u, hr, h4⟩ => ?_)
    subst hr
    refine wpAny_passesOwn hp (thn h4 fun _ s5 ⟨x, H5, I5, r5, y5, st5, fr5⟩ => ?_)
    have I5' := I5.pinned (stat fr5) (T.obj _ _ st5)
    refine wpAny_passesOwn hp (thn (hg _ s5 σ3 H5 x u _ I5' r5 (step x H5 y5)) fun _ s6 ⟨σ6, H6, I6, q6⟩ => ?_)
    refine wpAny_passesOwn hp (thn (hb _ s6 σ6 H6 { D with nx := N, ct := N, bk := D.nx } L I6 q6) fun f s7 q7 => ?_)
    have again : ∀ {σ7 : St} {H7 : Hp}, Inv X (pins ++ pinsAt fp s5.heap) σ7 H7 s7 → N σ7 H7 → ∃ m, m < n ∧ ∃ i σ' H', Inv X pins σ' H' s7 ∧ tn i s7.heap ∧ (∀ b ∈ fp, H' b = none) ∧ Wd i m σ' H' := fun {σ7 H7} I7 n7 => by
      obtain ⟨m', hm, w7⟩ := hN σ7 H7 n7
      have pin : ∀ b ∈ fp, ∀ o, s5.heap.get? b = some o → s7.heap.get? b = some o ∧ H7 b = none := fun b hb o e => by
        have z := I7.pin (b, o) (List.mem_append_right _ (List.mem_append_right _ (mem_pinsAt hb e)))
        exact ⟨z.1, z.2.1⟩
      refine ⟨m', hm, i + 1, σ7, H7, I7.unpinned, T.keep _ _ _ st5 fun b hb o e => (pin b hb o e).1, fun b hb => ?_, w7⟩
      obtain ⟨o, e, d⟩ := T.obj _ _ st5 b hb
      exact (pin b hb o e).2
    cases f with
    | next => obtain ⟨σ7, H7, I7, n7⟩ := q7; exact again I7 n7
    | cont => obtain ⟨σ7, H7, I7, n7⟩ := q7; exact again I7 n7
    | brk => obtain ⟨σ7, H7, I7, q7⟩ := q7; exact ⟨σ7, H7, I7.unpinned, q7⟩
    | ret v => obtain ⟨x7, σ7, H7, I7, r7, q7⟩ := q7; exact q7.elim
theorem PSsm.pss (h : PSsm X E rest t) : PSs X rest (fun D σ H => t (exD E D) σ H) := fun pins s σ H D I q =>
  wpAny_mono (h pins s σ H _ (fun _ _ z => z) I q) (fun fl s' hs => by
    cases fl with
    | next => exact hs
    | brk => exact hs
    | cont => exact hs
    | ret v => obtain ⟨x7, σ7, H7, I7, r7, q7⟩ := hs; exact q7.elim) fun _ _ z => z
end
abbrev TJ := Str → St → Hp → VK → Prop
def PJ (X : Cx) (es : List Expr) (t : TJ) : Prop :=
  ∀ (pins : List (Addr × Obj)) (s : Shared) (σ : St) (H : Hp) (Q : VK) (out : Str), Inv X pins σ H s → out.length ≤ sizeLine → t out σ H Q → wpAny (model X.prog X.w) X.A (joinParts out (evalEach es X.env)) (EP X pins σ Q) X.xe s
def TxtOf (x : V) (z : Str) : Prop := (∃ i, x = .int i ∧ i.natAbs.log2 < 1920 ∧ z = Str.ofString (toString i)) ∨ (x = .str z ∧ z.length ≤ 1000)
def RepOf (x : V) (z : Str) : Prop := (∃ i, x = .int i ∧ i.natAbs.log2 < 1920 ∧ z = Str.ofString (toString i)) ∨ (∃ y, x = .str y ∧ z = reprText y ∧ z.length ≤ 1000) ∨ (∃ b, x = .bl b ∧ z = if b then ("True" : Str) else ("False" : Str)) ∨ (x = .non ∧ z = "None")
def jNil : TJ := fun out _ H Q => Q (.str out) H
def jLit (a : Str) (t : TJ) : TJ := fun out σ H Q => (out ++ a).length ≤ sizeLine ∧ t (out ++ a) σ H Q
def jVal (te : TE) (t : TJ) : TJ := fun out σ H Q => te σ H fun x H1 => ∃ z, TxtOf x z ∧ (out ++ z).length ≤ sizeLine ∧ t (out ++ z) σ H1 Q
def jRep (te : TE) (t : TJ) : TJ := fun out σ H Q => te σ H fun x H1 => ∃ z, RepOf x z ∧ (out ++ z).length ≤ sizeLine ∧ t (out ++ z) σ H1 Q
def tJ (t : TJ) : TE := fun σ H Q => t Str.empty σ H Q
section
variable {X : Cx} {e e1 e2 : Expr} {es : List Expr} {t : TJ} {te : TE} {p1 pos : Pos}
theorem pj_nil : PJ X [] jNil := fun pins s σ H Q out I hl h => joinParts_nilE (joinParts_nil ⟨.str out, H, I.tok _, ⟨_, rfl⟩, h⟩ hl)
theorem pj_lit (h : PJ X es t) : PJ X (.Constant (.str a) j p1 :: es) (jLit a t) := fun pins s σ H Q out I hl q =>
  joinParts_consE (joinParts_cons (Calls.Constant_str ⟨q.1, h pins _ σ H Q _ (I.tok _) q.1 q.2⟩))
theorem pj_val (he : PE X e te) (h : PJ X es t) : PJ X (.FormattedValue e (-1) none p1 :: es) (jVal te t) := fun pins s σ H Q out I hl q => by
  refine joinParts_consE (joinParts_cons (FormattedValue_plain (thn (he pins _ σ H _ I q) fun u s1 ⟨x, H1, I1, r1, q1⟩ => ?_)))
  obtain ⟨z, hz, hl2, q1⟩ := q1
  rcases hz with ⟨i, rfl, hd, rfl⟩ | ⟨rfl, hz⟩
  · obtain ⟨t, rfl⟩ := r1
    exact formatField_int_small hd ⟨hl2, h pins _ σ H1 Q _ (I1.tok (s1.toks + 1 + 1)) hl2 q1⟩
  · obtain ⟨t, rfl⟩ := r1
    exact formatField_str (fun t' tk => ⟨hl2, h pins _ σ H1 Q _ (I1.tok tk) hl2 q1⟩) (Nat.le_trans hz (by decide))
theorem pj_rep (he : PE X e te) (h : PJ X es t) : PJ X (.FormattedValue e 114 none p1 :: es) (jRep te t) := fun pins s σ H Q out I hl q => by
  refine joinParts_consE (joinParts_cons (wpAny_FormattedValue_repr (thn (he pins _ σ H _ I q) fun u s1 ⟨x, H1, I1, r1, q1⟩ => ?_)))
  obtain ⟨z, hz, hl2, q1⟩ := q1
  have last : z.length ≤ 2000 → ∀ tk, ∀ t : Tok, wpAny (model X.prog X.w) X.A (formatField (.str z t) Str.empty) (fun v s₁ => match v with | .str y _ => (out ++ y).length ≤ sizeLine ∧ wpAny (model X.prog X.w) X.A (joinParts (out ++ y) (evalEach es X.env)) (EP X pins σ Q) X.xe s₁ | _ => False) X.xe { s1 with toks := tk } := fun hz tk t =>
    formatField_str (fun t' tk' => ⟨hl2, h pins _ σ H1 Q _ (I1.tok tk') hl2 q1⟩) (Nat.le_trans hz (by decide))
  rcases hz with ⟨i, rfl, hd, rfl⟩ | ⟨y, rfl, rfl, hz⟩ | ⟨b, rfl, rfl⟩ | ⟨rfl, rfl⟩
  · obtain ⟨t, rfl⟩ := r1
    exact pyReprObj_int hd (last (by have := int_text_len_1921 hd; omega) _ _)
  · obtain ⟨t, rfl⟩ := r1
    exact pyReprObj_str (last (by omega) _ _) (Nat.le_trans hz (by decide))
  · have r1 : u = .bool b := r1
    subst r1
    exact pyReprObj_bool (last (by cases b <;> decide) _ _)
  · have r1 : u = .none := r1
    subst r1
    exact pyReprObj_none (last (by decide) _ _)
theorem pe_joined (h : PJ X (e1 :: e2 :: es) t) : PE X (.JoinedStr (e1 :: e2 :: es) pos) (tJ t) := fun pins s σ H Q I q => JoinedStr_many (h pins s σ H Q Str.empty I (Nat.zero_le _) q)
end
def tRaiseM (c : Addr) (ta : TA) : TS := fun D σ H => ta σ H fun vs H1 => vs.length ≤ sizeLine ∧ D.rt (.ref c) H1
def tDropM (sp : Sp) (t : TA) : TS := fun D σ H => t σ H fun vs H1 => sp (vs ++ []) H1 (fun _ H2 => D.nx σ H2) fun B _ H' => ∃ c, B = .ref c ∧ D.rt (.ref c) H'
section
variable {X : Cx} {E : XK} {C : Addr}
theorem psm_raise {x : Str} {np cpos pos : Pos} {e₀ : Expr} {rest : List Expr} {ta : TA} (T : Thr X (.ref C) E) (hcm : X.calm = true) (O : ExcK X.K C) (hg : Gl X x) (hm : X.mg x = some (.ref C)) (ha : PA X (e₀ :: rest) ta) (hdb : (x == ("__debug__" : Str)) = false := by decide)
    (he : starEach (e₀ :: rest) X.env = (false, eval e₀ X.env) :: starEach rest X.env := by rfl) (hpl : (backTo cpos (starEach rest X.env)).any (·.1) = false := by rfl) :
    PSm X E (.Raise (some (.Call (.Name x np) (e₀ :: rest) [] cpos)) none pos) (tRaiseM C ta) := by
  intro pins s σ H D L I h
  have z := psr_raise (pos := pos) (np := np) (cpos := cpos) T hcm O hg hm ha hdb he hpl pins s σ H { D with rt := fun _ H1 => D.rt (.ref C) H1 } (fun v H1 q => by
    obtain ⟨c, e, q⟩ := L _ _ q
    cases e
    exact q) I h
  exact wpAny_mono z (fun fl s' hs => by
    cases fl with
    | next => exact hs
    | brk => exact hs
    | cont => exact hs
    | ret v => obtain ⟨x7, σ7, H7, I7, r7, q7⟩ := hs; exact q7.elim) fun _ _ z => z
theorem psm_call {pos : Pos} (F : FnOk X.prog X.w X.K X.mg X.base (CXX X.prog X.w) k f fd ps sp) (hr : Room k X.A) (hg : Gl X x) (hm : X.mg x = some (.ref f)) (hk : PySem.W.keepIn X.K (.ref f) = true) (hb : Binds X.K fd ps [])
    (hx : Passes (CXX X.prog X.w) X E) (ha : PA X (e :: es) t) (hdb : (x == ("__debug__" : Str)) = false := by decide) (he : starEach (e :: es) X.env = (false, eval e X.env) :: starEach es X.env := by rfl)
    (hpl : (backTo cpos (starEach es X.env)).any (·.1) = false := by rfl) (hs : swapsWith (.Call (.Name x p) (e :: es) [] cpos) none pos.line X.env = pure false := by rfl) : PSm X E (.Expr (.Call (.Name x p) (e :: es) [] cpos) pos) (tDropM sp t) := by
  intro pins s σ H D L I h
  exact (ps_expr (pe_call (E := fun B _ H' => ∃ c, B = .ref c ∧ D.rt (.ref c) H') F hr hg hm hk hb .nil (fun pins2 σ2 H2 s2 e2 s3 I2 q => hx pins2 σ2 H2 s2 e2 s3 I2 (q.mono fun B H ⟨c, z1, z2⟩ => by
    obtain ⟨c2, e2, z⟩ := L _ _ z2
    cases e2
    exact z1 ▸ z)) ha hdb he hpl) hs) pins s σ H (noR D) I h
end
section
variable {P : Program} {w : World} {K : PySem.W.Frag} {mg : Str → Option Value} {base : Heap}
theorem Fun.okM {x qual : Str} {st : Stmt} {f : Addr} {fd : FuncData} {N ps : List Str} {k : Nat} {sp : Sp} (F : Fun K x qual st f fd) (S : FnScope N ps (defScope st)) (len : ∀ vs H Q E, sp vs H Q E → vs.length = ps.length)
    (hbody : ∀ (cdv : Value) (A : Around) (outer : List Env) (s : Shared) (H : Hp) (vs : List V) (Q : VK) (E : XK), Room k (A.deeper (envOfC qual (defScope st) s.heap.objs.size f cdv)) → sp vs H Q E →
      ∃ t, PSsm (cxOf (CXX P w) P w K mg base N qual (defScope st) f cdv A outer s H E) E (defBody st) t ∧ t { nx := fun _ H' => Q .non H', rt := fun v H' => ∃ c, v = .ref c ∧ E (.ref c) none H' } (start N vs) H) : FnOk P w K mg base (CXX P w) (k + 1) f fd ps sp := by
  obtain ⟨oc, od, kV, doc, pm, an, cdv, ct, osl, rfl, lk, hcd⟩ := F.ex
  refine fn_of lk hcd S len fun A outer s H vs Q E hr hsp => ?_
  obtain ⟨t, h, q⟩ := hbody cdv A outer s H vs Q E hr hsp
  exact ⟨_, h.pss, q⟩
end
end L2
namespace Ts
open PySem L2
structure Ek (cx : Fin 3 → Addr) where
  k : Fin 3
section
variable {P : Program} {w : World} {mg : Str → Option Value} {base : Heap} {K : PySem.W.Frag} {B : Bs} {sl : List (Slot K)} {md : Md} {t te : TE} {al : Bool} {u tt : TS} {cx : Fin 3 → Addr} {S : Type} {L : S → List (Slot K)}
instance : Rp K (Ek cx) := ⟨fun _ v e => v = .ref (cx e.k), fun _ h => h⟩
def spE (K : PySem.W.Frag) (cx : Fin 3 → Addr) {A : Type} (as : A → List (Slot K)) (f : A → Option (Out Unit (Ek cx))) : Sp := fun vs H Q E => ∃ (a : A) (o : Out Unit (Ek cx)) (Fa : Hp), Same Fa H ∧ f a = some o ∧ Ar Fa (as a) vs ∧ (match o with
  | .nx _ => ∀ H', Same H H' → Q .non H'
  | .rt e => ∀ H', Same H H' → E (.ref (cx e.k)) none H')
noncomputable def Ej (B : Bs) (sl : List (Slot K)) (t : TJ) (n : Nat) (m : Option Unit) : Prop := m = some () → ∀ out : Str, out.length + n ≤ 100000 → ∀ (F : Hp) (O : Own) (H : Hp) (σ : St) (Q : VK), At B sl F O H σ → (∀ z F' H', Grow B F H O F' H' → Q (.str z) H') → t out σ H Q
section
variable {tj : TJ} {n : Nat} {m2 : Option Unit}
theorem ej_len {out z : Str} (h : out.length + (n + k) ≤ 100000) (hz : z.length ≤ k) : (out ++ z).length + n ≤ 100000 ∧ (out ++ z).length ≤ sizeLine := by
  rw [str_app_len]
  exact ⟨by omega, Nat.le_trans (show out.length + z.length ≤ 100000 by omega) (by decide)⟩
theorem ej_nil : Ej B sl jNil 0 (some ()) := fun _ out _ F O H σ Q z k => k _ F H (.refl z.1)
theorem ej_lit (a : Str) (h : Ej B sl tj n m2) : Ej B sl (jLit a tj) (n + a.length) m2 := fun e out hl F O H σ Q z k => by
  obtain ⟨h1, h2⟩ := ej_len (z := a) hl (Nat.le_refl _)
  exact ⟨h2, h e _ h1 F O H σ Q z k⟩
noncomputable def fitI (i : Int) (m : Option Unit) : Option Unit := if i.natAbs.log2 < 1920 then m else none
noncomputable def fitS (x : Str) (m : Option Unit) : Option Unit := if x.length ≤ 1000 then m else none
noncomputable def fitM (x : Mx) (m : Option Unit) : Option Unit := match x with
  | .mi i => fitI i m
  | .ms x => fitS (reprText x) m
  | _ => m
theorem ej_int (h1 : Ex B sl .hp te m) (h : Ej B sl tj n m2) : Ej B sl (jVal te tj) (n + 2000) (m.bind fun i => fitI i m2) := fun e out hl F O H σ Q z k => by
  cases m with
  | none => cases e
  | some i =>
    have e : fitI i m2 = some () := e
    unfold fitI at e
    split at e
    case isFalse => cases e
    rename_i hd
    refine h1 i rfl F O H σ _ z fun v F' H' g r => ?_
    have r : v = .int i := r
    obtain ⟨l1, l2⟩ := ej_len (z := Str.ofString (toString i)) hl (by have := PyProof.Rows.int_text_len_1921 hd; omega)
    exact ⟨_, .inl ⟨i, r, hd, rfl⟩, l2, h e _ l1 F' O H' σ Q (z.grow g) fun z F2 H2 g2 => k z F2 H2 (g.trans g2)⟩
theorem ej_str (h1 : Ex B sl .hp te m) (h : Ej B sl tj n m2) : Ej B sl (jVal te tj) (n + 1000) (m.bind fun x => fitS x m2) := fun e out hl F O H σ Q z k => by
  cases m with
  | none => cases e
  | some i =>
    have e : fitS i m2 = some () := e
    unfold fitS at e
    split at e
    case isFalse => cases e
    rename_i hd
    refine h1 i rfl F O H σ _ z fun v F' H' g r => ?_
    have r : v = .str i := r
    obtain ⟨l1, l2⟩ := ej_len (z := i) hl hd
    exact ⟨_, .inr ⟨r, hd⟩, l2, h e _ l1 F' O H' σ Q (z.grow g) fun z F2 H2 g2 => k z F2 H2 (g.trans g2)⟩
theorem ej_rep (h1 : Ex B sl .hp te m) (h : Ej B sl tj n m2) : Ej B sl (jRep te tj) (n + 2000) (m.bind fun x => fitM x m2) := fun e out hl F O H σ Q z k => by
  cases m with
  | none => cases e
  | some x =>
    have e : fitM x m2 = some () := e
    refine h1 x rfl F O H σ _ z fun v F' H' g r => ?_
    have r : v = x.v := r
    have go : ∀ y : Str, y.length ≤ 2000 → RepOf v y → m2 = some () → ∃ z, RepOf v z ∧ (out ++ z).length ≤ sizeLine ∧ tj (out ++ z) σ H' Q := fun y hy ry e2 => by
      obtain ⟨l1, l2⟩ := ej_len (z := y) hl hy
      exact ⟨y, ry, l2, h e2 _ l1 F' O H' σ Q (z.grow g) fun z F2 H2 g2 => k z F2 H2 (g.trans g2)⟩
    cases x with
    | mi i =>
      have e : fitI i m2 = some () := e
      unfold fitI at e
      split at e
      case isFalse => cases e
      rename_i hd
      exact go _ (by have := PyProof.Rows.int_text_len_1921 hd; omega) (.inl ⟨i, r, hd, rfl⟩) e
    | ms y =>
      have e : fitS (reprText y) m2 = some () := e
      unfold fitS at e
      split at e
      case isFalse => cases e
      rename_i hd
      exact go _ (by omega) (.inr (.inl ⟨y, r, rfl, hd⟩)) e
    | mb c => exact go _ (by cases c <;> decide) (.inr (.inr (.inl ⟨c, r, rfl⟩))) e
    | mn => exact go _ (by decide) (.inr (.inr (.inr ⟨r, rfl⟩))) e
end
theorem sx_raise (i : Fin 3) (hC : C = cx i) (h : Ej B sl tj n m) (hn : n ≤ 100000 := by decide) : Sx B sl (tSeq (tRaiseM C (tCons (tJ tj) tNil)) u) al L (m.bind fun _ => some (Out.rt (Ek.mk i : Ek cx))) := fun b hb G D σ H s k => by
  cases m with
  | none => cases hb
  | some a =>
    cases hb
    obtain ⟨F, O, g, z⟩ := s
    refine h rfl Str.empty (by show 0 + n ≤ _; omega) F O H σ _ z fun z F' H' gr => ⟨(by show 1 ≤ sizeLine; decide), k (.ref C) H' ⟨gr.ok.h0, ?_⟩⟩
    subst hC
    rfl
noncomputable def eOut {S β : Type} (r : Out Unit β) (m : Option (Out S β)) : Option (Out S β) := match r with
  | .nx _ => m
  | .rt e => some (.rt e)
theorem sx_dropM {A : Type} {as : A → List (Slot K)} {f : A → Option (Out Unit (Ek cx))} {ma : Option A} (h : Ea B sl .hp ta as ma) (h2 : Sx B sl u al L m) : Sx B sl (tSeq (tDropM (spE K cx as f) ta) u) al L ((ma.bind f).bind fun r => eOut r m) := fun b hb G D σ H s k => by
  cases ma with
  | none => cases hb
  | some a =>
    cases hf : f a with
    | none => rw [show (some a).bind f = f a from rfl, hf] at hb; cases hb
    | some r =>
      rw [show (some a).bind f = f a from rfl, hf] at hb
      have hb : eOut r m = some b := hb
      obtain ⟨F, O, g, z⟩ := s
      refine h a rfl F O H σ _ z fun vs F' H' gr ra => ?_
      rw [List.append_nil]
      refine ⟨a, r, H', .refl _, hf, ra, ?_⟩
      cases r with
      | nx c => exact fun H2 s2 => h2 b hb G D σ H2 ⟨_, O, g.trans (gr.ff.trans (gr.ok.called s2).ff), (z.grow gr).grow (gr.ok.called s2)⟩ k
      | rt e =>
        cases hb
        exact fun H2 s2 => ⟨_, rfl, k _ H2 ⟨gr.ok.h0.trans s2, rfl⟩⟩
theorem def_okE {A : Type} {as : A → List (Slot K)} {fM : A → Option (Out Unit (Ek cx))} (F : Fun K x qual st f fd) (S : FnScope N ps (defScope st)) (hf : ∀ a, (as a).all isF = true) (hl : ∀ a, (as a).length = ps.length)
    (hb : ∀ (cdv : Value) (A : Around) (outer : List Env) (s : Shared) (H : Hp) (E : XK), Room k (A.deeper (PyProof.Rows.envOfC qual (defScope st) s.heap.objs.size f cdv)) →
      ∃ t, PSsm (cxOf (CXX P w) P w K mg base N qual (defScope st) f cdv A outer s H E) E (defBody st) t ∧ ∀ Fa a, ∃ (L : Unit → List (Slot K)) (al : Bool), Sx ⟨Fa, H⟩ (as a ++ List.replicate (N.length - ps.length) .un) t al L (fM a)) :
    FnOk P w K mg base (CXX P w) (k + 1) f fd ps (spE K cx as fM) :=
  F.okM S (fun vs H Q E ⟨a, o, Fa, _, _, r, _⟩ => by rw [r.len, hl]) fun cdv A outer s H vs Q E hr h => by
    obtain ⟨a, o, Fa, sf, hfa, r, q⟩ := h
    obtain ⟨t, p, z⟩ := hb cdv A outer s H E hr
    refine ⟨t, p, ?_⟩
    obtain ⟨L, al, z⟩ := z Fa a
    have e : L2.start N vs = vs.map some ++ List.replicate (N.length - ps.length) none := by
      unfold L2.start
      rw [r.len, hl]
    rw [e]
    refine z o hfa Fa _ _ H ⟨Fa, [], .refl _, ⟨sf, .refl _, fun b o h => .inl h, fun x hx => (by cases hx), (by simp)⟩, slots_start _ (hf a) r⟩ ?_
    cases o with
    | nx c => exact fun σ' H' ⟨F', O', g, a'⟩ => q H' a'.1.h0
    | rt e => exact fun v H' z => ⟨_, z.2, q H' z.1⟩
end
end Ts
namespace L2
open PySem PySem.Spec PyProof.Rows
section
variable {X : Cx} {cx : Fin 3 → Addr} {e0 : Expr} {te : XK → TE} {epos pos : Pos}
def Arr (X : Cx) (pins : List (Addr × Obj)) (R : Value → Hp → Prop) (e : Value) (s' : Shared) : Prop := ∃ a T C σ' H', e = .ref a ∧ Inv X pins σ' H' s' ∧ Apart X pins H' a ∧ Apart X pins H' T ∧ Trc s'.heap a T C ∧ R C H'
theorem try_body {R : Value → Hp → Prop} {N : St → Hp → Prop} (hx : X.ex = []) (hb : ∀ pins xe E, Passes (CXX X.prog X.w) (X.tried pins xe) E → PE (X.tried pins xe) e0 (te E)) (I : Inv X pins σ H s)
    (h : te (fun B _ H' => R B H') σ H fun _ H1 => N σ H1) (hs : swapsWith e0 none epos.line X.env = pure false) :
    wpAny (model X.prog X.w) X.A (execs [.Expr e0 epos] X.env) (fun f s1 => f = .next ∧ ∃ σ1 H1, Inv X pins σ1 H1 s1 ∧ N σ1 H1) (Arr X pins R) s := by
  have hok := I.ok
  have z := pss_one (ps_expr (X := X.tried pins (Arr X pins R)) (pos := epos) (hb pins (Arr X pins R) (fun B _ H' => R B H') fun pins2 σ2 H2 s2 e2 s3 I2 q => by
    obtain ⟨a, T, B, H', rfl, h1, h2, h3, h4, h5, h6, h7, h8, h9, w⟩ := q
    have I3 := I2.call' h1 h3 h4 h2 (fun b z => absurd z (by simp))
    have ap : ∀ b, s2.heap.get? b = none → H' b = none → Apart X pins H' b := fun b f n => by
      refine ⟨⟨I2.new0 hx f, n⟩, fun z => ?_, fun q hq z => ?_⟩
      · obtain ⟨m, ⟨o, _, _, ho, _⟩, _⟩ := I2.loc
        rw [← z] at ho
        rw [f] at ho; cases ho
      · have := (I2.pin q (List.mem_append_left _ hq)).1
        rw [z, f] at this; cases this
    exact ⟨a, T, B, σ2, H', rfl, I3.untried hok, ap a h5 h7, ap T h6 h8, h9, w⟩) hs) [] s σ H { nx := N, rt := fun _ _ => False } (I.tried _) h
  refine wpAny_mono z (fun fl s1 q => ?_) fun _ _ q => q
  cases fl with
  | next => obtain ⟨σ1, H1, I1, z⟩ := q; exact ⟨rfl, σ1, H1, I1.untried hok, z⟩
  | ret u => obtain ⟨_, _, _, _, _, z⟩ := q; exact False.elim z
  | brk => obtain ⟨_, _, _, z⟩ := q; exact False.elim z
  | cont => obtain ⟨_, _, _, z⟩ := q; exact False.elim z
theorem try_look (hx : X.ex = []) (hcl : X.env.cells = []) (hst : X.stack = X.env :: X.outer) (hf : X.env.frame = some X.env.locals)
    (I1 : Inv X pins σ1 H1 s1) (apA : Apart X pins H1 a) (apT : Apart X pins H1 T) (tr : Trc s1.heap a T C)
    (k : ∀ g5, Inv X pins σ1 H1 { s1 with heap := g5 } → PySem.W.Looks (model X.prog X.w) g5 (typeOf (.ref a)) C → (∀ (A' : Around) (E' : Value → Shared → Prop) (Q' : Unit → Shared → Prop), (∀ g6, Inv X pins σ1 H1 { s1 with heap := g6 } → (∃ ob, g6.get? a = some ob ∧ ob.cls = C) → Q' () { s1 with heap := g6 }) → wpAny (model X.prog X.w) A' (setFlight (.ref a) none) Q' E' { s1 with heap := g5 }) →
      wpAny (model X.prog X.w) X.A (handleBy (.ref a) X.env hs) Q X.xe { s1 with heap := g5 }) :
    wpAny (model X.prog X.w) X.A (noteFrame (.ref a) X.env) (fun _ s₂ => wpAny (model X.prog X.w) X.A (setFlight (.ref a) none) (fun _ s₃ => wpAny (model X.prog X.w) X.A (handleBy (.ref a) X.env hs) Q X.xe s₃) X.xe s₂) X.xe s1 := by
  obtain ⟨a0, oe, vs, oT, ts, z1, z2, z3, z4, z5, z6, z7, z8⟩ := tr
  have hfl : X.env.locals ∈ frs X.stack := by
    rw [hst]
    exact List.mem_filterMap.mpr ⟨X.env, .head _, hf⟩
  have hin : ∀ env ∈ (X.env :: X.outer), ∀ b, env.frame = some b → b ∈ a :: T :: frs X.stack := fun env z b e => by
    rw [hst]
    exact .tail _ (.tail _ (List.mem_filterMap.mpr ⟨env, z, e⟩))
  have stk := I1.stack
  have fr : ∀ b ∈ frs X.stack, ∃ o, s1.heap.get? b = some o ∧ ∀ vs, o.data ≠ .fields vs := fun b z => (stk.mem z).2
  have turn : ∀ (g : Heap), (PySem.W.hideAll s1.heap (a :: T :: frs X.stack)).StaysIn g → s1.heap.UpToSlots g → Inv X pins σ1 H1 { s1 with heap := g } := fun g st up =>
    I1.caught (t' := s1.toks) hx hcl hfl (bad := [a, T]) (fun b z => by
      rcases List.mem_cons.mp z with e | z
      · rw [e]; exact apA
      · rw [List.mem_singleton.mp z]; exact apT) (fun b o q n1 n2 => st b o (PySem.W.hideAll_get _ q fun z => by
      rcases List.mem_cons.mp z with e | z
      · exact n2 (by rw [e]; exact .head _)
      rcases List.mem_cons.mp z with e | z
      · exact n2 (by rw [e]; exact .tail _ (.head _))
      · exact n1 z)) (fun b o q z => by
      obtain ⟨o2, e2, nd⟩ := fr b z
      rw [q] at e2; cases e2
      exact up b o q nd)
  refine wpAny_looks_onW (base := PySem.W.hideAll s1.heap (a :: T :: frs X.stack)) (by rw [I1.ok.frames, hst]) hf ⟨fun b o q => PySem.W.of_hideAll _ q, PySem.W.hideAll_none _ (.head _), PySem.W.funFrames_hide (by rw [← hst]; exact stk) hin, oe, vs, T, oT, ts, z1, z2, z3, z4, PySem.W.hideAll_none _ (.tail _ (.head _)), z5, z6, z7, z8⟩ fun g4 hd4 up4 => ?_
  refine wpAny_landsW hd4 fun g5 fl5 up5 => ?_
  have up5 := up4.trans up5
  have I5 := turn g5 fl5.1 up5
  have ty : PySem.W.Looks (model X.prog X.w) g5 (typeOf (.ref a)) C := by
    obtain ⟨ob, hob, hc⟩ := fl5.there
    subst hc
    exact (PySem.W.Looks.ld hob).andThen .now
  exact k g5 I5 ty fun A' E' Q' q => lands_againW fl5 fun g6 fl6 up6 => q g6 (turn g6 fl6.1 (up5.trans up6)) fl6.there
def tTryE (cx : Fin 3 → Addr) (i : Nat) (te : XK → TE) (th : Fin 3 → TS) : TS := fun D σ H => te (fun B _ H' => ∃ k : Fin 3, B = .ref (cx k) ∧ ∀ (a : Addr) (σ' : St), H' a = none → σ'.length = σ.length → th k { nx := fun _ _ => False, rt := D.rt } (σ'.set i (some (.ref a))) (upd H' a (excO a (.ref (cx k))))) σ H fun _ H1 => D.nx σ H1
theorem ps_tryE {th : Fin 3 → TS} (hb : ∀ pins xe E, Passes (CXX X.prog X.w) (X.tried pins xe) E → PE (X.tried pins xe) e0 (te E))
    (hgx : Gl X x) (hmx : X.mg x = some c) (hex : ∀ k, PySem.W.exmOne X.K (.ref (cx k)) c = some true) (hN : X.N.Nodup) (hi : X.N[i]? = some n) (hln : X.env.scope.names.lookup n = some .local)
    (hx : X.ex = []) (hcl : X.env.cells = []) (hst : X.stack = X.env :: X.outer) (hf : X.env.frame = some X.env.locals) (hsu : ∀ k a, PSs (X.held a) (b₀ :: suite) (th k)) (hdx : (x == ("__debug__" : Str)) = false := by decide) (hs : swapsWith e0 none epos.line X.env = pure false := by rfl) :
    PS X (.Try [.Expr e0 epos] [.ExceptHandler (some (.Name x np)) (some n) (b₀ :: suite) hpos] [] [] pos) (tTryE cx i te th) := by
  intro pins s σ H D I h
  have hok := I.ok
  refine wpAny_Try_except (wpAny_mono (try_body hx hb I (N := D.nx) h hs) (fun fl s1 q => ?_) fun e1 s1 q => ?_)
  · obtain ⟨rfl, σ1, H1, I1, q⟩ := q
    exact wpAny_execs_nil ⟨σ1, H1, I1, q⟩
  · obtain ⟨a, T, C, σ1, H1, rfl, I1, apA, apT, tr, k, rfl, w⟩ := q
    refine try_look hx hcl hst hf I1 apA apT tr fun g5 I5 ty go => ?_
    refine wpAny_handleBy_cons (codeAny_handlers_test (ld_glob (X := X.held a) (I5.held a) hgx hmx ?_ hdx)) (by intro q; cases q)
    refine (PySem.W.exm_one I5.kIn ty (hex k)).here ?_
    refine codeAny_handlers_suite_as (go _ _ _ fun g6 I6 there => ?_)
    have I6 := I6.track (o := excO a (.ref (cx k))) hx hcl apA ⟨there, (let ⟨ob, hob, _⟩ := there; ⟨ob, hob⟩), fun h1 h2 ⟨ob, q1, q2⟩ k => ⟨ob, k _ q1, q2⟩⟩
    refine store_ok (X := X.held a) (v := V.ref a) (I6.held a) hN hi (.inl hln) rfl (fun s7 I7 => ?_) (.inr hln)
    refine wpAny_mono (hsu k a pins s7 _ _ { nx := fun _ _ => False, rt := D.rt } I7 (w a σ1 apA.1.2 (by rw [I1.len, I.len]))) (fun fl s8 q => ?_) (fun _ _ z => z.elim)
    cases fl with
    | next => obtain ⟨_, _, _, z⟩ := q; exact False.elim z
    | brk => obtain ⟨_, _, _, z⟩ := q; exact False.elim z
    | cont => obtain ⟨_, _, _, z⟩ := q; exact False.elim z
    | ret u =>
      obtain ⟨v, σ8, H8, I8, r8, q8⟩ := q
      obtain ⟨m, hn, _⟩ := I8.loc
      exact wpAny_nameGoes hln hn (by rw [hok.kind]; rfl) fun h' m' hn' sb => ⟨v, _, H8, (I8.unheld hok).forget hn' sb hcl, r8, q8⟩
def tTryH (cx : Fin 3 → Addr) (te : XK → TE) (th : Fin 3 → TS) : TS := fun D σ H => te (fun B _ H' => ∃ k : Fin 3, B = .ref (cx k) ∧ ∀ σ' : St, σ'.length = σ.length → th k { nx := fun _ _ => False, rt := D.rt } σ' H') σ H fun _ H1 => D.nx σ H1
theorem ps_tryH (hb : ∀ pins xe E, Passes (CXX X.prog X.w) (X.tried pins xe) E → PE (X.tried pins xe) e0 (te E))
    (hg0 : Gl X x0) (hm0 : X.mg x0 = some (.ref (cx 0))) (hg1 : Gl X x1) (hm1 : X.mg x1 = some (.ref (cx 1))) (hg2 : Gl X x2) (hm2 : X.mg x2 = some (.ref (cx 2))) (hex : ∀ k j, PySem.W.exmOne X.K (.ref (cx k)) (.ref (cx j)) = some (decide (k = j)))
    (hx : X.ex = []) (hcl : X.env.cells = []) (hst : X.stack = X.env :: X.outer) (hf : X.env.frame = some X.env.locals) (hs0 : ∀ a, PSs (X.held a) (b0 :: s0) t0) (hs1 : ∀ a, PSs (X.held a) (b1 :: s1) t1) (hs2 : ∀ a, PSs (X.held a) (b2 :: s2) t2)
    (hd0 : (x0 == ("__debug__" : Str)) = false := by decide) (hd1 : (x1 == ("__debug__" : Str)) = false := by decide) (hd2 : (x2 == ("__debug__" : Str)) = false := by decide) (hs : swapsWith e0 none epos.line X.env = pure false := by rfl) :
    PS X (.Try [.Expr e0 epos] [.ExceptHandler (some (.Name x0 n0)) none (b0 :: s0) p0, .ExceptHandler (some (.Name x1 n1)) none (b1 :: s1) p1, .ExceptHandler (some (.Name x2 n2)) none (b2 :: s2) p2] [] [] pos) (tTryH cx te fun k => if k = 0 then t0 else if k = 1 then t1 else t2) := by
  intro pins s σ H D I h
  have hok := I.ok
  refine wpAny_Try_except (wpAny_mono (try_body hx hb I (N := D.nx) h hs) (fun fl s1 q => ?_) fun e1 s1 q => ?_)
  · obtain ⟨rfl, σ1, H1, I1, q⟩ := q
    exact wpAny_execs_nil ⟨σ1, H1, I1, q⟩
  · obtain ⟨a, T, C, σ1, H1, rfl, I1, apA, apT, tr, k, rfl, w⟩ := q
    have w : (if k = 0 then t0 else if k = 1 then t1 else t2) { nx := fun _ _ => False, rt := D.rt } σ1 H1 := w σ1 (by rw [I1.len, I.len])
    refine try_look hx hcl hst hf I1 apA apT tr fun g5 I5 ty go => ?_
    have run : ∀ {b₀ : Stmt} {suite : List Stmt} {th : TS} {p : Pos}, (∀ a, PSs (X.held a) (b₀ :: suite) th) → th { nx := fun _ _ => False, rt := D.rt } σ1 H1 → codeAny (model X.prog X.w) (X.A.mark (some (.ref a))) (.handlers (.ref a) [.ExceptHandler none none (b₀ :: suite) p] X.env) (fun r s₂ => match r with
          | .ok f => SP X pins D f s₂
          | .error x => cameBackBy (model X.prog X.w) X.A X.env X.xe x s₂) { s1 with heap := g5 } := fun {b₀ suite th p} hsu w => by
      refine codeAny_handlers_suite (go _ _ _ fun g6 I6 there => ?_)
      refine wpAny_mono (hsu a pins _ _ _ { nx := fun _ _ => False, rt := D.rt } (I6.held a) w) (fun fl s8 q => ?_) (fun _ _ z => z.elim)
      cases fl with
      | next => obtain ⟨_, _, _, z⟩ := q; exact False.elim z
      | brk => obtain ⟨_, _, _, z⟩ := q; exact False.elim z
      | cont => obtain ⟨_, _, _, z⟩ := q; exact False.elim z
      | ret u =>
        obtain ⟨v, σ8, H8, I8, r8, q8⟩ := q
        exact ⟨v, _, H8, I8.unheld hok, r8, q8⟩
    refine wpAny_handleBy_cons (codeAny_handlers_test (ld_glob (X := X.held a) (I5.held a) hg0 hm0 ?_ hd0)) (by intro q; cases q)
    refine (PySem.W.exm_one I5.kIn ty (hex k 0)).here ?_
    by_cases e0 : k = 0
    · rw [decide_eq_true e0]
      rw [if_pos e0] at w
      exact run hs0 w
    rw [decide_eq_false e0]
    rw [if_neg e0] at w
    refine wpAny_handleBy_cons (codeAny_handlers_test (ld_glob (X := X.held a) (I5.held a) hg1 hm1 ?_ hd1)) (by intro q; cases q)
    refine (PySem.W.exm_one I5.kIn ty (hex k 1)).here ?_
    by_cases e1 : k = 1
    · rw [decide_eq_true e1]
      rw [if_pos e1] at w
      exact run hs1 w
    rw [decide_eq_false e1]
    rw [if_neg e1] at w
    refine wpAny_handleBy_cons (codeAny_handlers_test (ld_glob (X := X.held a) (I5.held a) hg2 hm2 ?_ hd2)) (by intro q; cases q)
    refine (PySem.W.exm_one I5.kIn ty (hex k 2)).here ?_
    have e2 : k = 2 := by omega
    rw [decide_eq_true e2]
    exact run hs2 w
end
end L2
namespace Ts
open PySem L2
open PySem.SeqAt (EqAt RcAt RcNeAt)
section
variable {P : Program} {w : World} {mg : Str → Option Value} {base : Heap} {K : PySem.W.Frag} {B : Bs} {sl : List (Slot K)} {md : Md} {t te : TE} {al : Bool} {u tt : TS} {cx : Fin 3 → Addr} {S : Type} {L : S → List (Slot K)} {tj : TJ} {n : Nat} {m2 : Option Unit}
theorem ex_mi (h : Ex B sl md t m) : Ex B sl md t (m.bind fun a => some (Mx.mi a)) := ex_as (fun {F v a b} e r => by cases e; exact r) h
theorem ex_mb (h : Ex B sl md t m) : Ex B sl md t (m.bind fun a => some (Mx.mb a)) := ex_as (fun {F v a b} e r => by cases e; exact r) h
theorem ex_ms (h : Ex B sl md t m) : Ex B sl md t (m.bind fun a => some (Mx.ms a)) := ex_as (fun {F v a b} e r => by cases e; exact r) h
theorem ex_mn : Ex B sl md (tC .non) (some Mx.mn) := fun c hc F O H σ Q s k => by
  cases hc
  exact k _ F H (.refl s.1) rfl
abbrev rNinS : R2 := fun x y H Q => ∃ i j, x = .str i ∧ y = .str j ∧ Q (.bl (!(!(Builtin.Str.occurrences j i 0 j.length 1).isEmpty))) H
theorem ex_ninS {ta tb : TE} {m1 m2 : Option Str} (h1 : Ex B sl .hp ta m1) (h2 : Ex B sl .hp tb m2) : Ex B sl md (tOp rNinS ta tb) (m1.bind fun a => m2.bind fun b => some (!inS a b)) :=
  ex_op (f := fun a b => some (!inS a b)) (fun a b c v w H Q e r1 r2 q => by
    cases e
    cases r1
    cases r2
    exact ⟨a, b, rfl, rfl, q⟩) h1 h2
theorem eo_cutHiG {α : Type} [Rp K α] {m : Option (List α)} (h : Ex B sl md te m) (hi : Ex B sl .hp ti mi) : Eo B sl md (tSl (rSlL K) te tNoPart (tPart ti)) (m.bind fun xs => mi.bind fun i => some (cutL xs none (some i))) := fun c hc F O H σ Q s k => by
  obtain ⟨xs, i, hx, hi', hc⟩ := bind2 hc
  cases hc
  refine h xs hx F O H σ _ s fun v F' H' g r => ?_
  refine hi i hi' F' O H' σ _ (s.grow g) fun u F2 H2 g2 r2 => ?_
  have r2 : u = .int i := r2
  obtain ⟨p, vs, rfl, z1, z2⟩ := r
  exact ⟨i, r2, p, vs, rfl, SqL.of (g2.hh _ _ (reg_leQ g.ok md _ _ z1)), fun l hl => k l _ F2 H2 (g.trans g2) hl ((z2.imp fun _ _ => Rp.mono (reg_mono g2 md)).cut _ _)⟩
def rNil (neg : Bool) : R2 := fun x y H Q => ∃ p q vs, x = .ref p ∧ y = .ref q ∧ H p = some (.lst vs) ∧ H q = some (.lst []) ∧ Q (.bl (if neg = true then !vs.isEmpty else vs.isEmpty)) H
theorem nil_rc {A : Around} (I : Inv X pins σ H s) (hu : A.units < cLine) (h1 : H p = some (.lst vs)) (h2 : H q = some (.lst [])) : RcAt A s (.ref p) (.ref q) vs.isEmpty ∧ RcNeAt A s (.ref p) (.ref q) (!vs.isEmpty) := by
  obtain ⟨us, s1, p1, _⟩ := I.list (SqL.of (K := X.K) h1)
  obtain ⟨us', s2, p2, _⟩ := I.list (SqL.of (K := X.K) h2)
  cases s2
  cases s1 with
  | nil =>
    have z := RcAt.lists (e := fun j => true) p1.isList p2.isList rfl hu (fun j h1 h2 => absurd h1 (Nat.not_lt_zero _))
    have z2 := RcNeAt.lists (e := fun j => true) p1.isList p2.isList rfl hu (fun j h1 h2 => absurd h1 (Nat.not_lt_zero _))
    exact ⟨z, z2⟩
  | cons a b =>
    exact ⟨RcAt.lists_lengths p1.isList p2.isList (by simp) hu, RcNeAt.lists_lengths p1.isList p2.isList (by simp) hu⟩
theorem op_eqN {X : Cx} (hr : Room k X.A) : OpR X (compareOp .Eq) (rNil false) := by
  intro pins s σ H x y v u Q I rx ry h
  obtain ⟨p, q, vs, rfl, rfl, h1, h2, z⟩ := h
  cases rx; cases ry
  exact (nil_rc (A := X.A) I (by have := hr.units; omega) h1 h2).1 _ _ _ _ ⟨.bl vs.isEmpty, H, I, rfl, z⟩
theorem op_neN {X : Cx} (hr : Room k X.A) : OpR X (compareOp .NotEq) (rNil true) := by
  intro pins s σ H x y v u Q I rx ry h
  obtain ⟨p, q, vs, rfl, rfl, h1, h2, z⟩ := h
  cases rx; cases ry
  exact (nil_rc (A := X.A) I (by have := hr.units; omega) h1 h2).2 _ _ _ _ ⟨.bl (!vs.isEmpty), H, I, rfl, z⟩
theorem ex_nilC {α : Type} [Rp K α] {m : Option (List α)} (h1 : Ex B sl .hp t m) : Ex B sl md (tOp (rNil neg) t (tLst tNil)) (m.bind fun a => some (if neg = true then !a.isEmpty else a.isEmpty)) := fun c hc F O H σ Q s k => by
  cases m with
  | none => cases hc
  | some a =>
    cases hc
    refine h1 a rfl F O H σ _ s fun v F' H' g r => ?_
    obtain ⟨p, vs, rfl, z1, z2⟩ := r
    refine ⟨Nat.zero_le _, fun q hq => ?_⟩
    have e : vs.isEmpty = a.isEmpty := by
      have := z2.len
      cases vs <;> cases a <;> simp_all
    have z1 : H' p = some (.lst vs) := z1
    refine ⟨p, q, vs, rfl, rfl, (by rw [upd_ne (ne_of_none z1 hq)]; exact z1), upd_same, ?_⟩
    rw [e]
    exact k _ _ _ (g.trans (Grow.new g.ok hq _)) rfl
noncomputable def fitR (x : Str) (m : Option Unit) : Option Unit := fitS (reprText x) m
theorem ej_reps (h1 : Ex B sl .hp te m) (h : Ej B sl tj n m2) : Ej B sl (jRep te tj) (n + 2000) (m.bind fun x => fitR x m2) := fun e => by
  have z := ej_rep (ex_ms h1) h
  cases m with
  | none => cases e
  | some x => exact z e
theorem sb_raiseM (i : Fin 3) (hC : C = cx i) (h : Ej B sl tj n m) (hn : n ≤ 100000 := by decide) : SB B sl (tSeq (tRaiseM C (tCons (tJ tj) tNil)) u) al (m.bind fun _ => some (Ek.mk i : Ek cx)) := fun b hb G D σ H s k => by
  cases m with
  | none => cases hb
  | some a =>
    cases hb
    exact sx_raise (S := Unit) (L := fun _ => []) i hC h hn _ rfl G D σ H s k
structure CalE (P : Program) (w : World) (K : PySem.W.Frag) (mg : Str → Option Value) (base : Heap) (k : Nat) (x : Str) (ps : List Str) (sp : Sp) : Prop where
  ex : ∃ f fd, FnOk P w K mg base (CXX P w) k f fd ps sp ∧ Binds K fd ps [] ∧ PySem.W.keepIn K (.ref f) = true ∧ mg x = some (.ref f)
structure ErrM (K : PySem.W.Frag) (mg : Str → Option Value) (cx : Fin 3 → Addr) : Prop where
  m0 : mg "NoStand" = some (.ref (cx 0))
  m1 : mg "NoStep" = some (.ref (cx 1))
  m2 : mg "NoMark" = some (.ref (cx 2))
  o : ∀ i, ExcK K (cx i)
end
section
variable {X : Cx} {E : XK}
theorem psm_cal {pos : Pos} (c : CalE X.prog X.w X.K X.mg X.base k x ps sp) (hr : Room k X.A) (hx : Passes (CXX X.prog X.w) X E) (ha : PA X (e :: es) t) (hg : Gl X x := by rfl) (hdb : (x == ("__debug__" : Str)) = false := by decide)
    (he : starEach (e :: es) X.env = (false, eval e X.env) :: starEach es X.env := by rfl) (hpl : (backTo cpos (starEach es X.env)).any (·.1) = false := by rfl) (hs : swapsWith (.Call (.Name x p) (e :: es) [] cpos) none pos.line X.env = pure false := by rfl) : PSm X E (.Expr (.Call (.Name x p) (e :: es) [] cpos) pos) (tDropM sp t) := by
  obtain ⟨f, fd, h1, h2, h3, h4⟩ := c.ex
  exact psm_call h1 hr hg h4 h3 h2 hx ha hdb he hpl hs
end
end Ts
namespace L2
open PySem PySem.Spec PyProof.Rows
section
variable {X : Cx}
theorem vals_bl : ∀ {bs : List Bool} {us : List Value}, Vals (bs.map V.bl) us → us = bs.map Value.bool
  | [], _, h => by cases h; rfl
  | b :: bs, _, h => by
    cases h with
    | cons r h => rw [vals_bl h, show _ = Value.bool b from r]; rfl
def isT : Value → Bool
  | .bool b => b
  | _ => false
def rCntB : V → List V → Hp → VK → Prop := fun x vs H Q => ∃ l, ∃ bs : List Bool, x = .ref l ∧ vs = [.bl true] ∧ H l = some (.lst (bs.map V.bl)) ∧ Q (.int (bs.countP id : Nat)) H
theorem eqT {bs : List Bool} : ∀ y, y ∈ (bs.map Value.bool).toArray → PySem.SeqAt.EqAt A s y (.bool true) (isT y) := fun y hy => by
  rw [List.mem_toArray, List.mem_map] at hy
  obtain ⟨b, _, rfl⟩ := hy
  have z := PySem.SeqAt.EqAt.bool_bool (A := A) (s := s) b true
  cases b <;> exact z
theorem mt_countB : MtM X "list.count" rCntB := by
  intro pins s σ H x vs v us Q I rx rv h
  obtain ⟨l, bs, rfl, rfl, hH, q⟩ := h
  cases rx
  obtain ⟨u, rfl, ru⟩ := rv.one
  have ru : u = .bool true := ru
  subst ru
  obtain ⟨z, its, n, r, hl, e⟩ := I.lstM hH
  obtain rfl := vals_bl r
  refine call_meets F.slot_list_count ⟨_, e, rfl⟩ F.entry_list_count (F.args_list_count_2 _ _) (PySem.SeqAt.list_countAt l _ n none #[] (.bool true) isT) ⟨e, eqT, ?_⟩
  have ec : (bs.map Value.bool).toArray.toList.countP isT = bs.countP id := by
    rw [List.countP_map]
    rfl
  rw [ec]
  exact ⟨.int _, H, I.tok _, ⟨_, rfl⟩, q⟩
def rIxB : V → List V → Hp → VK → Prop := fun x vs H Q => ∃ l, ∃ bs : List Bool, ∃ j : Nat, x = .ref l ∧ vs = [.bl true] ∧ H l = some (.lst (bs.map V.bl)) ∧ j < 1000 ∧ bs[j]? = some true ∧ (∀ m, m < j → bs[m]? = some false) ∧ Q (.int j) H
theorem mt_indexB : MtM X "list.index" rIxB := by
  intro pins s σ H x vs v us Q I rx rv h
  obtain ⟨l, bs, j, rfl, rfl, hH, hj, h1, h2, q⟩ := h
  cases rx
  obtain ⟨u, rfl, ru⟩ := rv.one
  have ru : u = .bool true := ru
  subst ru
  obtain ⟨z, its, n, r, hl, e⟩ := I.lstM hH
  obtain rfl := vals_bl r
  have lt : ∀ {m : Nat} {b : Bool}, bs[m]? = some b → ∀ hm : m < (bs.map Value.bool).toArray.size, isT (bs.map Value.bool).toArray[m] = b := fun {m b} e hm => by
    have z : (bs.map Value.bool)[m]? = some (Value.bool b) := by rw [List.getElem?_map, e]; rfl
    rw [List.getElem_toArray]
    rw [List.getElem?_eq_getElem (by simpa using hm)] at z
    rw [Option.some.inj z]
    rfl
  have hsz : j < (bs.map Value.bool).toArray.size := by
    rw [List.size_toArray, List.length_map]
    exact (List.getElem?_eq_some_iff.mp h1).1
  refine call_meets F.slot_list_index ⟨_, e, rfl⟩ F.entry_list_index (F.args_list_index_2 _ _) (PySem.SeqAt.list_indexAt l _ n none #[] (.bool true) isT j hsz (by omega) (lt h1 hsz) (fun m hm hlt => lt (h2 m hlt) hm)) ⟨e, eqT, ?_⟩
  exact ⟨.int _, H, I.tok _, ⟨_, rfl⟩, q⟩
end
end L2
namespace Ts
open PySem L2
abbrev MkR := Addr × Str × Addr × List V
def mkO (b : Addr) (ms : List MkR) : Own := (b, .lst (ms.map fun m => V.ref m.1)) :: (ms.map (fun m => (m.1, HO.tup [.str m.2.1, .ref m.2.2.1])) ++ ms.map fun m => (m.2.2.1, HO.lst m.2.2.2))
structure Mks where
  ms : List (Str × List Int)
def MkOk : List MkR → List (Str × List Int) → Prop := A2 fun m x => m.2.1 = x.1 ∧ m.2.2.2 = x.2.map V.int
section
variable {K : PySem.W.Frag}
theorem ints_rp {F : Hp} (xs : List Int) : A2 (rp K F) (xs.map V.int) xs := A2.of_map (R := rp K F) (f := V.int) (fun y => (rfl : rp K F (V.int y) y)) xs
theorem mk_refs {F : Hp} : ∀ {ms : List MkR} {xs : List (Str × List Int)}, MkOk ms xs → (∀ m ∈ ms, F m.1 = some (.tup [.str m.2.1, .ref m.2.2.1]) ∧ F m.2.2.1 = some (.lst m.2.2.2)) → A2 (rp K F) (ms.map fun m => V.ref m.1) xs
  | [], [], _, _ => trivial
  | m :: ms, x :: xs, h, k => by
    obtain ⟨k1, k2⟩ := k m List.mem_cons_self
    refine ⟨⟨m.1, _, _, rfl, k1, congrArg V.str h.1.1, m.2.2.1, _, rfl, k2, ?_⟩, mk_refs h.2 fun q hq => k q (List.mem_cons_of_mem _ hq)⟩
    rw [h.1.2]
    exact ints_rp _
  | [], _ :: _, h, _ => h.elim
  | _ :: _, [], h, _ => h.elim
theorem mk_in1 {b : Addr} {ms : List MkR} {m : MkR} (h : m ∈ ms) : (m.1, HO.tup [.str m.2.1, .ref m.2.2.1]) ∈ mkO b ms := List.mem_cons_of_mem _ (List.mem_append_left _ (List.mem_map.mpr ⟨m, h, rfl⟩))
theorem mk_in2 {b : Addr} {ms : List MkR} {m : MkR} (h : m ∈ ms) : (m.2.2.1, HO.lst m.2.2.2) ∈ mkO b ms := List.mem_cons_of_mem _ (List.mem_append_right _ (List.mem_map.mpr ⟨m, h, rfl⟩))
instance : Ob K Mks where
  β := List (Str × List Int)
  rpβ := inferInstance
  ro _ v x Oc := ∃ b ms, v = .ref b ∧ Oc = mkO b ms ∧ MkOk ms x.ms
  mono _ h := h
  val x := x.ms
  frz := fun ⟨b, ms, h1, h2, h3⟩ m => by
    subst h2
    exact ⟨b, _, h1, m _ List.mem_cons_self, mk_refs h3 fun q hq => ⟨m _ (mk_in1 hq), m _ (mk_in2 hq)⟩⟩
theorem mk_mem {b : Addr} {ms : List MkR} {y : Addr × HO} (h : y ∈ mkO b ms) : y = (b, .lst (ms.map fun m => V.ref m.1)) ∨ (∃ m ∈ ms, y = (m.1, HO.tup [.str m.2.1, .ref m.2.2.1])) ∨ ∃ m ∈ ms, y = (m.2.2.1, HO.lst m.2.2.2) := by
  rcases List.mem_cons.mp h with e | h
  · exact .inl e
  · rcases List.mem_append.mp h with h | h
    · obtain ⟨m, hm, e⟩ := List.mem_map.mp h
      exact .inr (.inl ⟨m, hm, e.symm⟩)
    · obtain ⟨m, hm, e⟩ := List.mem_map.mp h
      exact .inr (.inr ⟨m, hm, e.symm⟩)
theorem mk_map (b : Addr) (ms : List MkR) : (mkO b ms).map (·.1) = b :: (ms.map (·.1) ++ ms.map (·.2.2.1)) := by
  unfold mkO
  rw [List.map_cons, List.map_append, List.map_map, List.map_map]
  rfl
end
section
variable {K : PySem.W.Frag} {B : Bs} {sl sl2 : List (Slot K)} {F H G : Hp} {O : Own} {σ : St} {md : Md} {te t1 t2 t3 : TE} {t u : TS} {al : Bool}
theorem sn_mkNil {s : Slot K} (i : Nat) (hs : sl[i]? = some s) (ho : isOw s = false) : Sn B sl (tAsg (tLst tNil) (gName i)) (fun x : Mks => sl.set i (.ob true x)) (some (Mks.mk [])) := fun a ha G D σ H s k => by
  cases ha
  obtain ⟨F, O, g, k0, z0⟩ := s
  refine ⟨Nat.zero_le _, fun p hp => k _ _ ?_⟩
  obtain ⟨O1, O2, rfl, z'⟩ := z0.own (s' := .ob true (Mks.mk [])) (x := some (.ref p)) (c := (p, .lst [])) (fun _ _ _ z => SlotsOk.ob (Oc := mkO p []) (show ∃ (q : Addr) (ms : List MkR), V.ref p = .ref q ∧ mkO p [] = mkO q ms ∧ MkOk ms [] from ⟨p, [], rfl, rfl, trivial⟩) z) hs ho
  exact ⟨F, _, g, k0.add hp, z'.mono (.refl _) (lo_add hp) (same_new hp _)⟩
noncomputable def mksAdd (x : Mks) (n : Str) (ys : List Int) : Option Mks := if x.ms.length < cap then some (Mks.mk (x.ms ++ [(n, ys)])) else none
theorem sn_mkApp {n : Bool} {x : Mks} {m1 : Option Str} {m : Option (List Int)} (i : Nat) (hs : sl[i]? = some (.ob n x)) (hh : sl.all (fun s => !isHs s) = true) (h1 : Ex B sl .hp t1 m1) (h : Eo B sl .hp te m) :
    Sn B sl (tDrop (tBM K "list" rAppend (tVar i) (tCons (tTup (tCons t1 (tCons te tNil))) tNil))) (fun a => sl.set i (.ob n a)) (m1.bind fun w => m.bind fun ys => mksAdd x w ys) := fun c hc G D σ H s k => by
  obtain ⟨w, ys, e1, e2, hc⟩ := bind2 hc
  unfold mksAdd at hc
  split at hc
  case isFalse => cases hc
  rename_i hl
  cases hc
  obtain ⟨F, O, g, z⟩ := s
  obtain ⟨Oc, v, h1', ⟨p, ms, rfl, rfl, h2⟩, c1, _⟩ := z.setC hs hh
  refine ⟨_, h1', .inl ⟨rfl, _, SqL.of (c1 _ List.mem_cons_self).1⟩, h1 w e1 F O H σ _ z fun v1 F1 H1 g1 r1 => ?_⟩
  have r1 : v1 = .str w := r1
  subst r1
  refine h ys e2 F1 O H1 σ _ (z.grow g1) fun q vs F' H' gr hq r => ?_
  have rv : vs = ys.map V.int := r.vals
  subst rv
  refine ⟨by show 2 ≤ sizeLine; decide, fun t ht => ?_⟩
  have z1 := (z.grow g1).grow gr
  obtain ⟨Oc2, v2, h1'', ⟨p2, ms2, rfl, rfl, h2'⟩, c2, nd, _, up⟩ := z1.setC hs hh
  cases h1'.symm.trans h1''
  have hp := (c2 _ List.mem_cons_self).1
  have tq : t ≠ q := fun e => by rw [e, upd_same] at ht; cases ht
  have ht' : H' t = none := by rw [upd_ne tq] at ht; exact ht
  have old : ∀ y ∈ mkO p ms2, y.1 ≠ q ∧ y.1 ≠ t := fun y hy => ⟨fun e => (by have := (c2 y hy).1; rw [e, hq] at this; cases this), fun e => (by have := (c2 y hy).1; rw [e, ht'] at this; cases this)⟩
  have pq := old _ List.mem_cons_self
  have len : ms2.length = x.ms.length := A2.len h2'
  refine ⟨p, _, .ref t, rfl, rfl, by rw [upd_ne pq.2, upd_ne pq.1]; exact hp, cap_lt (by rw [List.length_map, len]; exact hl), ?_⟩
  have bnd : ∀ y ∈ mkO p ms2, y.1 ≠ p → upd (upd (upd H' q (.lst (ys.map V.int))) t (.tup [.str w, .ref q])) p (.lst (ms2.map (fun m => V.ref m.1) ++ [.ref t])) y.1 = some y.2 := fun y hy hn => by
    rw [upd_ne hn, upd_ne (old y hy).2, upd_ne (old y hy).1]
    exact (c2 y hy).1
  have nd0 := nd
  rw [mk_map, List.nodup_cons] at nd0
  have offp : ∀ m ∈ ms2, m.1 ≠ p ∧ m.2.2.1 ≠ p := fun m hm => ⟨fun e => nd0.1 (List.mem_append_left _ (List.mem_map.mpr ⟨m, hm, e⟩)), fun e => nd0.1 (List.mem_append_right _ (List.mem_map.mpr ⟨m, hm, e⟩))⟩
  have cells : ∀ y ∈ mkO p (ms2 ++ [(t, w, q, ys.map V.int)]), upd (upd (upd H' q (.lst (ys.map V.int))) t (.tup [.str w, .ref q])) p (.lst (ms2.map (fun m => V.ref m.1) ++ [.ref t])) y.1 = some y.2 ∧ ((∃ w ∈ mkO p ms2, w.1 = y.1) ∨ H' y.1 = none) := fun y hy => by
    rcases mk_mem hy with e | ⟨m, hm, e⟩ | ⟨m, hm, e⟩
    · subst e
      exact ⟨by rw [upd_same, List.map_append]; rfl, .inl ⟨_, List.mem_cons_self, rfl⟩⟩
    · subst e
      rcases List.mem_append.mp hm with hm | hm
      · exact ⟨bnd _ (mk_in1 hm) (offp m hm).1, .inl ⟨_, mk_in1 hm, rfl⟩⟩
      · obtain rfl := List.mem_singleton.mp hm
        exact ⟨by show upd _ _ _ t = _; rw [upd_ne pq.2.symm, upd_same], .inr ht'⟩
    · subst e
      rcases List.mem_append.mp hm with hm | hm
      · exact ⟨bnd _ (mk_in2 hm) (offp m hm).2, .inl ⟨_, mk_in2 hm, rfl⟩⟩
      · obtain rfl := List.mem_singleton.mp hm
        exact ⟨by show upd _ _ _ q = _; rw [upd_ne pq.1.symm, upd_ne tq.symm, upd_same], .inr hq⟩
  have nd' : ((mkO p (ms2 ++ [(t, w, q, ys.map V.int)])).map (·.1)).Nodup := by
    have oldA : ∀ a, a ∈ p :: (ms2.map (·.1) ++ ms2.map (·.2.2.1)) → a ≠ q ∧ a ≠ t := fun a ha => by
      rw [← mk_map] at ha
      obtain ⟨y, hy, rfl⟩ := List.mem_map.mp ha
      exact old y hy
    rw [mk_map] at nd ⊢
    rw [List.map_append, List.map_append]
    have e : (p :: ((ms2.map (·.1) ++ [t]) ++ (ms2.map (·.2.2.1) ++ [q]))).Perm (t :: q :: p :: (ms2.map (·.1) ++ ms2.map (·.2.2.1))) := by
      have a1 : ((ms2.map (·.1) ++ [t]) ++ (ms2.map (·.2.2.1) ++ [q])).Perm (t :: q :: (ms2.map (·.1) ++ ms2.map (·.2.2.1))) := by
        rw [List.append_assoc, List.singleton_append]
        refine List.perm_middle.trans (.cons _ ?_)
        rw [← List.append_assoc]
        exact List.perm_append_singleton _ _
      exact (a1.cons p).trans ((List.Perm.swap t p _).trans (.cons _ (List.Perm.swap q p _)))
    rw [show ([(t, w, q, ys.map V.int)] : List MkR).map (·.1) = [t] from rfl, show ([(t, w, q, ys.map V.int)] : List MkR).map (·.2.2.1) = [q] from rfl, e.nodup_iff]
    refine List.nodup_cons.mpr ⟨fun z => ?_, List.nodup_cons.mpr ⟨fun z => (oldA _ z).1 rfl, nd⟩⟩
    rcases List.mem_cons.mp z with e | z
    · exact tq e
    · exact (oldA _ z).2 rfl
  obtain ⟨O', z'⟩ := up (Mks.mk (x.ms ++ [(w, ys)])) (mkO p (ms2 ++ [(t, w, q, ys.map V.int)])) _ ⟨p, _, rfl, rfl, A2.snoc h2' ⟨rfl, rfl⟩⟩ nd' (fun b u e off => by
    have hb : b ≠ p := fun e2 => off _ List.mem_cons_self e2.symm
    rw [upd_ne hb, upd_ne (fun e2 => (by rw [e2, ht'] at e; cases e)), upd_ne (fun e2 => (by rw [e2, hq] at e; cases e))]
    exact e) cells
  exact k _ _ ⟨F', O', g.trans (g1.ff.trans gr.ff), z'⟩
end
end Ts
namespace Ts
open PySem L2
section
variable {K : PySem.W.Frag} {B : Bs} {sl : List (Slot K)} {te : TE}
noncomputable def frowM (n : Int) (xs : List Int) : Option (Rws Int) := if 0 < n ∧ xs.length ≤ 900 then some (Rws.mk (xs.map fun x => [x % n])) else none
def zrs (n : Int) (ps : List Addr) (xs : List Int) : Rr := List.zipWith (fun q x => (q, [V.int (x % n)])) ps xs
theorem zrs_fst {n : Int} {R : Addr → Int → Prop} : ∀ {ps : List Addr} {xs : List Int}, A2 R ps xs → (zrs n ps xs).map (·.1) = ps
  | [], [], _ => rfl
  | p :: ps, x :: xs, h => congrArg (p :: ·) (zrs_fst h.2)
  | [], _ :: _, h => h.elim
  | _ :: _, [], h => h.elim
theorem zrs_ok {n : Int} {R : Addr → Int → Prop} {F : Hp} : ∀ {ps : List Addr} {xs : List Int}, A2 R ps xs → RrOk K F (zrs n ps xs) (xs.map fun x => [x % n])
  | [], [], _ => trivial
  | p :: ps, x :: xs, h => ⟨⟨rfl, trivial⟩, zrs_ok h.2⟩
  | [], _ :: _, h => h.elim
  | _ :: _, [], h => h.elim
theorem zrs_mem {n : Int} {R : Addr → Int → Prop} : ∀ {ps : List Addr} {xs : List Int}, A2 R ps xs → ∀ r ∈ zrs n ps xs, ∃ x, R r.1 x ∧ r.2 = [V.int (x % n)]
  | [], [], _, r, hr => by cases hr
  | p :: ps, x :: xs, h, r, hr => by
    rcases List.mem_cons.mp hr with e | hr
    · subst e; exact ⟨x, h.1, rfl⟩
    · exact zrs_mem h.2 r hr
  | [], _ :: _, h, _, _ => h.elim
  | _ :: _, [], h, _, _ => h.elim
theorem A2.memL {α β : Type} {R : α → β → Prop} : ∀ {xs : List α} {ys : List β}, A2 R xs ys → ∀ x ∈ xs, ∃ y, R x y
  | [], [], _, x, hx => by cases hx
  | a :: xs, b :: ys, h, x, hx => by
    rcases List.mem_cons.mp hx with e | hx
    · subst e; exact ⟨b, h.1⟩
    · exact A2.memL h.2 x hx
  | [], _ :: _, h, _, _ => h.elim
  | _ :: _, [], h, _, _ => h.elim
theorem en_fair {b : Bool} {n : Int} {m : Option (List Int)} (j : Nat) (hs : sl[j]? = some (.fz b n)) (h : Ex B sl .hp te m) :
    En B sl (tComp 1 [j] (iList K te) (gName 0) tIf0 (tLst (tCons (tOp (rI (fun _ j => 0 < j) fun i j => .int (i % j)) (tVar 0) (tVar 1)) tNil))) (m.bind fun xs => frowM n xs) := fun d hd F O H σ Q s kk => by
  cases m with
  | none => cases hd
  | some xs =>
    have hd : frowM n xs = some d := hd
    unfold frowM at hd
    split at hd
    case isFalse => cases hd
    rename_i hl
    cases hd
    refine h xs rfl F O H σ _ s fun v F1 H1 g r => ?_
    obtain ⟨p, vs, rfl, z1, z2⟩ := r
    have z1 : H1 p = some (.lst vs) := z1
    have vl := z2.len
    have ve : vs = xs.map V.int := z2.vals
    subst ve
    obtain ⟨w, y1, y2⟩ := (s.grow g).2.fz_at hs
    have y2 : w = .int n := y2
    subst y2
    refine ⟨p, rfl, ⟨_, SqL.of z1⟩, comp_list (K := K) (a := p) (xs := xs.map V.int) (fun i ys σ2 H2 => (∃ w0, σ2 = [w0, some (.int n)]) ∧ ∃ (ps : List Addr), ys = ps.map V.ref ∧ ps.length = i ∧ ps.Nodup ∧ Same H1 H2 ∧ A2 (fun q x => H1 q = none ∧ H2 q = some (.lst [.int (x % n)])) ps (xs.take i)) ⟨⟨none, by unfold σIn; simp [y1]⟩, [], rfl, rfl, .nil, .refl _, trivial⟩
      (fun i ys σ2 H2 hi ⟨_, ps, e1, e2, _, s2, _⟩ => ⟨s2.seq (SqL.of z1), by rw [e1, List.length_map, e2]; exact Nat.le_refl _⟩) (Nat.lt_of_le_of_lt (show (xs.map V.int).length ≤ 900 by rw [List.length_map]; exact hl.2) (by decide)) ?_ ?_⟩
    · rintro i x ys σ2 H2 hi ⟨⟨w0, rfl⟩, ps, rfl, rfl, nd, s2, hq⟩
      rw [List.getElem?_map] at hi
      obtain ⟨x, hx, rfl⟩ := Option.map_eq_some_iff.mp hi
      refine ⟨_, rfl, _, rfl, x, n, rfl, rfl, hl.1, by show 1 ≤ sizeLine; decide, fun l hn => ⟨⟨_, rfl⟩, ps ++ [l], by rw [List.map_append]; rfl, by rw [List.length_append]; rfl, ?_, s2.trans (same_new hn _), ?_⟩⟩
      · rw [List.nodup_append]
        refine ⟨nd, by simp, fun a ha b hb e => ?_⟩
        rw [List.mem_singleton.mp hb] at e
        obtain ⟨y, _, hy⟩ := A2.memL hq a ha
        rw [← e, hy] at hn
        cases hn
      · rw [List.take_add_one, hx]
        exact A2.app (hq.imp fun q y ⟨a1, a2⟩ => ⟨a1, same_new hn _ _ _ a2⟩) ⟨⟨s2.free hn, upd_same⟩, trivial⟩
    · rintro ys σ2 H2 ⟨_, ps, rfl, e2, nd, s2, hq⟩ l hn
      rw [List.take_of_length_le (by simp)] at hq
      refine kk _ F1 H1 _ g (s2.trans (same_new hn _)) ⟨l, zrs n ps xs, rfl, fun y hy => ?_, ?_, zrs_ok hq⟩
      · rcases List.mem_cons.mp hy with e | hy
        · rw [e]
          show dif _ _ l = _
          rw [dif_at (s2.free hn), upd_same]
          have e0 : ps.map V.ref = (zrs n ps xs).map fun r => V.ref r.1 := by
            have := congrArg (List.map V.ref) (zrs_fst (n := n) hq)
            rw [List.map_map] at this
            exact this.symm
          exact congrArg (fun l => some (HO.lst l)) e0
        · obtain ⟨r, hr, rfl⟩ := List.mem_map.mp hy
          obtain ⟨x, ⟨a1, a2⟩, e⟩ := zrs_mem hq r hr
          show dif _ _ r.1 = _
          rw [dif_at a1, e]
          exact same_new hn _ _ _ a2
      · rw [rr_map, zrs_fst hq]
        refine List.nodup_cons.mpr ⟨fun z => ?_, nd⟩
        obtain ⟨y, _, hy⟩ := A2.memL hq l z
        rw [hy] at hn
        cases hn
end
end Ts
namespace Ts
open PySem L2
def top (i : Nat) : Stmt := PySem.Challenge.pw_treesay_k03_machines_refused.main.body.getD i (.Pass ⟨0, 0, 0, 0⟩)
abbrev s_is_stand : Stmt := top 13
abbrev s_check_stands : Stmt := top 14
abbrev s_check_steps : Stmt := top 15
abbrev s_is_name : Stmt := top 16
abbrev s_check_marks : Stmt := top 17
abbrev s_check_fair : Stmt := top 18
abbrev s_copied : Stmt := top 19
abbrev sSources : Stmt := top 20
abbrev sInit : Stmt := inClass (top 21) 0
abbrev s_l_cell : Stmt := top 23
abbrev s_l_bad_name : Stmt := top 24
abbrev s_l_bad_number : Stmt := top 25
abbrev s_l_spoil : Stmt := top 26
abbrev s_l_named : Stmt := top 27
abbrev s_l_stands : Stmt := top 28
abbrev s_l_due : Stmt := top 29
abbrev s_l_got : Stmt := top 30
abbrev s_l_caught : Stmt := top 31
abbrev s_law : Stmt := top 32
end Ts
namespace Ts
open PySem L2
section
variable {P : Program} {w : World} {K : PySem.W.Frag} {mg : Str → Option Value} {base : Heap}
def spSo (K : PySem.W.Frag) : Sp := fun vs H Q _ => ∃ (a : Addr) (bs : List Addr) (xss : List (List Int)), vs = [.ref a] ∧ SqL K H a (bs.map V.ref) ∧ RowsR K H bs xss ∧ xss.length ≤ 60 ∧ Valid xss.length xss ∧
  ∀ (r : Addr) (cs : List Addr) (H' : Hp), Same H H' → H r = none → H' r = some (.lst (cs.map V.ref)) → cs.length = xss.length → RowF H' cs (src xss) → (∀ c ∈ cs, H c = none) → Q (.ref r) H'
theorem scSo : FnScope ["steps", "sources", "stand", "targets", "target"] ["steps"] (defScope sSources) := ⟨rfl, rfl, rfl, by decide +kernel, rfl, by decide +kernel, by decide +kernel⟩
theorem ndSd : (["stand"] : List Str).Nodup := by decide +kernel
theorem nd_inj {cs : List Addr} (nd : cs.Nodup) {i j : Nat} {c : Addr} (h1 : cs[i]? = some c) (h2 : cs[j]? = some c) : i = j := by
  obtain ⟨k1, e1⟩ := List.getElem?_eq_some_iff.mp h1
  obtain ⟨k2, e2⟩ := List.getElem?_eq_some_iff.mp h2
  exact (List.getElem_inj nd).mp (e1.trans e2.symm)
theorem RowF.put {row' : Nat → List Int} (r : RowF H cs row) (nd : cs.Nodup) (hc : cs[j]? = some c) (e : row' j = xs) (e' : ∀ k, k ≠ j → row' k = row k) : RowF (upd H c (.lst (xs.map V.int))) cs row' := fun k d hd => by
  by_cases hk : k = j
  · subst hk
    rw [hc] at hd
    cases hd
    rw [upd_same, e]
  · rw [upd_ne (fun z => hk (nd_inj nd hd (by rw [z]; exact hc))), e' k hk]
    exact r k d hd
theorem ok_so (F : Fun K "sources_of" "sources_of" sSources f fd) (B : Bl K mg) : FnOk P w K mg base CX0 1 f fd ["steps"] (spSo K) := by
  refine F.ok scSo (fun vs H Q E h => ?_) (fun cdv A outer s H vs Q E hr h => ?_)
  · obtain ⟨a, bs, xss, rfl, _⟩ := h
    rfl
  obtain ⟨a, bs, xss, rfl, hS, hR, h60, hV, q⟩ := h
  have hbl : (bs.map V.ref).length = xss.length := by rw [List.length_map]; exact hR.1
  refine ⟨_, pss_cons (ps_comp (i := 1) (own := ["stand"]) (ix := []) scSo.nd rfl rfl rfl rfl rfl (pi_list (pv 0)) (fun C s H fp => pg_name (i := 0) ndSd rfl (Or.inl rfl)) (fun C s H fp => pif_nil) (fun C s H fp => pe_lst pa_nil))
    (pss_cons (ps_for PassesOwn.never rfl (pi_enum rfl B.enum (pa_cons (pv 0) pa_nil)) (pg_tup rfl (pgs_cons (pg_name (i := 2) scSo.nd rfl (Or.inl rfl)) (pgs_cons (pg_name (i := 3) scSo.nd rfl (Or.inl rfl)) pgs_nil)))
      (pss_one (ps_for PassesOwn.never rfl (pi_list (pv 3)) (pg_name (i := 4) scSo.nd rfl (Or.inl rfl))
        (pss_one (ps_expr (pe_bm PySem.F.plainAttrs_list PySem.F.slot_list_append PySem.F.type_list_append mt_append (pe_ix ix_list (pv 1) (pv 4) (fun _ _ => rfl)) (pa_cons (pv 2) pa_nil)))))))
    (pss_one (ps_ret (pv 1)))), ?_⟩
  refine ⟨_, rfl, a, rfl, ⟨_, hS⟩, comp_list (K := K) (a := a) (xs := bs.map V.ref) (fun i ys σ H2 => ∃ (cs : List Addr) (v : Option V), ys = cs.map V.ref ∧ σ = [v] ∧ Same H H2 ∧ News H H2 cs (List.replicate i []) ∧ cs.length = i)
    ⟨[], none, rfl, rfl, Same.refl H, News.nil, rfl⟩ (fun i ys σ H2 _ ⟨cs, v, e, _, s2, _, hi⟩ => ⟨s2.seq hS, by rw [e, List.length_map, hi]; exact Nat.le_refl _⟩) (small1000 (by omega)) ?_ ?_⟩
  · rintro i y ys σ H2 hi ⟨cs, v, rfl, rfl, s2, hN, hci⟩
    refine name_if0 ?_
    refine ⟨(by show 0 ≤ sizeLine; decide), fun l hl' => ?_⟩
    refine ⟨cs ++ [l], _, by rw [List.map_append] <;> rfl, rfl, s2.trans (same_new hl' _), ?_, by rw [List.length_append, hci] <;> rfl⟩
    have e : List.replicate (i + 1) ([] : List V) = List.replicate i [] ++ [[]] := List.replicate_succ'
    rw [e]
    exact hN.snoc s2 hl'
  rintro ys σ H2 ⟨cs, v, rfl, rfl, s2, hN, hci⟩ r hr0
  have hcl : cs.length = xss.length := by rw [hci, hbl]
  have s3 : Same H (upd H2 r (.lst (cs.map V.ref))) := s2.trans (same_new hr0 _)
  have hrH : H r = none := s2.free hr0
  have nrc : r ∉ cs := hN.notin hr0
  have R0 : RowF (upd H2 r (.lst (cs.map V.ref))) cs (src (xss.take 0)) := fun j c hc => by
    obtain ⟨xs, h1, h2⟩ := hN.at_ j c hc
    have e : xs = [] := by
      rw [List.getElem?_replicate] at h1
      split at h1
      · exact (Option.some.inj h1).symm
      · cases h1
    subst e
    rw [upd_ne (fun z => nrc (by rw [← z]; exact List.mem_of_getElem? hc)), h2]
    rfl
  refine ⟨_, rfl, a, rfl, ⟨_, s3.seq hS⟩, for_enum (K := K) (a := a) (xs := bs.map V.ref) (fun i σ H4 => ∃ u v t, σ = [some (.ref a), some (.ref r), u, v, t] ∧ Same H H4 ∧ H4 r = some (.lst (cs.map V.ref)) ∧ RowF H4 cs (src (xss.take i)))
    ⟨none, none, none, rfl, s3, upd_same, R0⟩ (fun i σ H4 _ ⟨_, _, _, _, s4, _⟩ => s4.seq hS) ?_ ?_⟩
  · rintro i x t σ H4 hi ht ⟨u, v, t', rfl, s4, hr4, R4⟩
    obtain ⟨b, rfl, hb⟩ := ref_at hi
    obtain ⟨xs, hx, hsq⟩ := hR.2 i b hb
    obtain ⟨ne, nd, len, vr⟩ := hV.2 xs (List.mem_of_getElem? hx)
    have il := lt_of_at hx
    have st : Same H4 (upd H4 t (.tup [.int i, .ref b])) := same_new ht _
    have s5 := s4.trans st
    refine ⟨t, _, rfl, SqT.of upd_same, rfl, _, _, rfl, _, _, rfl, rfl, ?_⟩
    refine ⟨_, rfl, b, rfl, ⟨_, s5.seq hsq⟩, for_list (K := K) (a := b) (xs := xs.map V.int) (fun m σ H6 => ∃ tt, σ = [some (.ref a), some (.ref r), some (.int i), some (.ref b), tt] ∧ Same H H6 ∧ H6 r = some (.lst (cs.map V.ref)) ∧
      RowF H6 cs fun j => src (xss.take i) j ++ (if (j : Int) ∈ xs.take m then [(i : Int)] else [])) ⟨t', rfl, s5, st _ _ hr4, fun j c hc => ?_⟩ (fun m σ H6 _ ⟨_, _, s6, _⟩ => s6.seq hsq) ?_ ?_⟩
    · rw [st _ _ (R4 j c hc)]
      simp
    · rintro m y σ H6 hm ⟨tt, rfl, s6, hr6, R6⟩
      obtain ⟨z, rfl, hz⟩ := int_at hm
      obtain ⟨z0, z1⟩ := vr z (List.mem_of_getElem? hz)
      have zl : z.toNat < cs.length := by rw [hcl]; omega
      have hc : cs[z.toNat]? = some cs[z.toNat] := List.getElem?_eq_getElem zl
      have hz' : ((z.toNat : Nat) : Int) = z := by omega
      have hrow := R6 z.toNat _ hc
      have hno : ¬ z ∈ xs.take m := notin_take nd hz
      simp only [hz', if_neg hno, List.append_nil] at hrow
      have hix : atI (cs.map V.ref) z = some (.ref cs[z.toNat]) := by
        have := atI_nat (ref_get hc)
        rw [hz'] at this
        exact this
      refine ⟨_, rfl, _, rfl, r, _, z, _, rfl, rfl, SqL.of hr6, hix, .inl ⟨rfl, _, SqL.of hrow⟩, _, rfl, _, _, _, rfl, rfl, hrow, ?_, ?_⟩
      · have := src_len (xss.take i) z.toNat
        rw [List.length_take] at this
        refine small1000 ?_
        rw [List.length_map]
        omega
      · have cH : H cs[z.toNat] = none := hN.new _ (List.mem_of_getElem? hc)
        have cr : r ≠ cs[z.toNat] := fun e => nrc (by rw [e]; exact List.mem_of_getElem? hc)
        refine ⟨_, rfl, s6.put cH _, by rw [upd_ne cr]; exact hr6, ?_⟩
        have em : (src (xss.take i) z.toNat).map V.int ++ [V.int i] = (src (xss.take i) z.toNat ++ [(i : Int)]).map V.int := by rw [List.map_append] <;> rfl
        rw [em]
        refine R6.put hN.nd hc ?_ fun k hk => ?_
        · rw [hz', if_pos ((mem_take_succ hz).mpr (.inr rfl))]
        · have hk' : ((k : Int) ∈ xs.take (m + 1)) = ((k : Int) ∈ xs.take m) := by
            rw [mem_take_succ hz]
            refine propext ⟨fun h => h.elim id fun e => absurd (by omega) hk, .inl⟩
          simp only [hk']
    · rintro σ H6 ⟨tt, rfl, s6, hr6, R6⟩
      refine ⟨_, _, _, rfl, s6, hr6, fun j c hc => ?_⟩
      rw [R6 j c hc, src_take hx j, List.length_map, List.take_length]
  · rintro σ H4 ⟨u, v, t, rfl, s4, hr4, R4⟩
    refine ⟨_, rfl, ?_⟩
    have e : xss.take (bs.map V.ref).length = xss := by rw [hbl]; exact List.take_length
    rw [e] at R4
    exact q r cs H4 s4 hrH hr4 hcl R4 hN.new
end
end Ts
namespace Ts
open PySem L2
structure FunD (K : PySem.W.Frag) (x qual : Str) (st : Stmt) (dV : Value) (f : Addr) (fd : FuncData) : Prop where
  ex : ∃ (oc : Value) (od : Option Addr) (kV doc pm : Value) (an : Option Addr) (cdv ct : Value) (osl : Array (Option Value)),
    fd = PySem.W.fnOf x qual (defArgs st) (defBody st) (defScope st) dV kV doc pm an cdv ct ∧ K.lookup f = some ⟨oc, od, .func fd, osl⟩ ∧ PySem.W.codeIn K cdv qual = true
  kp : PySem.W.keepIn K (.ref f) = true
section
variable {P : Program} {w : World} {K : PySem.W.Frag} {mg : Str → Option Value} {base : Heap}
theorem FunD.ok (F : FunD K x qual st dV f fd) (S : FnScope N ps (defScope st)) (len : ∀ vs H Q E, sp vs H Q E → vs.length = ps.length)
    (hbody : ∀ (cdv : Value) (A : Around) (outer : List Env) (s : Shared) (H : Hp) (vs : List V) (Q : VK) (E : XK), Room k (A.deeper (PyProof.Rows.envOfC qual (defScope st) s.heap.objs.size f cdv)) → sp vs H Q E →
      ∃ t, PSs (cxOf CX0 P w K mg base N qual (defScope st) f cdv A outer s H E).nox (defBody st) t ∧ t { nx := fun _ H' => Q .non H', rt := Q } (start N vs) H) : FnOk P w K mg base CX0 (k + 1) f fd ps sp := by
  obtain ⟨oc, od, kV, doc, pm, an, cdv, ct, osl, rfl, lk, hcd⟩ := F.ex
  refine fn_of lk hcd S len fun A outer s H vs Q E hr hsp => ?_
  obtain ⟨t, h, q⟩ := hbody cdv A outer s H vs Q E hr hsp
  exact ⟨t, h.nox, q⟩
structure Cl (K : PySem.W.Frag) (mg : Str → Option Value) (C : Addr) : Prop where
  cl : Cls K C
  nS : NoAttr K C "steps"
  nM : NoAttr K C "marks"
  nF : NoAttr K C "fair"
  nB : NoAttr K C "sources"
  mgC : mg "Machine" = some (.ref C)
theorem scIn : FnScope ["self", "steps", "marks", "fair", "given_marks", "given_fair"] ["self", "steps", "marks", "fair"] (defScope sInit) := ⟨rfl, rfl, rfl, by decide +kernel, rfl, by decide +kernel, by decide +kernel⟩
theorem ndNs : (["name", "stands"] : List Str).Nodup := by decide +kernel
theorem putF_len (f : Str) (v : V) : ∀ fs : List (Str × V), (putF f v fs).length ≤ fs.length + 1
  | [] => Nat.le_refl _
  | (g, x) :: r => by
    unfold putF
    split
    · exact Nat.le_succ _
    · exact Nat.succ_le_succ (putF_len f v r)
theorem rows_of : ∀ {vs : List V} {xss : List (List Int)}, A2 (rp K R) vs xss → ∃ bs : List Addr, vs = bs.map V.ref ∧ RowsR K R bs xss
  | [], [], _ => ⟨[], rfl, rfl, fun i b h => by simp at h⟩
  | v :: vs, xs :: xss, h => by
    obtain ⟨bs, e, h1, h2⟩ := rows_of h.2
    obtain ⟨p, ws, rfl, h3, h4⟩ := h.1
    have h5 : ws = xs.map V.int := h4.vals
    refine ⟨p :: bs, by rw [e, List.map_cons], by rw [List.length_cons, List.length_cons, h1], fun i b hb => ?_⟩
    cases i with
    | zero => simp at hb; subst hb; exact ⟨xs, rfl, SqL.of (by rw [h3, h5])⟩
    | succ i => exact h2 i b (by simpa using hb)
  | [], _ :: _, h => h.elim
  | _ :: _, [], h => h.elim
noncomputable def fSo (xss : LLI) : Option LLI := if xss.length ≤ 60 ∧ Valid xss.length xss then some (srcs xss) else none
theorem ok_soG (F : Fun K "sources_of" "sources_of" sSources f fd) (B : Bl K mg) : FnOk P w K mg base CX0 1 f fd ["steps"] (spF K false (fun a : LLI × Unit => ([.fz false a.1] : List (Slot K))) fun a => fSo a.1) := by
  refine (ok_so F B).imp fun vs H Q E h => ?_
  obtain ⟨⟨xss, ⟨⟩⟩, b, Fa, s, hb, r, q⟩ := h
  have hb : fSo xss = some b := hb
  unfold fSo at hb
  split at hb
  case isFalse => cases hb
  rename_i hv
  cases hb
  cases r with
  | cons r1 r2 =>
    cases r2
    obtain ⟨a, ws, rfl, h1, h2⟩ := r1
    obtain ⟨bs, rfl, h3⟩ := rows_of (K := K) h2
    refine ⟨a, bs, xss, rfl, SqL.of (s _ _ h1), h3.same s, hv.1, hv.2, fun rr cs H' s' hr e l R N => q _ _ s' ?_⟩
    refine ⟨rr, _, rfl, by show dif H' H rr = _; rw [dif_at hr]; exact e, ?_⟩
    exact rowf_rp (K := K) l R fun c hc o e => by show dif H' H c = _; rw [dif_at (N c hc)]; exact e
theorem ok_inG {fS : LLI → Option Unit} {fM : MKs → Int → Option Unit} {fF : LLI → Int → Option Unit} {fC fO : LLI → Option LLI} (F : FunD K "__init__" "Machine.__init__" sInit dV f fd) (T : Cl K mg C) (B : Bl K mg)
    (CS : Cal P w K mg base k "check_steps" ["steps"] (spF K false (fun a : LLI × Unit => ([.fz false a.1] : List (Slot K))) fun a => fS a.1))
    (CM : Cal P w K mg base k "check_marks" ["marks", "many"] (spF K false (fun a : MKs × Int × Unit => ([.fz false a.1, .fz false a.2.1] : List (Slot K))) fun a => fM a.1 a.2.1))
    (CF : Cal P w K mg base k "check_fair" ["fair", "many"] (spF K false (fun a : LLI × Int × Unit => ([.fz false a.1, .fz false a.2.1] : List (Slot K))) fun a => fF a.1 a.2.1))
    (CC : Cal P w K mg base k "copied" ["lists"] (spF K false (fun a : LLI × Unit => ([.fz false a.1] : List (Slot K))) fun a => fC a.1))
    (CO : Cal P w K mg base k "sources_of" ["steps"] (spF K false (fun a : LLI × Unit => ([.fz false a.1] : List (Slot K))) fun a => fO a.1)) :
    FnOk P w K mg base CX0 (k + 1) f fd ["self", "steps", "marks", "fair"] (spInG K C (mkG C fS fM fF fC fO)) := by
  refine F.ok scIn (fun vs H Q E h => ?_) (fun cdv A outer s H vs Q E hr h => ?_)
  · obtain ⟨p, dx, vS, vM, vF, xss, mo, fo, M, rfl, _⟩ := h
    rfl
  obtain ⟨p, dx, vS, vM, vF, xss, mo, fo, M, rfl, hp, rS, rM, rF, hm, q⟩ := h
  unfold mkG at hm
  obtain ⟨⟨⟩, e1, hm⟩ := opt_get hm
  obtain ⟨⟨⟩, e2, hm⟩ := opt_get hm
  obtain ⟨⟨⟩, e3, hm⟩ := opt_get hm
  obtain ⟨a, e4, hm⟩ := opt_get hm
  obtain ⟨b, e5, hm⟩ := opt_get hm
  obtain ⟨c, e6, hm⟩ := opt_get hm
  obtain ⟨d, e7, hm⟩ := opt_get hm
  cases hm
  refine ⟨_, pss_cons (ps_set (i := 4) scIn.nd rfl (Or.inl rfl) (pe_ifExp (pt_cmp (pc_isN (pv 2))) (pe_lst pa_nil) (pv 2)))
    (pss_cons (ps_set (i := 5) scIn.nd rfl (Or.inl rfl) (pe_ifExp (pt_cmp (pc_isN (pv 3))) (pe_lst pa_nil) (pv 3)))
    (pss_cons (ps_expr (p_cal CS hr (pa_cons (pv 1) pa_nil)))
    (pss_cons (ps_expr (p_cal CM hr (pa_cons (pv 4) (pa_cons (pe_callB (c_lenK K) rfl B.len PySem.boot_len (pa_cons (pv 1) pa_nil)) pa_nil))))
    (pss_cons (ps_expr (p_cal CF hr (pa_cons (pv 5) (pa_cons (pe_callB (c_lenK K) rfl B.len PySem.boot_len (pa_cons (pv 1) pa_nil)) pa_nil))))
    (pss_cons (ps_fld (pv 0) (p_cal CC hr (pa_cons (pv 1) pa_nil)) rfl)
    (pss_cons (ps_fld (pv 0) (pe_comp (own := ["name", "stands"]) (ix := []) rfl rfl rfl (i_listK K (pv 4)) (fun C s H fp => pg_tupK (K := K) (n := 2) rfl rfl (pgs_cons (pg_name (i := 0) ndNs rfl (Or.inl rfl)) (pgs_cons (pg_name (i := 1) ndNs rfl (Or.inl rfl)) pgs_nil))) (fun C s H fp => pif_nil)
      (fun C s H fp => pe_tup (pa_cons (pv 0) (pa_cons (pe_callTy (c_listK K) rfl B.list bt_list (pa_cons (pv 1) pa_nil)) pa_nil)))) rfl)
    (pss_cons (ps_fld (pv 0) (p_cal CC hr (pa_cons (pv 5) pa_nil)) rfl)
    (pss_one (ps_fld (pv 0) (p_cal CO hr (pa_cons (pe_fld (pv 0) rfl) pa_nil)) rfl))))))))), ?_⟩
  have sg0 : Sg (K := K) ⟨hid H p, H⟩ (hid H p) [.fz false (RefTo.mk () : RefTo p), .fz false xss, .fz false mo, .fz false fo, .un, .un] [some (.ref p), some vS, some vM, some vF, none, none] H :=
    ⟨hid H p, [], .refl _, at_hid (.fz (show rp K _ _ (RefTo.mk () : RefTo p) from rfl) (.fz rS (.fz rM (.fz rF (.un (.un .nil))))))⟩
  refine (Sn.of (sn_set false 4 rfl rfl (ex_ife (et_b (md := .hp) (ex_isN (ex_varF 2 rfl))) (Eo.ex (eo_nil (α := Str × List Int))) (ex_get (ex_var 2 rfl)))) (show _ = some (mo.getD []) by cases mo <;> rfl)) _ rfl (hid H p) _ _ H sg0 fun σ1 H1 sg1 => ?_
  refine (Sn.of (sn_set false 5 rfl rfl (ex_ife (et_b (md := .hp) (ex_isN (ex_varF 3 rfl))) (Eo.ex (eo_nil (α := List Int))) (ex_get (ex_var 3 rfl)))) (show _ = some (fo.getD []) by cases fo <;> rfl)) _ rfl (hid H p) _ _ H1 sg1 fun σ2 H2 sg2 => ?_
  refine (Sn.of (sn_expr (md := .hp) (ex_call (f := fun a : LLI × Unit => fS a.1) (ea_cons (ex_varF 1 rfl) ea_nil))) (show _ = fS xss from rfl)) () e1 (hid H p) _ _ H2 sg2 fun σ3 H3 sg3 => ?_
  refine (Sn.of (sn_expr (md := .hp) (ex_call (f := fun a : MKs × Int × Unit => fM a.1 a.2.1) (ea_cons (ex_varF 4 rfl) (ea_cons (Ex.sc (md := .hp) (ex_len (ex_varF 1 rfl))) ea_nil)))) (show _ = fM (mo.getD []) (xss.length : Int) from rfl)) () e2 (hid H p) _ _ H3 sg3 fun σ4 H4 sg4 => ?_
  refine (Sn.of (sn_expr (md := .hp) (ex_call (f := fun a : LLI × Int × Unit => fF a.1 a.2.1) (ea_cons (ex_varF 5 rfl) (ea_cons (Ex.sc (md := .hp) (ex_len (ex_varF 1 rfl))) ea_nil)))) (show _ = fF (fo.getD []) (xss.length : Int) from rfl)) () e3 (hid H p) _ _ H4 sg4 fun σ5 H5 sg5 => ?_
  obtain ⟨F5, O5, g5, k5, s5⟩ := sg5
  have s5 : SlotsOk (K := K) ⟨hid H p, H⟩ F5 (lo F5 O5 H5) H5 [.fz false (RefTo.mk () : RefTo p), .fz false xss, .fz false mo, .fz false fo, .fz false (mo.getD []), .fz false (fo.getD [])] σ5 O5 := s5
  cases s5 with | fz r0 s5 =>
  cases s5 with | fz r1 s5 =>
  cases s5 with | fz r2 s5 =>
  cases s5 with | fz r3 s5 =>
  cases s5 with | fz r4 s5 =>
  cases s5 with | fz r5 s5 =>
  cases s5
  rename_i v0 v1 v2 v3 v4 v5
  have r0 : v0 = .ref p := r0
  subst r0
  have hF : Same F5 (hid H5 p) := fun b o e => by
    by_cases z : b = p
    · subst z
      rcases k5.fa b o e with z | z
      · have z : hid H b b = some o := z
        rw [hid_eq] at z
        cases z
      · have z : H b = none := z
        rw [hp] at z
        cases z
    · rw [hid_ne z]; exact k5.fh b o e
  have r1 : rp K (hid H5 p) v1 xss := Rp.mono hF r1
  have r2 : rp K (hid H5 p) v2 mo := Rp.mono hF r2
  have r3 : rp K (hid H5 p) v3 fo := Rp.mono hF r3
  have r4 : rp K (hid H5 p) v4 (mo.getD []) := Rp.mono hF r4
  have r5 : rp K (hid H5 p) v5 (fo.getD []) := Rp.mono hF r5
  have s05 : Same H H5 := k5.h0
  have hp5 : H5 p = some (.ins C dx []) := s05 _ _ hp
  refine ⟨_, rfl, (xss, ()), a, H5, .refl _, e4, .cons (Rp.mono hid_le r1) .nil, fun y1 H6 s6 t1 => ?_⟩
  have t1 : rp K (dif H6 H5) y1 a := t1
  have hp6 := s6 _ _ hp5
  refine ⟨_, rfl, p, C, dx, [], rfl, hp6, T.cl, T.nS, (by show 0 < 1000; decide), ?_⟩
  have f1 := Rp.mono (new_in (H := H) (p := p) (fun b o _ e => s05 b o e) (by rw [hp5]; intro z; cases z)) t1
  have kp6 : ∀ b o, b ≠ p → H b = some o → (upd H6 p (.ins C dx (putF "steps" y1 []))) b = some o := fun b o n e => by rw [upd_ne n]; exact s6 _ _ (s05 _ _ e)
  have h6 : Same (hid H5 p) (hid (upd H6 p (.ins C dx (putF "steps" y1 []))) p) := by rw [hid_upd]; exact hid_mono s6
  have E2 : Ex (K := K) ⟨hid (upd H6 p (.ins C dx (putF "steps" y1 []))) p, upd H6 p (.ins C dx (putF "steps" y1 []))⟩ [.fz false (RefTo.mk () : RefTo p), .fz false xss, .fz false mo, .fz false fo, .fz false (mo.getD []), .fz false (fo.getD [])] .nw _ _ :=
    (eo_comp (n := false) (slI := [.un, .un]) (no := 2) (ix := []) rfl rfl (ei_list (ex_var 4 rfl)) (tg_tup 0 1 rfl rfl (fun _ => rfl) rfl) (fun x => et_if0) (fun x => ex_tup2 (ex_varS 0 rfl) (eo_listS (ex_varF 1 rfl)).ex) (fun x => Le0.un (Le0.un Le0.nil))).ex
  refine E2 b e5 (hid (upd H6 p (.ins C dx (putF "steps" y1 []))) p) [] _ _ _ (at_hid (.fz (show rp K _ _ (RefTo.mk () : RefTo p) from rfl) (.fz (Rp.mono h6 r1) (.fz (Rp.mono h6 r2) (.fz (Rp.mono h6 r3) (.fz (Rp.mono h6 r4) (.fz (Rp.mono h6 r5) .nil))))))) fun y2 F7 H7 g7 t2 => ?_
  have s7 := g7.hh
  have t2 : rp K (dif H7 (upd H6 p (.ins C dx (putF "steps" y1 [])))) y2 b := Rp.mono (dif_mono g7.ok.fh) t2
  have hp7 : H7 p = some (.ins C dx (putF "steps" y1 [])) := s7 _ _ upd_same
  refine ⟨_, rfl, p, C, dx, _, rfl, hp7, T.cl, T.nM, (by show 1 < 1000; decide), ?_⟩
  have f2 := Rp.mono (new_in (H := H) (p := p) kp6 (by rw [upd_same]; intro z; cases z)) t2
  have kp7 : ∀ b o, b ≠ p → H b = some o → (upd H7 p (.ins C dx (putF "marks" y2 (putF "steps" y1 [])))) b = some o := fun b o n e => by rw [upd_ne n]; exact s7 _ _ (kp6 _ _ n e)
  have h7 : Same (hid (upd H6 p (.ins C dx (putF "steps" y1 []))) p) (hid (upd H7 p (.ins C dx (putF "marks" y2 (putF "steps" y1 [])))) p) := by rw [hid_upd (H := H7)]; exact hid_mono s7
  refine ⟨_, rfl, (fo.getD [], ()), c, _, .refl _, e6, .cons (Rp.mono (h6.trans (h7.trans hid_le)) r5) .nil, fun y3 H8 s8 t3 => ?_⟩
  have t3 : rp K (dif H8 (upd H7 p (.ins C dx (putF "marks" y2 (putF "steps" y1 []))))) y3 c := t3
  have hp8 : H8 p = some (.ins C dx (putF "marks" y2 (putF "steps" y1 []))) := s8 _ _ upd_same
  have l2 : (putF "marks" y2 (putF "steps" y1 [])).length < 1000 := by
    have a1 := putF_len "marks" y2 (putF "steps" y1 [])
    have a2 := putF_len "steps" y1 []
    have a3 : ([] : List (Str × V)).length = 0 := rfl
    omega
  refine ⟨_, rfl, p, C, dx, _, rfl, hp8, T.cl, T.nF, l2, ?_⟩
  have f3 := Rp.mono (new_in (H := H) (p := p) kp7 (by rw [upd_same]; intro z; cases z)) t3
  have kp8 : ∀ b o, b ≠ p → H b = some o → (upd H8 p (.ins C dx (putF "fair" y3 (putF "marks" y2 (putF "steps" y1 []))))) b = some o := fun b o n e => by rw [upd_ne n]; exact s8 _ _ (kp7 _ _ n e)
  have h8 : Same (hid (upd H7 p (.ins C dx (putF "marks" y2 (putF "steps" y1 [])))) p) (hid (upd H8 p (.ins C dx (putF "fair" y3 (putF "marks" y2 (putF "steps" y1 []))))) p) := by rw [hid_upd (H := H8)]; exact hid_mono s8
  have lk : (putF "fair" y3 (putF "marks" y2 (putF "steps" y1 []))).lookup ("steps" : Str) = some y1 := by
    rw [lookup_putF, if_neg (by decide +kernel), lookup_putF, if_neg (by decide +kernel), lookup_putF, if_pos rfl]
  have d1 : Same (dif (hid H6 p) (hid H p)) (hid (upd H8 p (.ins C dx (putF "fair" y3 (putF "marks" y2 (putF "steps" y1 []))))) p) := dif_le.trans ((by rw [hid_upd]; exact .refl _ : Same (hid H6 p) (hid (upd H6 p (.ins C dx (putF "steps" y1 []))) p)).trans (h7.trans h8))
  refine ⟨_, rfl, p, C, dx, _, _, rfl, upd_same, T.cl, T.nS, lk, (a, ()), d, _, .refl _, e7, .cons (Rp.mono (d1.trans hid_le) f1) .nil, fun y4 H9 s9 t4 => ?_⟩
  have t4 : rp K (dif H9 (upd H8 p (.ins C dx (putF "fair" y3 (putF "marks" y2 (putF "steps" y1 [])))))) y4 d := t4
  have hp9 : H9 p = some (.ins C dx (putF "fair" y3 (putF "marks" y2 (putF "steps" y1 [])))) := s9 _ _ upd_same
  have l3 : (putF "fair" y3 (putF "marks" y2 (putF "steps" y1 []))).length < 1000 := by
    have a0 := putF_len "fair" y3 (putF "marks" y2 (putF "steps" y1 []))
    have a1 := putF_len "marks" y2 (putF "steps" y1 [])
    have a2 := putF_len "steps" y1 []
    have a3 : ([] : List (Str × V)).length = 0 := rfl
    omega
  refine ⟨_, rfl, p, C, dx, _, rfl, hp9, T.cl, T.nB, l3, ?_⟩
  have f4 := Rp.mono (new_in (H := H) (p := p) kp8 (by rw [upd_same]; intro z; cases z)) t4
  have kp9 : ∀ b o, b ≠ p → H b = some o → (upd H9 p (.ins C dx (putF "sources" y4 (putF "fair" y3 (putF "marks" y2 (putF "steps" y1 [])))))) b = some o := fun b o n e => by rw [upd_ne n]; exact s9 _ _ (kp8 _ _ n e)
  have u9 : Same (hid H9 p) (upd H9 p (.ins C dx (putF "sources" y4 (putF "fair" y3 (putF "marks" y2 (putF "steps" y1 [])))))) := (by rw [hid_upd]; exact .refl _ : Same (hid H9 p) (hid (upd H9 p (.ins C dx (putF "sources" y4 (putF "fair" y3 (putF "marks" y2 (putF "steps" y1 [])))))) p)).trans hid_le
  have u8 : Same (hid H8 p) (hid H9 p) := (by rw [hid_upd]; exact .refl _ : Same (hid H8 p) (hid (upd H8 p (.ins C dx (putF "fair" y3 (putF "marks" y2 (putF "steps" y1 []))))) p)).trans (hid_mono s9)
  have u7 : Same (hid H7 p) (hid H8 p) := (by rw [hid_upd]; exact .refl _ : Same (hid H7 p) (hid (upd H7 p (.ins C dx (putF "marks" y2 (putF "steps" y1 [])))) p)).trans (hid_mono s8)
  have u6 : Same (hid H6 p) (hid H7 p) := (by rw [hid_upd]; exact .refl _ : Same (hid H6 p) (hid (upd H6 p (.ins C dx (putF "steps" y1 []))) p)).trans (hid_mono s7)
  refine q _ kp9 ⟨p, dx, putF "sources" y4 (putF "fair" y3 (putF "marks" y2 (putF "steps" y1 []))), y1, y2, y3, y4, rfl, ?_, ?_, Rp.mono (dif_mono (u6.trans (u7.trans (u8.trans u9)))) f1, ?_, Rp.mono (dif_mono (u7.trans (u8.trans u9))) f2, ?_, Rp.mono (dif_mono (u8.trans u9)) f3, ?_, Rp.mono (dif_mono u9) f4, ?_⟩
  · rw [dif_at hid_eq]; exact upd_same
  · rw [lookup_putF, if_neg (by decide +kernel)]; exact lk
  · rw [lookup_putF, if_neg (by decide +kernel), lookup_putF, if_neg (by decide +kernel), lookup_putF, if_pos rfl]
  · rw [lookup_putF, if_neg (by decide +kernel), lookup_putF, if_pos rfl]
  · rw [lookup_putF, if_pos rfl]
  · intro g hg
    simp only [mth, List.mem_cons, List.not_mem_nil, or_false] at hg
    rcases hg with rfl | rfl | rfl | rfl | rfl | rfl <;> (rw [lookup_putF, if_neg (by decide +kernel), lookup_putF, if_neg (by decide +kernel), lookup_putF, if_neg (by decide +kernel), lookup_putF, if_neg (by decide +kernel)]; rfl)
end
end Ts
set_option maxHeartbeats 40000000
namespace Ts
open PySem L2
section
variable {P : Program} {w : World} {K : PySem.W.Frag} {mg : Str → Option Value} {base : Heap}
seal L2.PE L2.PT L2.PW L2.PA L2.PS L2.PSs L2.PC L2.PG L2.PGs L2.PI L2.PIfs L2.PO
def p_is_stand (q0 : Int) (q1 : Int) : Option Bool := if true = true then if (!false) = true then if decide ((0 : Int) ≤ q0) = true then some (decide (q0 < q1)) else some false else some false else some false
theorem sc_is_stand : FnScope ["thing", "many"] ["thing", "many"] (defScope s_is_stand) := fsc
abbrev S_is_stand (K : PySem.W.Frag) : Sp := spF K false (fun a : Int × Int × Unit => ([.z a.1, .z a.2.1] : List (Slot K))) (fun a => p_is_stand a.1 a.2.1)
theorem ok_is_stand (F : Fun K "is_stand" "is_stand" s_is_stand f fd) (B : Bl K mg) : FnOk P w K mg base CX0 (k + 1) f fd ["thing", "many"] (S_is_stand K) := by
  refine def_ok F sc_is_stand (fun _ => rfl) (fun _ => rfl) fun cdv A outer s H E hr => ?_
  have nd := sc_is_stand.nd
  refine ⟨_, (pss_cons (ps_ret (pe_and (pe_callB (c_isiK K (rel_ty (n := "int"))) rfl B.isi bt_isi (pa_cons (pv 0) (pa_cons (pe_bltn (v := .ty "int") rfl B.int bt_int rfl) pa_nil))) (pe_and (pe_not (pe_callB (c_isiK K (rel_ty (n := "bool"))) rfl B.isi bt_isi (pa_cons (pv 0) (pa_cons (pe_bltn (v := .ty "bool") rfl B.bool bt_bool rfl) pa_nil)))) (pe_one (pe_chain op_le op_lt pe_int (pv 0) (pv 1)))))) pss_nil), ?_⟩
  rintro Fa ⟨q0, q1, ⟨⟩⟩
  exact SB.of (sb_ret (esc (ex_and (ex_isi B.ii rfl (ex_varS 0 rfl)) (ex_and (ex_not (ex_isi B.ib rfl (ex_varS 0 rfl))) (ex_chain (f := (fun i j => decide (i ≤ j))) (g := (fun i j => decide (i < j))) (ex_int 0) (ex_varS 0 rfl) (ex_varS 1 rfl)))))) (by unfold p_is_stand; simp only [bnd])
def p_check_stands (q0 : List Int) (q1 : Int) (q2 : Str) : Option Unit := (some ()).bind fun ahead1 => ((some q0).bind fun xs => foldM (fun (s2 : List (Key × Bool)) (x4 : Int) => (((p_is_stand x4 q1).bind fun a5 => some (!a5)).bind fun b => if b = true then none else some ()).bind fun s6 => (if ((dget (Dc.mk s2).kv x4).isSome) = true then none else some ()).bind fun s8 => (dput s2 x4 true).bind fun ahead10 => some ahead10) xs (([] : List (Key × Bool)))).bind fun s3 => some ()
theorem sc_check_stands : FnScope ["stands", "many", "where", "ahead", "stand"] ["stands", "many", "where"] (defScope s_check_stands) := fsc
abbrev S_check_stands (K : PySem.W.Frag) : Sp := spF K false (fun a : (List Int) × Int × Str × Unit => ([.z a.1, .z a.2.1, .z a.2.2.1] : List (Slot K))) (fun a => p_check_stands a.1 a.2.1 a.2.2.1)
theorem ok_check_stands (F : Fun K "check_stands" "check_stands" s_check_stands f fd) (B : Bl K mg) (C_is_stand : Cal P w K mg base k "is_stand" ["thing", "many"] (S_is_stand K)) : FnOk P w K mg base CX0 (k + 1) f fd ["stands", "many", "where"] (S_check_stands K) := by
  refine def_okN F sc_check_stands (fun _ => rfl) (fun _ => rfl) fun cdv A outer s H E hr => ?_
  have nd := sc_check_stands.nd
  have hu := hu_of hr
  refine ⟨_, (pss_cons (ps_st 3 nd pe_dnewK) (pss_cons (ps_for PassesOwn.never rfl (i_listK K (pv 0)) (pg_n 4 nd) (pss_cons (ps_if (pt_not (pt_val (p_cal C_is_stand hr (pa_cons (pv 4) (pa_cons (pv 1) pa_nil))))) pss_never pss_nil) (pss_cons (ps_if (pt_cmp (pc_din hu (pv 4) (pv 3))) pss_never pss_nil) (pss_cons (ps_dput hu (pv 3) (pv 4) pe_bl rfl) pss_nil)))) pss_nil)), ?_⟩
  rintro Fa ⟨q0, q1, q2, ⟨⟩⟩
  exact ⟨_, Sn.of (sn_cons (sn_dnew (α := Bool) 3 rfl rfl) (fun ahead1 => (sn_cons (sn_for (n := false) (L := (fun s2 : List (Key × Bool) => ([.z q0, .z q1, .z q2, .od (s2 : List (Key × Bool)), .un] : List (Slot K)))) (([] : List (Key × Bool))) lea (ei_list (ex_var 0 rfl)) (fun s2 => (tg_name 4 rfl rfl)) (fun s2 x4 => (sn_cons (sn_if (et_not (et_b (md := .hp) (ex_call (ea_cons (esc (ex_varS 4 rfl)) (ea_cons (esc (ex_varS 1 rfl)) ea_nil))))) sn_never (sn_nil (fun s7 : Unit => ([.z q0, .z q1, .z q2, .od (s2 : List (Key × Bool)), .z x4] : List (Slot K))) () lea)) (fun s6 => (sn_cons (sn_if (et_b (md := .hp) (ex_din (ex_varS 4 rfl) (ex_varD 3 rfl))) sn_never (sn_nil (fun s9 : Unit => ([.z q0, .z q1, .z q2, .od (s2 : List (Key × Bool)), .z x4] : List (Slot K))) () lea)) (fun s8 => (sn_cons (sn_dput 3 rfl rfl (esc (ex_bl true)) (ex_varS 4 rfl)) (fun ahead10 => (sn_nil (fun s2 : List (Key × Bool) => ([.z q0, .z q1, .z q2, .od (s2 : List (Key × Bool)), .un] : List (Slot K))) ahead10 lea))))))))) (fun s3 => (sn_nil (fun _ : Unit => ([.un, .un, .un, .un, .un] : List (Slot K))) () lea))))) (by unfold p_check_stands; simp only [bnd])⟩
def p_check_steps (q0 : List (List Int)) : Option Unit := (some (q0.length : Int)).bind fun many1 => ((if (decide (many1 < (1 : Int))) = true then some true else some (decide ((60 : Int) < many1))).bind fun b => if b = true then none else some ()).bind fun s2 => ((some (enumL q0)).bind fun xs => foldM (fun (s4 : Unit) (x6 : Int × (List Int)) => (((((fsI "steps of stand " x6.1).bind fun a8 => some ((a8, ()))).bind fun b9 => some (many1, b9)).bind fun b10 => some (x6.2, b10)).bind fun z7 => p_check_stands z7.1 z7.2.1 z7.2.2.1).bind fun u11 => (if (decide ((x6.2.length : Int) = (0 : Int))) = true then none else some ()).bind fun s12 => some ()) xs ()).bind fun s5 => some ()
theorem sc_check_steps : FnScope ["steps", "many", "stand", "targets"] ["steps"] (defScope s_check_steps) := fsc
abbrev S_check_steps (K : PySem.W.Frag) : Sp := spF K false (fun a : ((List (List Int))) × Unit => ([.z a.1] : List (Slot K))) (fun a => p_check_steps a.1)
theorem ok_check_steps (F : Fun K "check_steps" "check_steps" s_check_steps f fd) (B : Bl K mg) (m_MOST_STANDS : mg "MOST_STANDS" = some (.int 60 t_MOST_STANDS)) (C_check_stands : Cal P w K mg base k "check_stands" ["stands", "many", "where"] (S_check_stands K)) : FnOk P w K mg base CX0 (k + 1) f fd ["steps"] (S_check_steps K) := by
  refine def_okN F sc_check_steps (fun _ => rfl) (fun _ => rfl) fun cdv A outer s H E hr => ?_
  have nd := sc_check_steps.nd
  refine ⟨_, (pss_cons (ps_st 1 nd (pe_callB (c_lenK K) rfl B.len PySem.boot_len (pa_cons (pv 0) pa_nil))) (pss_cons (ps_if (PW.pt (pw_or (pt_cmpR op_lt (pv 1) pe_int (nomark _)) (pw_or1 (pt_cmpR op_gt (pv 1) (pe_glob (v := .int 60) rfl m_MOST_STANDS ⟨_, rfl⟩) (nomark _))))) pss_never pss_nil) (pss_cons (ps_for PassesOwn.never rfl (i_enumK K B.enum (pa_cons (pv 0) pa_nil)) (pg_tup rfl (pgs_cons (pg_n 2 nd) (pgs_cons (pg_n 3 nd) pgs_nil))) (pss_cons (ps_expr (p_cal C_check_stands hr (pa_cons (pv 3) (pa_cons (pv 1) (pa_cons (pe_fs (pv 2) (by decide)) pa_nil))))) (pss_cons (ps_if (pt_cmpR (op_eqv K Int hr) (pe_callB (c_lenK K) rfl B.len PySem.boot_len (pa_cons (pv 3) pa_nil)) pe_int (nomark _)) pss_never pss_nil) pss_nil))) pss_nil))), ?_⟩
  rintro Fa ⟨q0, ⟨⟩⟩
  exact ⟨_, Sn.of (sn_cons (sn_set true 1 rfl rfl (esc (ex_len (ex_varF 0 rfl)))) (fun many1 => (sn_cons (sn_if (et_or (et_test (md := .hp) (ex_lt (ex_varS 1 rfl) (ex_int 1))) (et_test (md := .hp) (ex_gt (ex_varS 1 rfl) (ex_int 60)))) sn_never (sn_nil (fun s3 : Unit => ([.z q0, .y many1, .un, .un] : List (Slot K))) () lea)) (fun s2 => (sn_cons (sn_for (n := false) (L := (fun s4 : Unit => ([.z q0, .y many1, .un, .un] : List (Slot K)))) () lea (ei_enum (ex_var 0 rfl)) (fun s4 => (tg_tup 2 3 rfl rfl (fun _ => rfl) rfl)) (fun s4 x6 => (sn_cons (sn_expr (md := .hp) (ex_call (ea_cons (ex_varF 3 rfl) (ea_cons (esc (ex_varS 1 rfl)) (ea_cons (esc (ex_fsI "steps of stand " (ex_varS 2 rfl))) ea_nil))))) (fun u11 => (sn_cons (sn_if (et_test (md := .hp) (ex_eqv (ex_len (ex_varF 3 rfl)) (ex_int 0))) sn_never (sn_nil (fun s13 : Unit => ([.z q0, .y many1, .z x6.1, .z x6.2] : List (Slot K))) () lea)) (fun s12 => (sn_nil (fun s4 : Unit => ([.z q0, .y many1, .un, .un] : List (Slot K))) () lea))))))) (fun s5 => (sn_nil (fun _ : Unit => ([.un, .un, .un, .un] : List (Slot K))) () lea))))))) (by unfold p_check_steps; simp only [bnd])⟩
def p_is_name (q0 : Str) : Option Bool := (if (!true) = true then some true else some (decide (q0 ∈ (["all", "not", "both", "either", "somenext", "eachnext", "sometill", "eachtill", "someever", "eachever"] : List Str)))).bind fun b => if b = true then some false else ((lenS q0).bind fun b1 => if decide ((1 : Int) ≤ b1) = true then some (decide (b1 ≤ (8 : Int))) else some false).bind fun c4 => if c4 = true then ((some (signs q0)).bind fun xs => compL (fun (x2 : Str) => some true) (fun (x2 : Str) => some (inS x2 ("abcdefghijklmnopqrstuvwxyz" : Str))) xs).bind fun a3 => some (a3.all id) else some false
theorem sc_is_name : FnScope ["name"] ["name"] (defScope s_is_name) := fsc
abbrev S_is_name (K : PySem.W.Frag) : Sp := spF K false (fun a : Str × Unit => ([.z a.1] : List (Slot K))) (fun a => p_is_name a.1)
theorem ok_is_name (F : Fun K "is_name" "is_name" s_is_name f fd) (B : Bl K mg) (m_LETTERS : mg "LETTERS" = some (.str "abcdefghijklmnopqrstuvwxyz" t_LETTERS)) (m_LONGEST_NAME : mg "LONGEST_NAME" = some (.int 8 t_LONGEST_NAME)) (m_SAYING_WORDS : mg "SAYING_WORDS" = some (.ref a_SAYING_WORDS)) (h_SAYING_WORDS : ∀ H, SqT K H a_SAYING_WORDS ((["all", "not", "both", "either", "somenext", "eachnext", "sometill", "eachtill", "someever", "eachever"] : List Str).map V.str)) (zall : mg "all" = none) (zstr : mg "str" = none) : FnOk P w K mg base CX0 (k + 1) f fd ["name"] (S_is_name K) := by
  refine def_ok F sc_is_name (fun _ => rfl) (fun _ => rfl) fun cdv A outer s H E hr => ?_
  have nd := sc_is_name.nd
  refine ⟨_, (pss_cons (ps_if (PW.pt (pw_or (pt_not (pt_val (pe_callB (c_isiK K (rel_ty (n := "str"))) rfl B.isi bt_isi (pa_cons (pv 0) (pa_cons (pe_bltn (v := .ty "str") rfl zstr bt_str rfl) pa_nil))))) (pw_or1 (pt_cmpR (op_inK K) (pv 0) (pe_glob (v := .ref a_SAYING_WORDS) rfl m_SAYING_WORDS rfl) (by with_unfolding_all rfl))))) (pss_cons (ps_ret pe_bl) pss_nil) pss_nil) (pss_cons (ps_ret (pe_and (pe_chain op_le op_le pe_int (pe_callB call_lenS rfl B.len PySem.boot_len (pa_cons (pv 0) pa_nil)) (pe_glob (v := .int 8) rfl m_LONGEST_NAME ⟨_, rfl⟩)) (pe_one (pe_callB (call_allL K rfl) rfl zall bt_all (pa_cons (pe_comp (own := ["sign"]) (ix := []) rfl rfl rfl (pi_str (pv 0)) (fun C s H fp => pg_name (i := 0) (show (["sign"] : List Str).Nodup from by decide +kernel) rfl (Or.inl rfl)) (fun C s H fp => pif_nil) (fun C s H fp => (pe_cmpR op_in_str (pv 0) (pe_glob (v := .str "abcdefghijklmnopqrstuvwxyz") rfl m_LETTERS ⟨_, rfl⟩) (by with_unfolding_all rfl)))) pa_nil))))) pss_nil)), ?_⟩
  rintro Fa ⟨q0, ⟨⟩⟩
  exact SB.of (sb_ifr (et_or (et_not (et_b (md := .hp) (ex_isi ki_ss rfl (ex_varS 0 rfl)))) (et_test (md := .hp) (ex_inT h_SAYING_WORDS (ex_varS 0 rfl)))) (sb_ret (esc (ex_bl false))) (sb_ret (esc (ex_and (ex_chain (f := (fun i j => decide (i ≤ j))) (g := (fun i j => decide (i ≤ j))) (ex_int 1) (ex_lenS (ex_varS 0 rfl)) (ex_int 8)) (ex_bools (eo_comp (n := true) (slI := [.un]) (no := 1) (ix := []) rfl rfl (ei_str (ex_varS 0 rfl)) (tg_name 0 rfl rfl) (fun x2 => et_if0) (fun x2 => (esc (ex_inS (ex_varS 0 rfl) (ex_str "abcdefghijklmnopqrstuvwxyz")))) (fun x2 => lea0)).ex))))) (by unfold p_is_name; simp only [bnd])
def p_check_marks (q0 : List (Str × (List Int))) (q1 : Int) : Option Unit := (some ()).bind fun ahead1 => ((some q0).bind fun xs => foldM (fun (s2 : List (Key × Bool)) (x4 : Str × (List Int)) => (((p_is_name x4.1).bind fun a5 => some (!a5)).bind fun b => if b = true then none else some ()).bind fun s6 => (if ((dgetS (Dc.mk s2).kv x4.1).isSome) = true then none else some ()).bind fun s8 => (dputS s2 x4.1 true).bind fun ahead10 => (((((fsS "mark " x4.1).bind fun a12 => some ((a12, ()))).bind fun b13 => some (q1, b13)).bind fun b14 => some (x4.2, b14)).bind fun z11 => p_check_stands z11.1 z11.2.1 z11.2.2.1).bind fun u15 => some ahead10) xs (([] : List (Key × Bool)))).bind fun s3 => some ()
theorem sc_check_marks : FnScope ["marks", "many", "ahead", "name", "stands"] ["marks", "many"] (defScope s_check_marks) := fsc
abbrev S_check_marks (K : PySem.W.Frag) : Sp := spF K false (fun a : ((List (Str × (List Int)))) × Int × Unit => ([.z a.1, .z a.2.1] : List (Slot K))) (fun a => p_check_marks a.1 a.2.1)
theorem ok_check_marks (F : Fun K "check_marks" "check_marks" s_check_marks f fd) (B : Bl K mg) (C_check_stands : Cal P w K mg base k "check_stands" ["stands", "many", "where"] (S_check_stands K)) (C_is_name : Cal P w K mg base k "is_name" ["name"] (S_is_name K)) : FnOk P w K mg base CX0 (k + 1) f fd ["marks", "many"] (S_check_marks K) := by
  refine def_okN F sc_check_marks (fun _ => rfl) (fun _ => rfl) fun cdv A outer s H E hr => ?_
  have nd := sc_check_marks.nd
  have hu := hu_of hr
  refine ⟨_, (pss_cons (ps_st 2 nd pe_dnewK) (pss_cons (ps_for PassesOwn.never rfl (i_listK K (pv 0)) (pg_tup rfl (pgs_cons (pg_n 3 nd) (pgs_cons (pg_n 4 nd) pgs_nil))) (pss_cons (ps_if (pt_not (pt_val (p_cal C_is_name hr (pa_cons (pv 3) pa_nil)))) pss_never pss_nil) (pss_cons (ps_if (pt_cmp (pc_din hu (pv 3) (pv 2))) pss_never pss_nil) (pss_cons (ps_dput hu (pv 2) (pv 3) pe_bl rfl) (pss_cons (ps_expr (p_cal C_check_stands hr (pa_cons (pv 4) (pa_cons (pv 1) (pa_cons (pe_fs (pv 3) (by decide)) pa_nil))))) pss_nil))))) pss_nil)), ?_⟩
  rintro Fa ⟨q0, q1, ⟨⟩⟩
  exact ⟨_, Sn.of (sn_cons (sn_dnew (α := Bool) 2 rfl rfl) (fun ahead1 => (sn_cons (sn_for (n := false) (L := (fun s2 : List (Key × Bool) => ([.z q0, .z q1, .od (s2 : List (Key × Bool)), .un, .un] : List (Slot K)))) (([] : List (Key × Bool))) lea (ei_list (ex_var 0 rfl)) (fun s2 => (tg_tup 3 4 rfl rfl (fun _ => rfl) rfl)) (fun s2 x4 => (sn_cons (sn_if (et_not (et_b (md := .hp) (ex_call (ea_cons (esc (ex_varS 3 rfl)) ea_nil)))) sn_never (sn_nil (fun s7 : Unit => ([.z q0, .z q1, .od (s2 : List (Key × Bool)), .z x4.1, .z x4.2] : List (Slot K))) () lea)) (fun s6 => (sn_cons (sn_if (et_b (md := .hp) (ex_dinS (ex_varS 3 rfl) (ex_varD 2 rfl))) sn_never (sn_nil (fun s9 : Unit => ([.z q0, .z q1, .od (s2 : List (Key × Bool)), .z x4.1, .z x4.2] : List (Slot K))) () lea)) (fun s8 => (sn_cons (sn_dputS 2 rfl rfl (esc (ex_bl true)) (ex_varS 3 rfl)) (fun ahead10 => (sn_cons (sn_expr (md := .hp) (ex_call (ea_cons (ex_varF 4 rfl) (ea_cons (esc (ex_varS 1 rfl)) (ea_cons (esc (ex_fsS "mark " (ex_varS 3 rfl))) ea_nil))))) (fun u15 => (sn_nil (fun s2 : List (Key × Bool) => ([.z q0, .z q1, .od (s2 : List (Key × Bool)), .un, .un] : List (Slot K))) ahead10 lea))))))))))) (fun s3 => (sn_nil (fun _ : Unit => ([.un, .un, .un, .un, .un] : List (Slot K))) () lea))))) (by unfold p_check_marks; simp only [bnd])⟩
def p_check_fair (q0 : List (List Int)) (q1 : Int) : Option Unit := ((some (enumL q0)).bind fun xs => foldM (fun (s1 : Unit) (x3 : Int × (List Int)) => (((((fsI "fair set " x3.1).bind fun a5 => some ((a5, ()))).bind fun b6 => some (q1, b6)).bind fun b7 => some (x3.2, b7)).bind fun z4 => p_check_stands z4.1 z4.2.1 z4.2.2.1).bind fun u8 => some ()) xs ()).bind fun s2 => some ()
theorem sc_check_fair : FnScope ["fair", "many", "number", "stands"] ["fair", "many"] (defScope s_check_fair) := fsc
abbrev S_check_fair (K : PySem.W.Frag) : Sp := spF K false (fun a : ((List (List Int))) × Int × Unit => ([.z a.1, .z a.2.1] : List (Slot K))) (fun a => p_check_fair a.1 a.2.1)
theorem ok_check_fair (F : Fun K "check_fair" "check_fair" s_check_fair f fd) (B : Bl K mg) (C_check_stands : Cal P w K mg base k "check_stands" ["stands", "many", "where"] (S_check_stands K)) : FnOk P w K mg base CX0 (k + 1) f fd ["fair", "many"] (S_check_fair K) := by
  refine def_okN F sc_check_fair (fun _ => rfl) (fun _ => rfl) fun cdv A outer s H E hr => ?_
  have nd := sc_check_fair.nd
  refine ⟨_, (pss_cons (ps_for PassesOwn.never rfl (i_enumK K B.enum (pa_cons (pv 0) pa_nil)) (pg_tup rfl (pgs_cons (pg_n 2 nd) (pgs_cons (pg_n 3 nd) pgs_nil))) (pss_cons (ps_expr (p_cal C_check_stands hr (pa_cons (pv 3) (pa_cons (pv 1) (pa_cons (pe_fs (pv 2) (by decide)) pa_nil))))) pss_nil)) pss_nil), ?_⟩
  rintro Fa ⟨q0, q1, ⟨⟩⟩
  exact ⟨_, Sn.of (sn_cons (sn_for (n := false) (L := (fun s1 : Unit => ([.z q0, .z q1, .un, .un] : List (Slot K)))) () lea (ei_enum (ex_var 0 rfl)) (fun s1 => (tg_tup 2 3 rfl rfl (fun _ => rfl) rfl)) (fun s1 x3 => (sn_cons (sn_expr (md := .hp) (ex_call (ea_cons (ex_varF 3 rfl) (ea_cons (esc (ex_varS 1 rfl)) (ea_cons (esc (ex_fsI "fair set " (ex_varS 2 rfl))) ea_nil))))) (fun u8 => (sn_nil (fun s1 : Unit => ([.z q0, .z q1, .un, .un] : List (Slot K))) () lea))))) (fun s2 => (sn_nil (fun _ : Unit => ([.un, .un, .un, .un] : List (Slot K))) () lea))) (by unfold p_check_fair; simp only [bnd])⟩
def p_copied (q0 : List (List Int)) : Option (List (List Int)) := (some q0).bind fun xs => compL (fun (x1 : List Int) => some true) (fun (x1 : List Int) => some x1) xs
theorem sc_copied : FnScope ["lists"] ["lists"] (defScope s_copied) := fsc
abbrev S_copied (K : PySem.W.Frag) : Sp := spF K false (fun a : ((List (List Int))) × Unit => ([.z a.1] : List (Slot K))) (fun a => p_copied a.1)
theorem ok_copied (F : Fun K "copied" "copied" s_copied f fd) (B : Bl K mg) : FnOk P w K mg base CX0 (k + 1) f fd ["lists"] (S_copied K) := by
  refine def_ok F sc_copied (fun _ => rfl) (fun _ => rfl) fun cdv A outer s H E hr => ?_
  have nd := sc_copied.nd
  refine ⟨_, (pss_cons (ps_ret (pe_comp (own := ["things"]) (ix := []) rfl rfl rfl (i_listK K (pv 0)) (fun C s H fp => pg_name (i := 0) (show (["things"] : List Str).Nodup from by decide +kernel) rfl (Or.inl rfl)) (fun C s H fp => pif_nil) (fun C s H fp => (pe_callTy (c_listK K) rfl B.list bt_list (pa_cons (pv 0) pa_nil))))) pss_nil), ?_⟩
  rintro Fa ⟨q0, ⟨⟩⟩
  exact SB.of (sb_ret (eo_comp (n := false) (slI := [.un]) (no := 1) (ix := []) rfl rfl (ei_list (ex_var 0 rfl)) (tg_name 0 rfl rfl) (fun x1 => et_if0) (fun x1 => (eo_listS (ex_varF 0 rfl)).ex) (fun x1 => lea0)).ex) (by unfold p_copied; simp only [bnd])
end
abbrev mkK (C : Addr) := mkG C p_check_steps p_check_marks p_check_fair p_copied fSo
section
variable {P : Program} {w : World} {K : PySem.W.Frag} {mg : Str → Option Value} {base : Heap}
seal L2.PE L2.PT L2.PW L2.PA L2.PS L2.PSs L2.PC L2.PG L2.PGs L2.PI L2.PIfs L2.PO
end
end Ts
set_option maxHeartbeats 40000000
namespace Ts
open PySem L2
section
variable {P : Program} {w : World} {K : PySem.W.Frag} {mg : Str → Option Value} {base : Heap}
seal L2.PE L2.PT L2.PW L2.PA L2.PS L2.PSs L2.PC L2.PG L2.PGs L2.PI L2.PIfs L2.PO
def p_is_standM (q0 : Mx) (q1 : Int) : Option Bool := if (isiI q0) = true then if (!(isiB q0)) = true then (mxI q0).bind fun b1 => if decide ((0 : Int) ≤ b1) = true then some (decide (b1 < q1)) else some false else some false else some false
theorem sc_is_standM : FnScope ["thing", "many"] ["thing", "many"] (defScope s_is_stand) := fsc
abbrev S_is_standM (K : PySem.W.Frag) : Sp := spF K false (fun a : Mx × Int × Unit => ([.z a.1, .z a.2.1] : List (Slot K))) (fun a => p_is_standM a.1 a.2.1)
theorem ok_is_standM (F : Fun K "is_stand" "is_stand" s_is_stand f fd) (B : Bl K mg) : FnOk P w K mg base CX0 (k + 1) f fd ["thing", "many"] (S_is_standM K) := by
  refine def_ok F sc_is_standM (fun _ => rfl) (fun _ => rfl) fun cdv A outer s H E hr => ?_
  have nd := sc_is_standM.nd
  refine ⟨_, (pss_cons (ps_ret (pe_and (pe_callB (c_isiK K (rel_ty (n := "int"))) rfl B.isi bt_isi (pa_cons (pv 0) (pa_cons (pe_bltn (v := .ty "int") rfl B.int bt_int rfl) pa_nil))) (pe_and (pe_not (pe_callB (c_isiK K (rel_ty (n := "bool"))) rfl B.isi bt_isi (pa_cons (pv 0) (pa_cons (pe_bltn (v := .ty "bool") rfl B.bool bt_bool rfl) pa_nil)))) (pe_one (pe_chain op_le op_lt pe_int (pv 0) (pv 1)))))) pss_nil), ?_⟩
  rintro Fa ⟨q0, q1, ⟨⟩⟩
  exact SB.of (sb_ret (esc (ex_and (ex_isMI (ex_varS 0 rfl)) (ex_and (ex_not (ex_isMB (ex_varS 0 rfl))) (ex_chain (f := (fun i j => decide (i ≤ j))) (g := (fun i j => decide (i < j))) (ex_int 0) (ex_mxI (ex_varS 0 rfl)) (ex_varS 1 rfl)))))) (by unfold p_is_standM; simp only [bnd])
def p_check_standsM (cx : Fin 3 → Addr) (q0 : List Mx) (q1 : Int) (q2 : Str) : Option (Out Unit (Ek cx)) := (some ()).bind fun ahead1 => ((some q0).bind fun xs => foldX (fun (s2 : List (Key × Bool)) (x4 : Mx) => ((p_is_standM x4 q1).bind fun a5 => some (!a5)).bind fun b => if b = true then (((some q2).bind fun j8 => fitS j8 ((some x4).bind fun j7 => fitM j7 ((some q1).bind fun j6 => fitI j6 (some ())))).bind fun _ => some (Ek.mk 0 : Ek cx)).bind fun b => some (.rt b) else ((mxI x4).bind fun a9 => some ((dget (Dc.mk s2).kv a9).isSome)).bind fun b => if b = true then (((some q2).bind fun j11 => fitS j11 ((mxI x4).bind fun j10 => fitI j10 (some ()))).bind fun _ => some (Ek.mk 0 : Ek cx)).bind fun b => some (.rt b) else ((mxI x4).bind fun b13 => dput s2 b13 true).bind fun ahead12 => some (.nx ahead12)) xs (([] : List (Key × Bool)))).bind fun o => o.thn fun s3 => some (.nx ())
theorem sc_check_standsM : FnScope ["stands", "many", "where", "ahead", "stand"] ["stands", "many", "where"] (defScope s_check_stands) := fsc
abbrev S_check_standsM (K : PySem.W.Frag) (cx : Fin 3 → Addr) : Sp := spE K cx (fun a : (List Mx) × Int × Str × Unit => ([.z a.1, .z a.2.1, .z a.2.2.1] : List (Slot K))) (fun a => p_check_standsM cx a.1 a.2.1 a.2.2.1)
theorem ok_check_standsM (F : Fun K "check_stands" "check_stands" s_check_stands f fd) (B : Bl K mg) (X3 : ErrM K mg cx) (C_is_standM : Cal P w K mg base k "is_stand" ["thing", "many"] (S_is_standM K)) : FnOk P w K mg base (CXX P w) (k + 1) f fd ["stands", "many", "where"] (S_check_standsM K cx) := by
  refine def_okE F sc_check_standsM (fun _ => rfl) (fun _ => rfl) fun cdv A outer s H E hr => ?_
  have nd := sc_check_standsM.nd
  have nd := nd
  have hu := hu_of hr
  refine ⟨_, (pssm_cons (psm_of (ps_st 3 nd pe_dnewK)) (pssm_cons (psm_for own_cx rfl (i_listK K (pv 0)) (pg_n 4 nd) (pssm_cons (psm_if (pt_not (pt_val (p_cal C_is_standM hr (pa_cons (pv 4) (pa_cons (pv 1) pa_nil))))) (pssm_cons (psm_raise thr_cx rfl (X3.o 0) rfl X3.m0 (pa_cons (pe_joined (pj_val (pv 2) (pj_lit (pj_rep (pv 4) (pj_lit (pj_val (pv 1) (pj_lit pj_nil))))))) pa_nil)) pssm_nil) pssm_nil) (pssm_cons (psm_if (pt_cmp (pc_din hu (pv 4) (pv 3))) (pssm_cons (psm_raise thr_cx rfl (X3.o 0) rfl X3.m0 (pa_cons (pe_joined (pj_val (pv 2) (pj_lit (pj_val (pv 4) (pj_lit pj_nil))))) pa_nil)) pssm_nil) pssm_nil) (pssm_cons (psm_of (ps_dput hu (pv 3) (pv 4) pe_bl rfl)) pssm_nil)))) pssm_nil)), ?_⟩
  rintro Fa ⟨q0, q1, q2, ⟨⟩⟩
  exact ⟨_, false, Sx.of (sx_cons (sn_dnew (α := Bool) 3 rfl rfl) (fun ahead1 => (sx_consx (sx_for (n := false) (L := (fun s2 : List (Key × Bool) => ([.z q0, .z q1, .z q2, .od (s2 : List (Key × Bool)), .un] : List (Slot K)))) (([] : List (Key × Bool))) lea (ei_list (ex_var 0 rfl)) (fun s2 => (tg_name 4 rfl rfl)) (fun s2 x4 => (sx_ifr (et_not (et_b (md := .hp) (ex_call (ea_cons (esc (ex_varS 4 rfl)) (ea_cons (esc (ex_varS 1 rfl)) ea_nil))))) (sb_raiseM 0 rfl (ej_str (ex_varS 2 rfl) (ej_lit ": " (ej_rep (ex_varS 4 rfl) (ej_lit " is none of the " (ej_int (ex_varS 1 rfl) (ej_lit " stands" ej_nil))))))) (sx_ifr (et_b (md := .hp) (ex_din (ex_mxI (ex_varS 4 rfl)) (ex_varD 3 rfl))) (sb_raiseM 0 rfl (ej_str (ex_varS 2 rfl) (ej_lit ": " (ej_int (ex_mxI (ex_varS 4 rfl)) (ej_lit " stands there twice" ej_nil))))) (sx_cons (sn_dput 3 rfl rfl (esc (ex_bl true)) (ex_mxI (ex_varS 4 rfl))) (fun ahead12 => (sx_nil (fun s2 : List (Key × Bool) => ([.z q0, .z q1, .z q2, .od (s2 : List (Key × Bool)), .un] : List (Slot K))) ahead12 lea))))))) (fun s3 => (sx_nil (fun _ : Unit => ([.un, .un, .un, .un, .un] : List (Slot K))) () lea))))) (by unfold p_check_standsM; simp only [bnd])⟩
def p_check_stepsM (cx : Fin 3 → Addr) (q0 : List (List Mx)) : Option (Out Unit (Ek cx)) := (some (q0.length : Int)).bind fun many1 => (if (decide (many1 < (1 : Int))) = true then some true else some (decide ((60 : Int) < many1))).bind fun b => if b = true then (((some many1).bind fun j3 => fitI j3 ((some (60 : Int)).bind fun j2 => fitI j2 (some ()))).bind fun _ => some (Ek.mk 0 : Ek cx)).bind fun b => some (.rt b) else ((some (enumL q0)).bind fun xs => foldX (fun (s4 : Unit) (x6 : Int × (List Mx)) => ((((((fsI "steps of stand " x6.1).bind fun a12 => some ((a12, ()))).bind fun b13 => some (many1, b13)).bind fun b14 => some (x6.2, b14))).bind fun z7 => p_check_standsM cx z7.1 z7.2.1 z7.2.2.1).bind fun r => eOut r (if (decide ((x6.2.length : Int) = (0 : Int))) = true then (((some x6.1).bind fun j8 => fitI j8 (some ())).bind fun _ => some (Ek.mk 1 : Ek cx)).bind fun b => some (.rt b) else some (.nx ()))) xs ()).bind fun o => o.thn fun s5 => some (.nx ())
theorem sc_check_stepsM : FnScope ["steps", "many", "stand", "targets"] ["steps"] (defScope s_check_steps) := fsc
abbrev S_check_stepsM (K : PySem.W.Frag) (cx : Fin 3 → Addr) : Sp := spE K cx (fun a : ((List (List Mx))) × Unit => ([.z a.1] : List (Slot K))) (fun a => p_check_stepsM cx a.1)
theorem ok_check_stepsM (F : Fun K "check_steps" "check_steps" s_check_steps f fd) (B : Bl K mg) (X3 : ErrM K mg cx) (m_MOST_STANDS : mg "MOST_STANDS" = some (.int 60 t_MOST_STANDS)) (C_check_standsM : CalE P w K mg base k "check_stands" ["stands", "many", "where"] (S_check_standsM K cx)) : FnOk P w K mg base (CXX P w) (k + 1) f fd ["steps"] (S_check_stepsM K cx) := by
  refine def_okE F sc_check_stepsM (fun _ => rfl) (fun _ => rfl) fun cdv A outer s H E hr => ?_
  have nd := sc_check_stepsM.nd
  have nd := nd
  refine ⟨_, (pssm_cons (psm_of (ps_st 1 nd (pe_callB (c_lenK K) rfl B.len PySem.boot_len (pa_cons (pv 0) pa_nil)))) (pssm_cons (psm_if (PW.pt (pw_or (pt_cmpR op_lt (pv 1) pe_int (nomark _)) (pw_or1 (pt_cmpR op_gt (pv 1) (pe_glob (v := .int 60) rfl m_MOST_STANDS ⟨_, rfl⟩) (nomark _))))) (pssm_cons (psm_raise thr_cx rfl (X3.o 0) rfl X3.m0 (pa_cons (pe_joined (pj_val (pv 1) (pj_lit (pj_val (pe_glob (v := .int 60) rfl m_MOST_STANDS ⟨_, rfl⟩) pj_nil)))) pa_nil)) pssm_nil) pssm_nil) (pssm_cons (psm_for own_cx rfl (i_enumK K B.enum (pa_cons (pv 0) pa_nil)) (pg_tup rfl (pgs_cons (pg_n 2 nd) (pgs_cons (pg_n 3 nd) pgs_nil))) (pssm_cons (psm_cal C_check_standsM hr pass_cx (pa_cons (pv 3) (pa_cons (pv 1) (pa_cons (pe_fs (pv 2) (by decide)) pa_nil)))) (pssm_cons (psm_if (pt_cmpR (op_eqv K Int hr) (pe_callB (c_lenK K) rfl B.len PySem.boot_len (pa_cons (pv 3) pa_nil)) pe_int (nomark _)) (pssm_cons (psm_raise thr_cx rfl (X3.o 1) rfl X3.m1 (pa_cons (pe_joined (pj_lit (pj_val (pv 2) (pj_lit pj_nil)))) pa_nil)) pssm_nil) pssm_nil) pssm_nil))) pssm_nil))), ?_⟩
  rintro Fa ⟨q0, ⟨⟩⟩
  exact ⟨_, false, Sx.of (sx_cons (sn_set true 1 rfl rfl (esc (ex_len (ex_varF 0 rfl)))) (fun many1 => (sx_ifr (et_or (et_test (md := .hp) (ex_lt (ex_varS 1 rfl) (ex_int 1))) (et_test (md := .hp) (ex_gt (ex_varS 1 rfl) (ex_int 60)))) (sb_raiseM 0 rfl (ej_int (ex_varS 1 rfl) (ej_lit " stands, and not 1 to " (ej_int (ex_int 60) ej_nil)))) (sx_consx (sx_for (n := false) (L := (fun s4 : Unit => ([.z q0, .y many1, .un, .un] : List (Slot K)))) () lea (ei_enum (ex_var 0 rfl)) (fun s4 => (tg_tup 2 3 rfl rfl (fun _ => rfl) rfl)) (fun s4 x6 => (sx_dropM (as := (fun a : (List Mx) × Int × Str × Unit => ([.z a.1, .z a.2.1, .z a.2.2.1] : List (Slot K)))) (f := (fun a => p_check_standsM cx a.1 a.2.1 a.2.2.1)) (ea_cons (ex_varF 3 rfl) (ea_cons (esc (ex_varS 1 rfl)) (ea_cons (esc (ex_fsI "steps of stand " (ex_varS 2 rfl))) ea_nil))) (sx_ifr (et_test (md := .hp) (ex_eqv (ex_len (ex_varF 3 rfl)) (ex_int 0))) (sb_raiseM 1 rfl (ej_lit "stand " (ej_int (ex_varS 2 rfl) (ej_lit " has no step" ej_nil)))) (sx_nil (fun s4 : Unit => ([.z q0, .y many1, .un, .un] : List (Slot K))) () lea))))) (fun s5 => (sx_nil (fun _ : Unit => ([.un, .un, .un, .un] : List (Slot K))) () lea)))))) (by unfold p_check_stepsM; simp only [bnd])⟩
def p_check_marksM (cx : Fin 3 → Addr) (q0 : List (Str × (List Mx))) (q1 : Int) : Option (Out Unit (Ek cx)) := (some ()).bind fun ahead1 => ((some q0).bind fun xs => foldX (fun (s2 : List (Key × Bool)) (x4 : Str × (List Mx)) => ((p_is_name x4.1).bind fun a5 => some (!a5)).bind fun b => if b = true then (((some x4.1).bind fun j6 => fitR j6 (some ())).bind fun _ => some (Ek.mk 2 : Ek cx)).bind fun b => some (.rt b) else if ((dgetS (Dc.mk s2).kv x4.1).isSome) = true then (((some x4.1).bind fun j7 => fitS j7 (some ())).bind fun _ => some (Ek.mk 2 : Ek cx)).bind fun b => some (.rt b) else (dputS s2 x4.1 true).bind fun ahead8 => ((((((fsS "mark " x4.1).bind fun a13 => some ((a13, ()))).bind fun b14 => some (q1, b14)).bind fun b15 => some (x4.2, b15))).bind fun z9 => p_check_standsM cx z9.1 z9.2.1 z9.2.2.1).bind fun r => eOut r (some (.nx ahead8))) xs (([] : List (Key × Bool)))).bind fun o => o.thn fun s3 => some (.nx ())
theorem sc_check_marksM : FnScope ["marks", "many", "ahead", "name", "stands"] ["marks", "many"] (defScope s_check_marks) := fsc
abbrev S_check_marksM (K : PySem.W.Frag) (cx : Fin 3 → Addr) : Sp := spE K cx (fun a : ((List (Str × (List Mx)))) × Int × Unit => ([.z a.1, .z a.2.1] : List (Slot K))) (fun a => p_check_marksM cx a.1 a.2.1)
theorem ok_check_marksM (F : Fun K "check_marks" "check_marks" s_check_marks f fd) (B : Bl K mg) (X3 : ErrM K mg cx) (C_is_name : Cal P w K mg base k "is_name" ["name"] (S_is_name K)) (C_check_standsM : CalE P w K mg base k "check_stands" ["stands", "many", "where"] (S_check_standsM K cx)) : FnOk P w K mg base (CXX P w) (k + 1) f fd ["marks", "many"] (S_check_marksM K cx) := by
  refine def_okE F sc_check_marksM (fun _ => rfl) (fun _ => rfl) fun cdv A outer s H E hr => ?_
  have nd := sc_check_marksM.nd
  have nd := nd
  have hu := hu_of hr
  refine ⟨_, (pssm_cons (psm_of (ps_st 2 nd pe_dnewK)) (pssm_cons (psm_for own_cx rfl (i_listK K (pv 0)) (pg_tup rfl (pgs_cons (pg_n 3 nd) (pgs_cons (pg_n 4 nd) pgs_nil))) (pssm_cons (psm_if (pt_not (pt_val (p_cal C_is_name hr (pa_cons (pv 3) pa_nil)))) (pssm_cons (psm_raise thr_cx rfl (X3.o 2) rfl X3.m2 (pa_cons (pe_joined (pj_rep (pv 3) (pj_lit pj_nil))) pa_nil)) pssm_nil) pssm_nil) (pssm_cons (psm_if (pt_cmp (pc_din hu (pv 3) (pv 2))) (pssm_cons (psm_raise thr_cx rfl (X3.o 2) rfl X3.m2 (pa_cons (pe_joined (pj_lit (pj_val (pv 3) pj_nil))) pa_nil)) pssm_nil) pssm_nil) (pssm_cons (psm_of (ps_dput hu (pv 2) (pv 3) pe_bl rfl)) (pssm_cons (psm_cal C_check_standsM hr pass_cx (pa_cons (pv 4) (pa_cons (pv 1) (pa_cons (pe_fs (pv 3) (by decide)) pa_nil)))) pssm_nil))))) pssm_nil)), ?_⟩
  rintro Fa ⟨q0, q1, ⟨⟩⟩
  exact ⟨_, false, Sx.of (sx_cons (sn_dnew (α := Bool) 2 rfl rfl) (fun ahead1 => (sx_consx (sx_for (n := false) (L := (fun s2 : List (Key × Bool) => ([.z q0, .z q1, .od (s2 : List (Key × Bool)), .un, .un] : List (Slot K)))) (([] : List (Key × Bool))) lea (ei_list (ex_var 0 rfl)) (fun s2 => (tg_tup 3 4 rfl rfl (fun _ => rfl) rfl)) (fun s2 x4 => (sx_ifr (et_not (et_b (md := .hp) (ex_call (ea_cons (esc (ex_varS 3 rfl)) ea_nil)))) (sb_raiseM 2 rfl (ej_reps (ex_varS 3 rfl) (ej_lit " is no name of a mark" ej_nil))) (sx_ifr (et_b (md := .hp) (ex_dinS (ex_varS 3 rfl) (ex_varD 2 rfl))) (sb_raiseM 2 rfl (ej_lit "two marks are called " (ej_str (ex_varS 3 rfl) ej_nil))) (sx_cons (sn_dputS 2 rfl rfl (esc (ex_bl true)) (ex_varS 3 rfl)) (fun ahead8 => (sx_dropM (as := (fun a : (List Mx) × Int × Str × Unit => ([.z a.1, .z a.2.1, .z a.2.2.1] : List (Slot K)))) (f := (fun a => p_check_standsM cx a.1 a.2.1 a.2.2.1)) (ea_cons (ex_varF 4 rfl) (ea_cons (esc (ex_varS 1 rfl)) (ea_cons (esc (ex_fsS "mark " (ex_varS 3 rfl))) ea_nil))) (sx_nil (fun s2 : List (Key × Bool) => ([.z q0, .z q1, .od (s2 : List (Key × Bool)), .un, .un] : List (Slot K))) ahead8 lea)))))))) (fun s3 => (sx_nil (fun _ : Unit => ([.un, .un, .un, .un, .un] : List (Slot K))) () lea))))) (by unfold p_check_marksM; simp only [bnd])⟩
def p_check_fairM (cx : Fin 3 → Addr) (q0 : List (List Mx)) (q1 : Int) : Option (Out Unit (Ek cx)) := ((some (enumL q0)).bind fun xs => foldX (fun (s1 : Unit) (x3 : Int × (List Mx)) => ((((((fsI "fair set " x3.1).bind fun a8 => some ((a8, ()))).bind fun b9 => some (q1, b9)).bind fun b10 => some (x3.2, b10))).bind fun z4 => p_check_standsM cx z4.1 z4.2.1 z4.2.2.1).bind fun r => eOut r (some (.nx ()))) xs ()).bind fun o => o.thn fun s2 => some (.nx ())
theorem sc_check_fairM : FnScope ["fair", "many", "number", "stands"] ["fair", "many"] (defScope s_check_fair) := fsc
abbrev S_check_fairM (K : PySem.W.Frag) (cx : Fin 3 → Addr) : Sp := spE K cx (fun a : ((List (List Mx))) × Int × Unit => ([.z a.1, .z a.2.1] : List (Slot K))) (fun a => p_check_fairM cx a.1 a.2.1)
theorem ok_check_fairM (F : Fun K "check_fair" "check_fair" s_check_fair f fd) (B : Bl K mg) (C_check_standsM : CalE P w K mg base k "check_stands" ["stands", "many", "where"] (S_check_standsM K cx)) : FnOk P w K mg base (CXX P w) (k + 1) f fd ["fair", "many"] (S_check_fairM K cx) := by
  refine def_okE F sc_check_fairM (fun _ => rfl) (fun _ => rfl) fun cdv A outer s H E hr => ?_
  have nd := sc_check_fairM.nd
  have nd := nd
  refine ⟨_, (pssm_cons (psm_for own_cx rfl (i_enumK K B.enum (pa_cons (pv 0) pa_nil)) (pg_tup rfl (pgs_cons (pg_n 2 nd) (pgs_cons (pg_n 3 nd) pgs_nil))) (pssm_cons (psm_cal C_check_standsM hr pass_cx (pa_cons (pv 3) (pa_cons (pv 1) (pa_cons (pe_fs (pv 2) (by decide)) pa_nil)))) pssm_nil)) pssm_nil), ?_⟩
  rintro Fa ⟨q0, q1, ⟨⟩⟩
  exact ⟨_, false, Sx.of (sx_consx (sx_for (n := false) (L := (fun s1 : Unit => ([.z q0, .z q1, .un, .un] : List (Slot K)))) () lea (ei_enum (ex_var 0 rfl)) (fun s1 => (tg_tup 2 3 rfl rfl (fun _ => rfl) rfl)) (fun s1 x3 => (sx_dropM (as := (fun a : (List Mx) × Int × Str × Unit => ([.z a.1, .z a.2.1, .z a.2.2.1] : List (Slot K)))) (f := (fun a => p_check_standsM cx a.1 a.2.1 a.2.2.1)) (ea_cons (ex_varF 3 rfl) (ea_cons (esc (ex_varS 1 rfl)) (ea_cons (esc (ex_fsI "fair set " (ex_varS 2 rfl))) ea_nil))) (sx_nil (fun s1 : Unit => ([.z q0, .z q1, .un, .un] : List (Slot K))) () lea)))) (fun s2 => (sx_nil (fun _ : Unit => ([.un, .un, .un, .un] : List (Slot K))) () lea))) (by unfold p_check_fairM; simp only [bnd])⟩
end
end Ts
set_option maxHeartbeats 40000000
namespace Ts
open PySem L2
section
variable {P : Program} {w : World} {K : PySem.W.Frag} {mg : Str → Option Value} {base : Heap}
seal L2.PE L2.PT L2.PW L2.PA L2.PS L2.PSs L2.PC L2.PG L2.PGs L2.PI L2.PIfs L2.PO
def p_l_named (q0 : Str) : Option Bool := (some ([("all" : Str), ("not" : Str), ("both" : Str), ("either" : Str), ("somenext" : Str), ("eachnext" : Str), ("sometill" : Str), ("eachtill" : Str), ("someever" : Str), ("eachever" : Str)])).bind fun words1 => (if (decide (q0 ∈ words1)) = true then some true else ((lenS q0).bind fun a2 => some (decide (a2 < (1 : Int)))).bind fun c4 => if c4 = true then some true else (lenS q0).bind fun a3 => some (decide ((8 : Int) < a3))).bind fun b => if b = true then some false else ((some (signs q0)).bind fun xs => foldX (fun (s5 : Unit) (x7 : Str) => if (!inS x7 ("abcdefghijklmnopqrstuvwxyz" : Str)) = true then (some false).bind fun b => some (.rt b) else some (.nx ())) xs ()).bind fun o => o.els fun s6 => some true
theorem sc_l_named : FnScope ["_law_name", "_law_words", "_law_sign"] ["_law_name"] (defScope s_l_named) := fsc
abbrev S_l_named (K : PySem.W.Frag) : Sp := spF K false (fun a : Str × Unit => ([.z a.1] : List (Slot K))) (fun a => p_l_named a.1)
theorem ok_l_named (F : Fun K "_law_named" "_law_named" s_l_named f fd) (B : Bl K mg) : FnOk P w K mg base CX0 (k + 1) f fd ["_law_name"] (S_l_named K) := by
  refine def_ok F sc_l_named (fun _ => rfl) (fun _ => rfl) fun cdv A outer s H E hr => ?_
  have nd := sc_l_named.nd
  refine ⟨_, (pss_cons (ps_st 1 nd (pe_lst (pa_cons pe_str (pa_cons pe_str (pa_cons pe_str (pa_cons pe_str (pa_cons pe_str (pa_cons pe_str (pa_cons pe_str (pa_cons pe_str (pa_cons pe_str (pa_cons pe_str pa_nil)))))))))))) (pss_cons (ps_if (PW.pt (pw_or (pt_cmpR (op_inK K) (pv 0) (pv 1) (by with_unfolding_all rfl)) (pw_or (pt_cmpR op_lt (pe_callB call_lenS rfl B.len PySem.boot_len (pa_cons (pv 0) pa_nil)) pe_int (nomark _)) (pw_or1 (pt_cmpR op_gt (pe_callB call_lenS rfl B.len PySem.boot_len (pa_cons (pv 0) pa_nil)) pe_int (nomark _)))))) (pss_cons (ps_ret pe_bl) pss_nil) pss_nil) (pss_cons (ps_for PassesOwn.never rfl (pi_str (pv 0)) (pg_n 2 nd) (pss_cons (ps_if (pt_cmpR op_notin_str (pv 2) pe_str (by with_unfolding_all rfl)) (pss_cons (ps_ret pe_bl) pss_nil) pss_nil) pss_nil)) (pss_cons (ps_ret pe_bl) pss_nil)))), ?_⟩
  rintro Fa ⟨q0, ⟨⟩⟩
  exact SB.of (sb_cons (sn_set true 1 rfl rfl (eo_lst (el_cons (esc (ex_str "all")) (el_cons (esc (ex_str "not")) (el_cons (esc (ex_str "both")) (el_cons (esc (ex_str "either")) (el_cons (esc (ex_str "somenext")) (el_cons (esc (ex_str "eachnext")) (el_cons (esc (ex_str "sometill")) (el_cons (esc (ex_str "eachtill")) (el_cons (esc (ex_str "someever")) (el_cons (esc (ex_str "eachever")) el_nil)))))))))) (fun a h => Nat.le_trans ((el_len (el_len (el_len (el_len (el_len (el_len (el_len (el_len (el_len (el_len el_len0)))))))))) a h) (by decide))).ex) (fun words1 => (sb_ifr (et_or (et_test (md := .hp) (ex_in (ex_varS 0 rfl) (ex_varF 1 rfl))) (et_or (et_test (md := .hp) (ex_lt (ex_lenS (ex_varS 0 rfl)) (ex_int 1))) (et_test (md := .hp) (ex_gt (ex_lenS (ex_varS 0 rfl)) (ex_int 8))))) (sb_ret (esc (ex_bl false))) (sb_consx (sx_for (n := true) (L := (fun s5 : Unit => ([.z q0, .y words1, .un] : List (Slot K)))) () lea (ei_str (ex_varS 0 rfl)) (fun s5 => (tg_name 2 rfl rfl)) (fun s5 x7 => (sx_ifr (et_test (md := .hp) (ex_ninS (ex_varS 2 rfl) (ex_str "abcdefghijklmnopqrstuvwxyz"))) (sb_ret (esc (ex_bl false))) (sx_nil (fun s5 : Unit => ([.z q0, .y words1, .un] : List (Slot K))) () lea)))) (fun s6 => (sb_ret (esc (ex_bl true)))))))) (by unfold p_l_named; simp only [bnd])
def p_l_stands (q0 : List Mx) (q1 : Int) : Option Bool := ((rangeM (q0.length : Int)).bind fun xs => foldX (fun (s1 : Unit) (x3 : Int) => ((((atI q0 x3).bind fun a4 => some (isiI a4)).bind fun a5 => some (!a5)).bind fun c13 => if c13 = true then some true else ((atI q0 x3).bind fun a6 => some (isiB a6)).bind fun c12 => if c12 = true then some true else (((atI q0 x3).bind fun a7 => mxI a7).bind fun a8 => some (decide (a8 < (0 : Int)))).bind fun c11 => if c11 = true then some true else ((atI q0 x3).bind fun a9 => mxI a9).bind fun a10 => some (decide (q1 ≤ a10))).bind fun b => if b = true then (some false).bind fun b => some (.rt b) else (((atI q0 x3).bind fun a14 => mxI a14).bind fun a15 => (mxL (cutL q0 none (some x3))).bind fun b16 => some (decide (a15 ∈ b16))).bind fun b => if b = true then (some false).bind fun b => some (.rt b) else some (.nx ())) xs ()).bind fun o => o.els fun s2 => some true
theorem sc_l_stands : FnScope ["_law_some", "_law_many", "_law_k"] ["_law_some", "_law_many"] (defScope s_l_stands) := fsc
abbrev S_l_stands (K : PySem.W.Frag) : Sp := spF K false (fun a : (List Mx) × Int × Unit => ([.z a.1, .z a.2.1] : List (Slot K))) (fun a => p_l_stands a.1 a.2.1)
theorem ok_l_stands (F : Fun K "_law_stands" "_law_stands" s_l_stands f fd) (B : Bl K mg) : FnOk P w K mg base CX0 (k + 1) f fd ["_law_some", "_law_many"] (S_l_stands K) := by
  refine def_ok F sc_l_stands (fun _ => rfl) (fun _ => rfl) fun cdv A outer s H E hr => ?_
  have nd := sc_l_stands.nd
  refine ⟨_, (pss_cons (ps_for PassesOwn.never rfl (pi_range1 rfl B.range (pa_cons (pe_callB (c_lenK K) rfl B.len PySem.boot_len (pa_cons (pv 0) pa_nil)) pa_nil)) (pg_n 2 nd) (pss_cons (ps_if (PW.pt (pw_or (pt_not (pt_val (pe_callB (c_isiK K (rel_ty (n := "int"))) rfl B.isi bt_isi (pa_cons (pe_ix (ixLK K) (pv 0) (pv 2) (fun _ _ => rfl)) (pa_cons (pe_bltn (v := .ty "int") rfl B.int bt_int rfl) pa_nil))))) (pw_or (pt_val (pe_callB (c_isiK K (rel_ty (n := "bool"))) rfl B.isi bt_isi (pa_cons (pe_ix (ixLK K) (pv 0) (pv 2) (fun _ _ => rfl)) (pa_cons (pe_bltn (v := .ty "bool") rfl B.bool bt_bool rfl) pa_nil)))) (pw_or (pt_cmpR op_lt (pe_ix (ixLK K) (pv 0) (pv 2) (fun _ _ => rfl)) pe_int (nomark _)) (pw_or1 (pt_cmpR op_ge (pe_ix (ixLK K) (pv 0) (pv 2) (fun _ _ => rfl)) (pv 1) (nomark _))))))) (pss_cons (ps_ret pe_bl) pss_nil) pss_nil) (pss_cons (ps_if (pt_cmpR (op_inK K) (pe_ix (ixLK K) (pv 0) (pv 2) (fun _ _ => rfl)) (pe_slice (slLK K) (pv 0) po_none (po_some (pv 2))) (by with_unfolding_all rfl)) (pss_cons (ps_ret pe_bl) pss_nil) pss_nil) pss_nil))) (pss_cons (ps_ret pe_bl) pss_nil)), ?_⟩
  rintro Fa ⟨q0, q1, ⟨⟩⟩
  exact SB.of (sb_consx (sx_for (n := true) (L := (fun s1 : Unit => ([.z q0, .z q1, .un] : List (Slot K)))) () lea (ei_range (ex_len (ex_varF 0 rfl))) (fun s1 => (tg_name 2 rfl rfl)) (fun s1 x3 => (sx_ifr (et_or (et_not (et_b (md := .hp) (ex_isMI (esc (ex_ix (ex_varF 0 rfl) (ex_varS 2 rfl)))))) (et_or (et_b (md := .hp) (ex_isMB (esc (ex_ix (ex_varF 0 rfl) (ex_varS 2 rfl))))) (et_or (et_test (md := .hp) (ex_lt (ex_mxI (esc (ex_ix (ex_varF 0 rfl) (ex_varS 2 rfl)))) (ex_int 0))) (et_test (md := .hp) (ex_ge (ex_mxI (esc (ex_ix (ex_varF 0 rfl) (ex_varS 2 rfl)))) (ex_varS 1 rfl)))))) (sb_ret (esc (ex_bl false))) (sx_ifr (et_test (md := .hp) (ex_in (ex_mxI (esc (ex_ix (ex_varF 0 rfl) (ex_varS 2 rfl)))) (ex_mxL (eo_cutHiG (ex_varF 0 rfl) (ex_varS 2 rfl)).ex))) (sb_ret (esc (ex_bl false))) (sx_nil (fun s1 : Unit => ([.z q0, .z q1, .un] : List (Slot K))) () lea))))) (fun s2 => (sb_ret (esc (ex_bl true))))) (by unfold p_l_stands; simp only [bnd])
def p_l_due (q0 : Tri (List (List Mx)) (List (Str × (List Mx))) (List (List Mx))) : Option Str := (some q0).bind fun v1 => (some (v1.a.length : Int)).bind fun many2 => (if (decide (many2 < (1 : Int))) = true then some true else some (decide ((60 : Int) < many2))).bind fun b => if b = true then some ("stand" : Str) else ((some v1.a).bind fun xs => foldX (fun (s3 : Unit) (x5 : List Mx) => ((p_l_stands x5 many2).bind fun a6 => some (!a6)).bind fun b => if b = true then (some ("stand" : Str)).bind fun b => some (.rt b) else if (if false = true then !x5.isEmpty else x5.isEmpty) = true then (some ("step" : Str)).bind fun b => some (.rt b) else some (.nx ())) xs ()).bind fun o => o.els fun s4 => ((rangeM (v1.b.length : Int)).bind fun xs => foldX (fun (s7 : Unit) (x9 : Int) => ((((((atI v1.b x9).bind fun a10 => some a10.1).bind fun a12 => some ((a12, ()))).bind fun z11 => p_l_named z11.1).bind fun a13 => some (!a13)).bind fun c18 => if c18 = true then some true else ((atI v1.b x9).bind fun a15 => some a15.1).bind fun a16 => ((some (cutL v1.b none (some x9))).bind fun xs => compL (fun (x14 : Str × (List Mx)) => some true) (fun (x14 : Str × (List Mx)) => some x14.1) xs).bind fun b17 => some (decide (a16 ∈ b17))).bind fun b => if b = true then (some ("mark" : Str)).bind fun b => some (.rt b) else (((((atI v1.b x9).bind fun a19 => some a19.2).bind fun a21 => some ((a21, (many2, ())))).bind fun z20 => p_l_stands z20.1 z20.2.1).bind fun a22 => some (!a22)).bind fun b => if b = true then (some ("stand" : Str)).bind fun b => some (.rt b) else some (.nx ())) xs ()).bind fun o => o.els fun s8 => ((some v1.c).bind fun xs => foldX (fun (s23 : Unit) (x25 : List Mx) => ((p_l_stands x25 many2).bind fun a26 => some (!a26)).bind fun b => if b = true then (some ("stand" : Str)).bind fun b => some (.rt b) else some (.nx ())) xs ()).bind fun o => o.els fun s24 => some ("by" : Str)
theorem sc_l_due : FnScope ["_law_parts", "_law_steps", "_law_marks", "_law_fair", "_law_many", "_law_some", "_law_k"] ["_law_parts"] (defScope s_l_due) := fsc
abbrev S_l_due (K : PySem.W.Frag) : Sp := spF K false (fun a : ((Tri (List (List Mx)) (List (Str × (List Mx))) (List (List Mx)))) × Unit => ([.z a.1] : List (Slot K))) (fun a => p_l_due a.1)
theorem ok_l_due (F : Fun K "_law_due" "_law_due" s_l_due f fd) (B : Bl K mg) (C_l_named : Cal P w K mg base k "_law_named" ["_law_name"] (S_l_named K)) (C_l_stands : Cal P w K mg base k "_law_stands" ["_law_some", "_law_many"] (S_l_stands K)) : FnOk P w K mg base CX0 (k + 1) f fd ["_law_parts"] (S_l_due K) := by
  refine def_ok F sc_l_due (fun _ => rfl) (fun _ => rfl) fun cdv A outer s H E hr => ?_
  have nd := sc_l_due.nd
  refine ⟨_, (pss_cons (ps_asg (pv 0) (pg_tup rfl (pgs_cons (pg_n 1 nd) (pgs_cons (pg_n 2 nd) (pgs_cons (pg_n 3 nd) pgs_nil))))) (pss_cons (ps_st 4 nd (pe_callB (c_lenK K) rfl B.len PySem.boot_len (pa_cons (pv 1) pa_nil))) (pss_cons (ps_if (PW.pt (pw_or (pt_cmpR op_lt (pv 4) pe_int (nomark _)) (pw_or1 (pt_cmpR op_gt (pv 4) pe_int (nomark _))))) (pss_cons (ps_ret pe_str) pss_nil) pss_nil) (pss_cons (ps_for PassesOwn.never rfl (i_listK K (pv 1)) (pg_n 5 nd) (pss_cons (ps_if (pt_not (pt_val (p_cal C_l_stands hr (pa_cons (pv 5) (pa_cons (pv 4) pa_nil))))) (pss_cons (ps_ret pe_str) pss_nil) pss_nil) (pss_cons (ps_if (pt_cmpR (op_eqN hr) (pv 5) (pe_lst pa_nil) (nomark _)) (pss_cons (ps_ret pe_str) pss_nil) pss_nil) pss_nil))) (pss_cons (ps_for PassesOwn.never rfl (pi_range1 rfl B.range (pa_cons (pe_callB (c_lenK K) rfl B.len PySem.boot_len (pa_cons (pv 2) pa_nil)) pa_nil)) (pg_n 6 nd) (pss_cons (ps_if (PW.pt (pw_or (pt_not (pt_val (p_cal C_l_named hr (pa_cons (pe_ix (ixTK K) (pe_ix (ixLK K) (pv 2) (pv 6) (fun _ _ => rfl)) pe_int (fun _ _ => rfl)) pa_nil)))) (pw_or1 (pt_cmpR (op_inK K) (pe_ix (ixTK K) (pe_ix (ixLK K) (pv 2) (pv 6) (fun _ _ => rfl)) pe_int (fun _ _ => rfl)) (pe_comp (own := ["_law_pair"]) (ix := []) rfl rfl rfl (i_listK K (pe_slice (slLK K) (pv 2) po_none (po_some (pv 6)))) (fun C s H fp => pg_name (i := 0) (show (["_law_pair"] : List Str).Nodup from by decide +kernel) rfl (Or.inl rfl)) (fun C s H fp => pif_nil) (fun C s H fp => (pe_ix (ixTK K) (pv 0) pe_int (fun _ _ => rfl)))) (by with_unfolding_all rfl))))) (pss_cons (ps_ret pe_str) pss_nil) pss_nil) (pss_cons (ps_if (pt_not (pt_val (p_cal C_l_stands hr (pa_cons (pe_ix (ixTK K) (pe_ix (ixLK K) (pv 2) (pv 6) (fun _ _ => rfl)) pe_int (fun _ _ => rfl)) (pa_cons (pv 4) pa_nil))))) (pss_cons (ps_ret pe_str) pss_nil) pss_nil) pss_nil))) (pss_cons (ps_for PassesOwn.never rfl (i_listK K (pv 3)) (pg_n 5 nd) (pss_cons (ps_if (pt_not (pt_val (p_cal C_l_stands hr (pa_cons (pv 5) (pa_cons (pv 4) pa_nil))))) (pss_cons (ps_ret pe_str) pss_nil) pss_nil) pss_nil)) (pss_cons (ps_ret pe_str) pss_nil))))))), ?_⟩
  rintro Fa ⟨q0, ⟨⟩⟩
  exact SB.of (sb_cons (sn_tgE (n := false) (ex_var 0 rfl) (tg_tup3 1 2 3 rfl rfl (fun _ => rfl) rfl (fun _ _ => rfl) rfl)) (fun v1 => (sb_cons (sn_set true 4 rfl rfl (esc (ex_len (ex_varF 1 rfl)))) (fun many2 => (sb_ifr (et_or (et_test (md := .hp) (ex_lt (ex_varS 4 rfl) (ex_int 1))) (et_test (md := .hp) (ex_gt (ex_varS 4 rfl) (ex_int 60)))) (sb_ret (esc (ex_str "stand"))) (sb_consx (sx_for (n := false) (L := (fun s3 : Unit => ([.z q0, .z v1.a, .z v1.b, .z v1.c, .y many2, .un, .un] : List (Slot K)))) () lea (ei_list (ex_var 1 rfl)) (fun s3 => (tg_name 5 rfl rfl)) (fun s3 x5 => (sx_ifr (et_not (et_b (md := .hp) (ex_call (ea_cons (ex_varF 5 rfl) (ea_cons (esc (ex_varS 4 rfl)) ea_nil))))) (sb_ret (esc (ex_str "stand"))) (sx_ifr (et_test (md := .hp) (ex_nilC (neg := false) (ex_varF 5 rfl))) (sb_ret (esc (ex_str "step"))) (sx_nil (fun s3 : Unit => ([.z q0, .z v1.a, .z v1.b, .z v1.c, .y many2, .un, .un] : List (Slot K))) () lea))))) (fun s4 => (sb_consx (sx_for (n := true) (L := (fun s7 : Unit => ([.z q0, .z v1.a, .z v1.b, .z v1.c, .y many2, .un, .un] : List (Slot K)))) () lea (ei_range (ex_len (ex_varF 2 rfl))) (fun s7 => (tg_name 6 rfl rfl)) (fun s7 x9 => (sx_ifr (et_or (et_not (et_b (md := .hp) (ex_call (ea_cons (esc (esc (ex_fst (ex_ix (ex_varF 2 rfl) (ex_varS 6 rfl)) (ex_int 0)))) ea_nil)))) (et_test (md := .hp) (ex_in (esc (ex_fst (ex_ix (ex_varF 2 rfl) (ex_varS 6 rfl)) (ex_int 0))) (eo_comp (n := false) (slI := [.un]) (no := 1) (ix := []) rfl rfl (ei_list (eo_cutHiG (ex_var 2 rfl) (ex_varS 6 rfl)).ex) (tg_name 0 rfl rfl) (fun x14 => et_if0) (fun x14 => (esc (esc (ex_fst (ex_varF 0 rfl) (ex_int 0))))) (fun x14 => lea0)).ex))) (sb_ret (esc (ex_str "mark"))) (sx_ifr (et_not (et_b (md := .hp) (ex_call (ea_cons (ex_snd (ex_ix (ex_varF 2 rfl) (ex_varS 6 rfl)) (ex_int 1)) (ea_cons (esc (ex_varS 4 rfl)) ea_nil))))) (sb_ret (esc (ex_str "stand"))) (sx_nil (fun s7 : Unit => ([.z q0, .z v1.a, .z v1.b, .z v1.c, .y many2, .un, .un] : List (Slot K))) () lea))))) (fun s8 => (sb_consx (sx_for (n := false) (L := (fun s23 : Unit => ([.z q0, .z v1.a, .z v1.b, .z v1.c, .y many2, .un, .un] : List (Slot K)))) () lea (ei_list (ex_var 3 rfl)) (fun s23 => (tg_name 5 rfl rfl)) (fun s23 x25 => (sx_ifr (et_not (et_b (md := .hp) (ex_call (ea_cons (ex_varF 5 rfl) (ea_cons (esc (ex_varS 4 rfl)) ea_nil))))) (sb_ret (esc (ex_str "stand"))) (sx_nil (fun s23 : Unit => ([.z q0, .z v1.a, .z v1.b, .z v1.c, .y many2, .un, .un] : List (Slot K))) () lea)))) (fun s24 => (sb_ret (esc (ex_str "by")))))))))))))) (by unfold p_l_due; simp only [bnd])
def p_l_bad_name (q0 : Int) : Option Str := (some ("abcdefghijklmnopqrstuvwxyz" : Str)).bind fun letters1 => (some ((" !\"#$&'()*+,-./0123456789:;<=>?@ABCDEFGHIJKLMNOPQRSTUVWXYZ[\\]^_`{|}~" : Str))).bind fun others2 => (some ([("all" : Str), ("not" : Str), ("both" : Str), ("either" : Str), ("somenext" : Str), ("eachnext" : Str), ("sometill" : Str), ("eachtill" : Str), ("someever" : Str), ("eachever" : Str)])).bind fun words3 => (modM q0 (5 : Int)).bind fun way4 => (divM q0 (5 : Int)).bind fun cellhere5 => if (decide (way4 = (0 : Int))) = true then (modM cellhere5 (3 : Int)).bind fun b6 => atI ([("" : Str), ("somealways" : Str), ("eachalways" : Str)]) b6 else if (decide (way4 = (1 : Int))) = true then (((((divM cellhere5 (26 : Int)).bind fun a7 => modM a7 (9 : Int)).bind fun b8 => some ((9 : Int) + b8)).bind fun a9 => rangeM a9).bind fun xs => compL (fun (x10 : Int) => some true) (fun (x10 : Int) => (modM (cellhere5 + x10) (26 : Int)).bind fun b11 => ixS letters1 b11) xs).bind fun a12 => joinM "" a12 else if (decide (way4 = (2 : Int))) = true then (modM cellhere5 (10 : Int)).bind fun b13 => atI words3 b13 else if (decide (way4 = (3 : Int))) = true then ((modM cellhere5 (10 : Int)).bind fun b14 => atI words3 b14).bind fun a15 => cutB a15 (1 : Int) else ((modM cellhere5 (8 : Int)).bind fun b17 => some ((1 : Int) + b17)).bind fun size16 => ((divM cellhere5 (8 : Int)).bind fun a19 => modM a19 size16).bind fun spot18 => (((rangeM size16).bind fun xs => compL (fun (x21 : Int) => some true) (fun (x21 : Int) => ((divM cellhere5 (5000 : Int)).bind fun a22 => modM a22 (26 : Int)).bind fun b23 => ixS letters1 b23) xs).bind fun a24 => joinM "" a24).bind fun base20 => ((cutT base20 spot18).bind fun a28 => (((divM cellhere5 (64 : Int)).bind fun a25 => (lenS others2).bind fun b26 => modM a25 b26).bind fun b27 => ixS others2 b27).bind fun b29 => addT a28 b29).bind fun a30 => (cutB base20 (spot18 + (1 : Int))).bind fun b31 => addT a30 b31
theorem sc_l_bad_name : FnScope ["_law_cell_here", "_law_letters", "_law_others", "_law_words", "_law_way", "_law_size", "_law_spot", "_law_base"] ["_law_cell_here"] (defScope s_l_bad_name) := fsc
abbrev S_l_bad_name (K : PySem.W.Frag) : Sp := spF K false (fun a : Int × Unit => ([.z a.1] : List (Slot K))) (fun a => p_l_bad_name a.1)
theorem ok_l_bad_name (F : Fun K "_law_bad_name" "_law_bad_name" s_l_bad_name f fd) (B : Bl K mg) : FnOk P w K mg base CX0 (k + 1) f fd ["_law_cell_here"] (S_l_bad_name K) := by
  refine def_ok F sc_l_bad_name (fun _ => rfl) (fun _ => rfl) fun cdv A outer s H E hr => ?_
  have nd := sc_l_bad_name.nd
  refine ⟨_, (pss_cons (ps_st 1 nd pe_str) (pss_cons (ps_st 2 nd pe_str) (pss_cons (ps_st 3 nd (pe_lst (pa_cons pe_str (pa_cons pe_str (pa_cons pe_str (pa_cons pe_str (pa_cons pe_str (pa_cons pe_str (pa_cons pe_str (pa_cons pe_str (pa_cons pe_str (pa_cons pe_str pa_nil)))))))))))) (pss_cons (ps_st 4 nd (pe_op op_mod (pv 0) pe_int)) (pss_cons (ps_st 0 nd (pe_op op_fdiv (pv 0) pe_int)) (pss_cons (ps_if (pt_cmpR (op_eqv K Int hr) (pv 4) pe_int (nomark _)) (pss_cons (ps_ret (pe_ix (ixLK K) (pe_lst (pa_cons pe_str (pa_cons pe_str (pa_cons pe_str pa_nil)))) (pe_op op_mod (pv 0) pe_int) (fun _ _ => rfl))) pss_nil) pss_nil) (pss_cons (ps_if (pt_cmpR (op_eqv K Int hr) (pv 4) pe_int (nomark _)) (pss_cons (ps_ret (p_bmK K PySem.F.plainAttrs_str PySem.F.slot_str_join PySem.F.type_str_join (mt_join K) pe_str (pa_cons (pe_comp (own := ["_law_k"]) (ix := [1, 0]) rfl rfl rfl (pi_range1 rfl B.range (pa_cons (pe_op op_add pe_int (pe_op op_mod (pe_op op_fdiv (pv 0) pe_int) pe_int)) pa_nil)) (fun C s H fp => pg_name (i := 0) (show (["_law_k", "_law_letters", "_law_cell_here"] : List Str).Nodup from by decide +kernel) rfl (Or.inl rfl)) (fun C s H fp => pif_nil) (fun C s H fp => (pe_ixS (pv 1) (pe_op op_mod (pe_op op_add (pv 2) (pv 0)) pe_int) (fun _ _ => rfl)))) pa_nil))) pss_nil) pss_nil) (pss_cons (ps_if (pt_cmpR (op_eqv K Int hr) (pv 4) pe_int (nomark _)) (pss_cons (ps_ret (pe_ix (ixLK K) (pv 3) (pe_op op_mod (pv 0) pe_int) (fun _ _ => rfl))) pss_nil) pss_nil) (pss_cons (ps_if (pt_cmpR (op_eqv K Int hr) (pv 4) pe_int (nomark _)) (pss_cons (ps_ret (pe_slice sl_strB (pe_ix (ixLK K) (pv 3) (pe_op op_mod (pv 0) pe_int) (fun _ _ => rfl)) (po_some pe_int) po_none)) pss_nil) pss_nil) (pss_cons (ps_st 5 nd (pe_op op_add pe_int (pe_op op_mod (pv 0) pe_int))) (pss_cons (ps_st 6 nd (pe_op op_mod (pe_op op_fdiv (pv 0) pe_int) (pv 5))) (pss_cons (ps_st 7 nd (p_bmK K PySem.F.plainAttrs_str PySem.F.slot_str_join PySem.F.type_str_join (mt_join K) pe_str (pa_cons (pe_comp (own := ["_law_k"]) (ix := [1, 0]) rfl rfl rfl (pi_range1 rfl B.range (pa_cons (pv 5) pa_nil)) (fun C s H fp => pg_name (i := 0) (show (["_law_k", "_law_letters", "_law_cell_here"] : List Str).Nodup from by decide +kernel) rfl (Or.inl rfl)) (fun C s H fp => pif_nil) (fun C s H fp => (pe_ixS (pv 1) (pe_op op_mod (pe_op op_fdiv (pv 2) pe_int) pe_int) (fun _ _ => rfl)))) pa_nil))) (pss_cons (ps_ret (pe_op op_addS (pe_op op_addS (pe_slice sl_str (pv 7) po_none (po_some (pv 6))) (pe_ixS (pv 2) (pe_op op_mod (pe_op op_fdiv (pv 0) pe_int) (pe_callB call_lenS rfl B.len PySem.boot_len (pa_cons (pv 2) pa_nil))) (fun _ _ => rfl))) (pe_slice sl_strB (pv 7) (po_some (pe_op op_add (pv 6) pe_int)) po_none))) pss_nil))))))))))))), ?_⟩
  rintro Fa ⟨q0, ⟨⟩⟩
  exact SB.of (sb_cons (sn_set true 1 rfl rfl (esc (ex_str "abcdefghijklmnopqrstuvwxyz"))) (fun letters1 => (sb_cons (sn_set true 2 rfl rfl (esc (ex_str " !\"#$&'()*+,-./0123456789:;<=>?@ABCDEFGHIJKLMNOPQRSTUVWXYZ[\\]^_`{|}~"))) (fun others2 => (sb_cons (sn_set true 3 rfl rfl (eo_lst (el_cons (esc (ex_str "all")) (el_cons (esc (ex_str "not")) (el_cons (esc (ex_str "both")) (el_cons (esc (ex_str "either")) (el_cons (esc (ex_str "somenext")) (el_cons (esc (ex_str "eachnext")) (el_cons (esc (ex_str "sometill")) (el_cons (esc (ex_str "eachtill")) (el_cons (esc (ex_str "someever")) (el_cons (esc (ex_str "eachever")) el_nil)))))))))) (fun a h => Nat.le_trans ((el_len (el_len (el_len (el_len (el_len (el_len (el_len (el_len (el_len (el_len el_len0)))))))))) a h) (by decide))).ex) (fun words3 => (sb_cons (sn_set true 4 rfl rfl (esc (ex_mod (ex_varS 0 rfl) (ex_int 5)))) (fun way4 => (sb_cons (sn_set true 0 rfl rfl (esc (ex_div (ex_varS 0 rfl) (ex_int 5)))) (fun cellhere5 => (sb_ifr (et_test (md := .hp) (ex_eqv (ex_varS 4 rfl) (ex_int 0))) (sb_ret (esc (esc (ex_ix (eo_lst (el_cons (esc (ex_str "")) (el_cons (esc (ex_str "somealways")) (el_cons (esc (ex_str "eachalways")) el_nil))) (fun a h => Nat.le_trans ((el_len (el_len (el_len el_len0))) a h) (by decide))).ex (ex_mod (ex_varS 0 rfl) (ex_int 3)))))) (sb_ifr (et_test (md := .hp) (ex_eqv (ex_varS 4 rfl) (ex_int 1))) (sb_ret (esc (ex_join "" (eo_comp (n := true) (slI := [.un, .y letters1, .y cellhere5]) (no := 1) (ix := [1, 0]) rfl rfl (ei_range (ex_add (ex_int 9) (ex_mod (ex_div (ex_varS 0 rfl) (ex_int 26)) (ex_int 9)))) (tg_name 0 rfl rfl) (fun x10 => et_if0) (fun x10 => (esc (esc (ex_ixS (ex_varS 1 rfl) (ex_mod (ex_add (ex_varS 2 rfl) (ex_varS 0 rfl)) (ex_int 26)))))) (fun x10 => lea0)).ex))) (sb_ifr (et_test (md := .hp) (ex_eqv (ex_varS 4 rfl) (ex_int 2))) (sb_ret (esc (esc (ex_ix (ex_varF 3 rfl) (ex_mod (ex_varS 0 rfl) (ex_int 10)))))) (sb_ifr (et_test (md := .hp) (ex_eqv (ex_varS 4 rfl) (ex_int 3))) (sb_ret (esc (esc (ex_cutB (esc (ex_ix (ex_varF 3 rfl) (ex_mod (ex_varS 0 rfl) (ex_int 10)))) (ex_int 1))))) (sb_cons (sn_set true 5 rfl rfl (esc (ex_add (ex_int 1) (ex_mod (ex_varS 0 rfl) (ex_int 8))))) (fun size16 => (sb_cons (sn_set true 6 rfl rfl (esc (ex_mod (ex_div (ex_varS 0 rfl) (ex_int 8)) (ex_varS 5 rfl)))) (fun spot18 => (sb_cons (sn_set true 7 rfl rfl (esc (ex_join "" (eo_comp (n := true) (slI := [.un, .y letters1, .y cellhere5]) (no := 1) (ix := [1, 0]) rfl rfl (ei_range (ex_varS 5 rfl)) (tg_name 0 rfl rfl) (fun x21 => et_if0) (fun x21 => (esc (esc (ex_ixS (ex_varS 1 rfl) (ex_mod (ex_div (ex_varS 2 rfl) (ex_int 5000)) (ex_int 26)))))) (fun x21 => lea0)).ex))) (fun base20 => (sb_ret (esc (ex_addT (ex_addT (esc (ex_cutT (ex_varS 7 rfl) (ex_varS 6 rfl))) (esc (ex_ixS (ex_varS 2 rfl) (ex_mod (ex_div (ex_varS 0 rfl) (ex_int 64)) (ex_lenS (ex_varS 2 rfl)))))) (esc (ex_cutB (ex_varS 7 rfl) (ex_add (ex_varS 6 rfl) (ex_int 1))))))))))))))))))))))))))) (by unfold p_l_bad_name; simp only [bnd])
def p_l_bad_number (q0 : Int) (q1 : Int) (q2 : List Mx) : Option Mx := (modM q0 (8 : Int)).bind fun way1 => (divM q0 (8 : Int)).bind fun cellhere2 => if (decide (way1 = (0 : Int))) = true then (((powM (10 : Int) (29 : Int)).bind fun b3 => modM cellhere2 b3).bind fun b4 => some ((-(1 : Int)) - b4)).bind fun a5 => some (Mx.mi a5) else (if (decide (way1 = (1 : Int))) = true then some true else some (decide (way1 = (2 : Int)))).bind fun b => if b = true then ((modM cellhere2 (3 : Int)).bind fun b6 => some (q1 + b6)).bind fun a7 => some (Mx.mi a7) else if (decide (way1 = (3 : Int))) = true then (((powM (10 : Int) (29 : Int)).bind fun b8 => modM cellhere2 b8).bind fun b9 => some (q1 + b9)).bind fun a10 => some (Mx.mi a10) else if (decide (way1 = (4 : Int))) = true then (modM cellhere2 (4 : Int)).bind fun b11 => atI ([Mx.mb true, Mx.mb false, Mx.mn, Mx.ms ("0" : Str)]) b11 else if (if false = true then !q2.isEmpty else q2.isEmpty) = true then some (Mx.mi q1) else (modM cellhere2 (q2.length : Int)).bind fun b12 => atI q2 b12
theorem sc_l_bad_number : FnScope ["_law_cell_here", "_law_many", "_law_some", "_law_way"] ["_law_cell_here", "_law_many", "_law_some"] (defScope s_l_bad_number) := fsc
abbrev S_l_bad_number (K : PySem.W.Frag) : Sp := spF K false (fun a : Int × Int × (List Mx) × Unit => ([.z a.1, .z a.2.1, .z a.2.2.1] : List (Slot K))) (fun a => p_l_bad_number a.1 a.2.1 a.2.2.1)
theorem ok_l_bad_number (F : Fun K "_law_bad_number" "_law_bad_number" s_l_bad_number f fd) (B : Bl K mg) : FnOk P w K mg base CX0 (k + 1) f fd ["_law_cell_here", "_law_many", "_law_some"] (S_l_bad_number K) := by
  refine def_ok F sc_l_bad_number (fun _ => rfl) (fun _ => rfl) fun cdv A outer s H E hr => ?_
  have nd := sc_l_bad_number.nd
  refine ⟨_, (pss_cons (ps_st 3 nd (pe_op op_mod (pv 0) pe_int)) (pss_cons (ps_st 0 nd (pe_op op_fdiv (pv 0) pe_int)) (pss_cons (ps_if (pt_cmpR (op_eqv K Int hr) (pv 3) pe_int (nomark _)) (pss_cons (ps_ret (pe_op op_sub (pe_un un_neg pe_int) (pe_op op_mod (pv 0) (pe_op op_pow pe_int pe_int)))) pss_nil) pss_nil) (pss_cons (ps_if (PW.pt (pw_or (pt_cmpR (op_eqv K Int hr) (pv 3) pe_int (nomark _)) (pw_or1 (pt_cmpR (op_eqv K Int hr) (pv 3) pe_int (nomark _))))) (pss_cons (ps_ret (pe_op op_add (pv 1) (pe_op op_mod (pv 0) pe_int))) pss_nil) pss_nil) (pss_cons (ps_if (pt_cmpR (op_eqv K Int hr) (pv 3) pe_int (nomark _)) (pss_cons (ps_ret (pe_op op_add (pv 1) (pe_op op_mod (pv 0) (pe_op op_pow pe_int pe_int)))) pss_nil) pss_nil) (pss_cons (ps_if (pt_cmpR (op_eqv K Int hr) (pv 3) pe_int (nomark _)) (pss_cons (ps_ret (pe_ix (ixLK K) (pe_lst (pa_cons pe_bl (pa_cons pe_bl (pa_cons pe_non (pa_cons pe_str pa_nil))))) (pe_op op_mod (pv 0) pe_int) (fun _ _ => rfl))) pss_nil) pss_nil) (pss_cons (ps_if (pt_cmpR (op_eqN hr) (pv 2) (pe_lst pa_nil) (nomark _)) (pss_cons (ps_ret (pv 1)) pss_nil) pss_nil) (pss_cons (ps_ret (pe_ix (ixLK K) (pv 2) (pe_op op_mod (pv 0) (pe_callB (c_lenK K) rfl B.len PySem.boot_len (pa_cons (pv 2) pa_nil))) (fun _ _ => rfl))) pss_nil)))))))), ?_⟩
  rintro Fa ⟨q0, q1, q2, ⟨⟩⟩
  exact SB.of (sb_cons (sn_set true 3 rfl rfl (esc (ex_mod (ex_varS 0 rfl) (ex_int 8)))) (fun way1 => (sb_cons (sn_set true 0 rfl rfl (esc (ex_div (ex_varS 0 rfl) (ex_int 8)))) (fun cellhere2 => (sb_ifr (et_test (md := .hp) (ex_eqv (ex_varS 3 rfl) (ex_int 0))) (sb_ret (esc (ex_mi (ex_sub (ex_neg (ex_int 1)) (ex_mod (ex_varS 0 rfl) (ex_pow (ex_int 10) (ex_int 29))))))) (sb_ifr (et_or (et_test (md := .hp) (ex_eqv (ex_varS 3 rfl) (ex_int 1))) (et_test (md := .hp) (ex_eqv (ex_varS 3 rfl) (ex_int 2)))) (sb_ret (esc (ex_mi (ex_add (ex_varS 1 rfl) (ex_mod (ex_varS 0 rfl) (ex_int 3)))))) (sb_ifr (et_test (md := .hp) (ex_eqv (ex_varS 3 rfl) (ex_int 3))) (sb_ret (esc (ex_mi (ex_add (ex_varS 1 rfl) (ex_mod (ex_varS 0 rfl) (ex_pow (ex_int 10) (ex_int 29))))))) (sb_ifr (et_test (md := .hp) (ex_eqv (ex_varS 3 rfl) (ex_int 4))) (sb_ret (esc (esc (ex_ix (eo_lst (el_cons (esc (ex_mb (ex_bl true))) (el_cons (esc (ex_mb (ex_bl false))) (el_cons (esc ex_mn) (el_cons (esc (ex_ms (ex_str "0"))) el_nil)))) (fun a h => Nat.le_trans ((el_len (el_len (el_len (el_len el_len0)))) a h) (by decide))).ex (ex_mod (ex_varS 0 rfl) (ex_int 4)))))) (sb_ifr (et_test (md := .hp) (ex_nilC (neg := false) (ex_varF 2 rfl))) (sb_ret (esc (ex_mi (ex_varS 1 rfl)))) (sb_ret (esc (esc (ex_ix (ex_varF 2 rfl) (ex_mod (ex_varS 0 rfl) (ex_len (ex_varF 2 rfl)))))))))))))))) (by unfold p_l_bad_number; simp only [bnd])
def p_l_cell (q0 : List Int)  : Option (Int × List Int) := if (decide ((q0.length : Int) = (0 : Int))) = true then some ((0 : Int), q0) else q0.getLast?.bind fun y => some (y, q0.dropLast)
theorem sc_l_cell : FnScope ["_law_rest"] ["_law_rest"] (defScope s_l_cell) := fsc
abbrev S_l_cell (K : PySem.W.Frag) : Sp := spR K (fun a : Unit => ([] : List (Slot K))) (fun ws a => p_l_cell ws )
theorem ok_l_cell (F : Fun K "_law_cell" "_law_cell" s_l_cell f fd) (B : Bl K mg) : FnOk P w K mg base CX0 (k + 1) f fd ["_law_rest"] (S_l_cell K) := by
  refine def_okR F sc_l_cell (fun _ => rfl) (fun _ => rfl) fun cdv A outer s H E hr => ?_
  have nd := sc_l_cell.nd
  refine ⟨_, (pss_cons (ps_if (pt_cmpR (op_eqv K Int hr) (pe_callB (c_lenK K) rfl B.len PySem.boot_len (pa_cons (pv 0) pa_nil)) pe_int (nomark _)) (pss_cons (ps_ret pe_int) pss_nil) pss_nil) (pss_cons (ps_ret (p_bm0K K PySem.F.plainAttrs_list PySem.F.slot_list_pop PySem.F.type_list_pop mt_pop (pv 0))) pss_nil)), ?_⟩
  rintro Fa p q0 ⟨⟩
  exact SBR.of (sbr_ifr (et_test (md := .hp) (ex_eqv (ex_lenN 0 rfl rfl) (ex_int 0))) (sbr_ret 0 rfl rfl (esc (ex_int 0))) (sbr_retY 0 rfl rfl (ey_popN 0 rfl rfl))) (by unfold p_l_cell; simp only [bnd])
end
end Ts
set_option maxHeartbeats 40000000
namespace Ts
open PySem L2
abbrev LLM := List (List Mx)
abbrev MKM := List (Str × List Mx)
abbrev Prt := Tri LLM MKM LLM
section
variable {P : Program} {w : World} {K : PySem.W.Frag} {mg : Str → Option Value} {base : Heap}
def p_inX (cx : Fin 3 → Addr) (a : LLM) (b : MKM) (c : LLM) : Option (Out Unit (Ek cx)) :=
  (p_check_stepsM cx a).bind fun r => eOut r ((p_check_marksM cx b (a.length : Int)).bind fun r => eOut r ((p_check_fairM cx c (a.length : Int)).bind fun r => eOut r (none : Option (Out Unit (Ek cx)))))
def spInX (K : PySem.W.Frag) (C : Addr) (cx : Fin 3 → Addr) : Sp := fun vs H _ E => ∃ (p dx : Addr) (vS vM vF : V) (a : LLM) (b : MKM) (c : LLM) (e : Ek cx), vs = [.ref p, vS, vM, vF] ∧ H p = some (.ins C dx []) ∧
  rp K (hid H p) vS a ∧ rp K (hid H p) vM b ∧ rp K (hid H p) vF c ∧ p_inX cx a b c = some (.rt e) ∧ ∀ H' : Hp, Same H H' → E (.ref (cx e.k)) none H'
theorem FunD.okM (F : FunD K x qual st dV f fd) (S : FnScope N ps (defScope st)) (len : ∀ vs H Q E, sp vs H Q E → vs.length = ps.length)
    (hbody : ∀ (cdv : Value) (A : Around) (outer : List Env) (s : Shared) (H : Hp) (vs : List V) (Q : VK) (E : XK), Room k (A.deeper (PyProof.Rows.envOfC qual (defScope st) s.heap.objs.size f cdv)) → sp vs H Q E →
      ∃ t, PSsm (cxOf (CXX P w) P w K mg base N qual (defScope st) f cdv A outer s H E) E (defBody st) t ∧ t { nx := fun _ H' => Q .non H', rt := fun v H' => ∃ c, v = .ref c ∧ E (.ref c) none H' } (start N vs) H) : FnOk P w K mg base (CXX P w) (k + 1) f fd ps sp := by
  obtain ⟨oc, od, kV, doc, pm, an, cdv, ct, osl, rfl, lk, hcd⟩ := F.ex
  refine fn_of lk hcd S len fun A outer s H vs Q E hr hsp => ?_
  obtain ⟨t, h, q⟩ := hbody cdv A outer s H vs Q E hr hsp
  exact ⟨_, h.pss, q⟩
theorem ok_inX (F : FunD K "__init__" "Machine.__init__" sInit dV f fd) (B : Bl K mg)
    (CS : CalE P w K mg base k "check_steps" ["steps"] (S_check_stepsM K cx)) (CM : CalE P w K mg base k "check_marks" ["marks", "many"] (S_check_marksM K cx)) (CF : CalE P w K mg base k "check_fair" ["fair", "many"] (S_check_fairM K cx)) :
    FnOk P w K mg base (CXX P w) (k + 1) f fd ["self", "steps", "marks", "fair"] (spInX K C cx) := by
  refine F.okM scIn (fun vs H Q E h => ?_) (fun cdv A outer s H vs Q E hr h => ?_)
  · obtain ⟨p, dx, vS, vM, vF, a, b, c, e, rfl, _⟩ := h
    rfl
  obtain ⟨p, dx, vS, vM, vF, a, b, c, e, rfl, hp, rS, rM, rF, hm, q⟩ := h
  have nd := scIn.nd
  refine ⟨_, pssm_cons (psm_of (ps_set (i := 4) nd rfl (Or.inl rfl) (pe_ifExp (pt_cmp (pc_isN (pv 2))) (pe_lst pa_nil) (pv 2))))
    (pssm_cons (psm_of (ps_set (i := 5) nd rfl (Or.inl rfl) (pe_ifExp (pt_cmp (pc_isN (pv 3))) (pe_lst pa_nil) (pv 3))))
    (pssm_cons (psm_cal CS hr pass_cx (pa_cons (pv 1) pa_nil))
    (pssm_cons (psm_cal CM hr pass_cx (pa_cons (pv 4) (pa_cons (pe_callB (c_lenK K) rfl B.len PySem.boot_len (pa_cons (pv 1) pa_nil)) pa_nil)))
    (pssm_cons (psm_cal CF hr pass_cx (pa_cons (pv 5) (pa_cons (pe_callB (c_lenK K) rfl B.len PySem.boot_len (pa_cons (pv 1) pa_nil)) pa_nil))) pssm_never)))), ?_⟩
  have some_of : ∀ {α : Type} [Rp K (List α)] [Nn K (List α)] {F : Hp} {v : V} {x : List α}, rp K F v x → v ≠ .non ∧ rp K F v x := fun {α} _ _ {F v x} h => ⟨Nn.nn (K := K) h, h⟩
  have sg0 : Sg (K := K) ⟨hid H p, H⟩ (hid H p) [.fz false (RefTo.mk () : RefTo p), .fz false a, .fz false (some b), .fz false (some c), .un, .un] [some (.ref p), some vS, some vM, some vF, none, none] H :=
    ⟨hid H p, [], .refl _, at_hid (.fz (show rp K _ _ (RefTo.mk () : RefTo p) from rfl) (.fz rS (.fz (show rp K _ vM (some b) from ⟨Nn.nn (K := K) rM, rM⟩) (.fz (show rp K _ vF (some c) from ⟨Nn.nn (K := K) rF, rF⟩) (.un (.un .nil))))))⟩
  have main := (sx_cons (sn_set (B := ⟨hid H p, H⟩) (sl := ([.fz false (RefTo.mk () : RefTo p), .fz false a, .fz false (some b), .fz false (some c), .un, .un] : List (Slot K))) false 4 rfl rfl (ex_ife (et_b (md := .hp) (ex_isN (ex_varF 2 rfl))) (Eo.ex (eo_nil (α := Str × List Mx))) (ex_get (ex_var 2 rfl))))
    (fun gm => sx_cons (sn_set false 5 rfl rfl (ex_ife (et_b (md := .hp) (ex_isN (ex_varF 3 rfl))) (Eo.ex (eo_nil (α := List Mx))) (ex_get (ex_var 3 rfl))))
    (fun gf => sx_dropM (as := fun x : LLM × Unit => ([.fz false x.1] : List (Slot K))) (f := fun x => p_check_stepsM cx x.1) (ea_cons (ex_varF 1 rfl) ea_nil)
    (sx_dropM (as := fun x : MKM × Int × Unit => ([.fz false x.1, .fz false x.2.1] : List (Slot K))) (f := fun x => p_check_marksM cx x.1 x.2.1) (ea_cons (ex_varF 4 rfl) (ea_cons (Ex.sc (md := .hp) (ex_len (ex_varF 1 rfl))) ea_nil))
    (sx_dropM (as := fun x : LLM × Int × Unit => ([.fz false x.1, .fz false x.2.1] : List (Slot K))) (f := fun x => p_check_fairM cx x.1 x.2.1) (ea_cons (ex_varF 5 rfl) (ea_cons (Ex.sc (md := .hp) (ex_len (ex_varF 1 rfl))) ea_nil))
    (sx_never (al := false) (S := Unit) (β := Ek cx) (L := fun _ => ([.un, .un, .un, .un, .un, .un] : List (Slot K)))))))))
  exact (Sx.of main (show _ = p_inX cx a b c from rfl)) (.rt e) hm (hid H p) _ _ H sg0 fun v H' z => ⟨_, z.2, q H' z.1⟩
end
end Ts
set_option maxHeartbeats 40000000
namespace Ts
open PySem L2
section
variable {P : Program} {w : World} {K : PySem.W.Frag} {mg : Str → Option Value} {base : Heap}
def nmE (i : Fin 3) : Str := (["stand", "step", "mark"] : List Str).getD i.val "by"
def p_got (C : Addr) (cx : Fin 3 → Addr) (a : Prt) : Option Str := match p_inX cx a.a a.b a.c with
  | some (.rt e) => some (nmE e.k)
  | _ => (mxLL a.a).bind fun s => (mxMk a.b).bind fun m => (mxLL a.c).bind fun f => (mkK C s (some m) (some f)).bind fun _ => some "by"
abbrev S_l_got (K : PySem.W.Frag) (C : Addr) (cx : Fin 3 → Addr) : Sp := spF K false (fun a : Prt × Unit => ([.z a.1] : List (Slot K))) (fun a => p_got C cx a.1)
theorem sc_got : FnScope ["_law_parts", "e", "_law_kinds"] ["_law_parts"] (defScope s_l_got) := fsc
theorem sc_caught : FnScope ["_law_parts"] ["_law_parts"] (defScope s_l_caught) := fsc
structure ErrT (K : PySem.W.Frag) (mg : Str → Option Value) (cx : Fin 3 → Addr) (cS cT cF : Addr) : Prop extends ErrM K mg cx where
  mS : mg "SayError" = some (.ref cS)
  mT : mg "NoText" = some (.ref cT)
  mF : mg "NoFold" = some (.ref cF)
  mV : mg "ValueError" = none
  ty : ∀ i, PySem.W.ExcT K (cx i)
  hS : ∀ i, PySem.W.exmOne K (.ref (cx i)) (.ref cS) = some true
  hX : ∀ i j, PySem.W.exmOne K (.ref (cx i)) (.ref (cx j)) = some (decide (i = j))
  k : ∀ i j, PySem.W.kitOne K (.ref (cx i)) (.ref (cx j)) = some (decide (i = j))
  no : ∀ i, PySem.W.kitAny K (.ref (cx i)) [.ref cT, .ref cF] = some false
  ve : ∀ i, PySem.W.kitOne K (.ref (cx i)) (.type "ValueError") = some true
theorem vals2r {c1 c2 : Addr} : ∀ us, Vals [.ref c1, .ref c2] us → us = [.ref c1, .ref c2] := fun us h => by
  cases h with
  | cons r1 h => cases h with
    | cons r2 h =>
      cases h
      rw [show _ = Value.ref c1 from r1, show _ = Value.ref c2 from r2]
abbrev t3 (K : PySem.W.Frag) : TA := tCons (tOp (rIxT K) (tVar 0) (tC (.int 0))) (tCons (tOp (rIxT K) (tVar 0) (tC (.int 1))) (tCons (tOp (rIxT K) (tVar 0) (tC (.int 2))) tNil))
theorem args3 {σ : St} {H : Hp} {p : Addr} {u x z : V} {Q : List V → Hp → Prop} (hσ : σ[0]? = some (some (.ref p))) (hp : H p = some (.tup [u, x, z])) (k : Q [u, x, z] H) : t3 K σ H Q :=
  ⟨_, hσ, p, _, 0, u, rfl, rfl, .inl (.inl hp), rfl, _, hσ, p, _, 1, x, rfl, rfl, .inl (.inl hp), rfl, _, hσ, p, _, 2, z, rfl, rfl, .inl (.inl hp), rfl, k⟩
theorem make_ok {C : Addr} {H : Hp} {σ : St} {v : V} {a : Prt} {s : LLI} {m : MKs} {f : LLI} {M : Mach C} {Q : VK} (hσ : σ[0]? = some (some v)) (r : rp K H v a) (e1 : mxLL a.a = some s) (e2 : mxMk a.b = some m) (e3 : mxLL a.c = some f) (hc : mkK C s (some m) (some f) = some M) (k : ∀ v' H', Same H H' → Q v' H') :
    tMake C (spInG K C (mkK C)) [] E0 (t3 K) σ H Q := by
  obtain ⟨p, u, x, z, rfl, hp, r1, r2, r3⟩ := r
  unfold tMake
  refine args3 hσ hp ?_
  intro y dx ny ndx ne
  exact spInG_of ny ndx (rp_mxLL e1 r1) (show rp K H x (some m) from ⟨Nn.nn (K := K) (rp_mxMk e2 r2), rp_mxMk e2 r2⟩) (show rp K H z (some f) from ⟨Nn.nn (K := K) (rp_mxLL e3 r3), rp_mxLL e3 r3⟩) hc fun H2 s2 _ => k _ H2 s2
theorem make_X {C : Addr} {cx : Fin 3 → Addr} {H : Hp} {σ : St} {v : V} {a : Prt} {e : Ek cx} {E : XK} {Q : VK} (hσ : σ[0]? = some (some v)) (r : rp K H v a) (hX : p_inX cx a.a a.b a.c = some (.rt e)) (k : ∀ H', Same H H' → E (.ref (cx e.k)) none H') :
    tMake C (spInX K C cx) [] E (t3 K) σ H Q := by
  obtain ⟨p, u, x, z, rfl, hp, r1, r2, r3⟩ := r
  unfold tMake
  refine args3 hσ hp ?_
  intro y dx ny ndx ne
  have sG : Same H (upd (upd H dx (.own y)) y (.ins C dx [])) := fun b o e => by rw [upd_ne (ne_of_none e ny), upd_ne (ne_of_none e ndx)]; exact e
  have sh : Same H (hid (upd (upd H dx (.own y)) y (.ins C dx [])) y) := fun b o e => by
    unfold hid
    rw [if_neg (ne_of_none e ny)]
    exact sG b o e
  exact ⟨y, dx, u, x, z, a.a, a.b, a.c, e, rfl, upd_same, Rp.mono sh r1, Rp.mono sh r2, Rp.mono sh r3, hX, fun H' s' => k H' (sG.trans s')⟩
theorem got_norm {C : Addr} {cx : Fin 3 → Addr} {a : Prt} {b : Str} (h : p_got C cx a = some b) (n : ∀ e, p_inX cx a.a a.b a.c ≠ some (.rt e)) : ∃ s m f M, mxLL a.a = some s ∧ mxMk a.b = some m ∧ mxLL a.c = some f ∧ mkK C s (some m) (some f) = some M ∧ b = "by" := by
  unfold p_got at h
  split at h
  · rename_i e he
    exact absurd he (n e)
  · obtain ⟨s, e1, h⟩ := opt_get h
    obtain ⟨m, e2, h⟩ := opt_get h
    obtain ⟨f, e3, h⟩ := opt_get h
    obtain ⟨M, e4, h⟩ := opt_get h
    cases h
    exact ⟨s, m, f, M, e1, e2, e3, e4, rfl⟩
theorem got_X {C : Addr} {cx : Fin 3 → Addr} {a : Prt} {b : Str} {e : Ek cx} (h : p_got C cx a = some b) (he : p_inX cx a.a a.b a.c = some (.rt e)) : b = nmE e.k := by
  unfold p_got at h
  rw [he] at h
  cases h
  rfl
theorem ok_caught {k : Nat} {C fI f cS cT cF : Addr} {cx : Fin 3 → Addr} {fdI fd : FuncData} (F : Fun K "_law_caught" "_law_caught" s_l_caught f fd) (B : Bl K mg) (X : ErrT K mg cx cS cT cF) (mC : mg "Machine" = some (.ref C)) (MK : Mk K C fI)
    (GI : FnOk P w K mg base CX0 k fI fdI ["self", "steps", "marks", "fair"] (spInG K C (mkK C))) (GX : FnOk P w K mg base (CXX P w) k fI fdI ["self", "steps", "marks", "fair"] (spInX K C cx)) (bI : Binds K fdI ["self", "steps", "marks", "fair"] []) :
    FnOk P w K mg base CX0 (k + 2) f fd ["_law_parts"] (S_l_got K C cx) := by
  refine F.ok sc_caught (fun vs H Q E h => sp_len (fun _ => rfl) h) fun cdv A outer s H vs Q E hr h => ?_
  obtain ⟨⟨a, ⟨⟩⟩, b, Fa, sf, hx, r, q⟩ := h
  have nd := sc_caught.nd
  have hx : p_got C cx a = some b := hx
  cases r with
  | cons r1 r =>
  cases r
  rename_i v1
  have r1 : rp K H v1 a := Rp.mono sf r1
  by_cases hn : ∃ e, p_inX cx a.a a.b a.c = some (.rt e)
  · obtain ⟨e, hI⟩ := hn
    obtain rfl := got_X hx hI
    refine ⟨_, pss_cons (ps_tryH (cx := cx) (te := fun E => tMake C (spInX K C cx) [] E (t3 K)) (fun pins xe E hp => pe_make MK GX hr rfl mC bI .nil hp (pa_cons (pe_ix (ixTK K) (pv 0) pe_int (fun _ _ => rfl)) (pa_cons (pe_ix (ixTK K) (pv 0) pe_int (fun _ _ => rfl)) (pa_cons (pe_ix (ixTK K) (pv 0) pe_int (fun _ _ => rfl)) pa_nil)))) rfl X.m0 rfl X.m1 rfl X.m2 X.hX rfl rfl rfl rfl (fun _ => pss_one (ps_ret pe_str)) (fun _ => pss_one (ps_ret pe_str)) (fun _ => pss_one (ps_ret pe_str))) (pss_one (ps_ret pe_str)), ?_⟩
    unfold tSeq tTryH
    refine make_X (v := v1) rfl r1 hI fun H' s' => ?_
    refine ⟨e.k, rfl, fun σ' hl => ?_⟩
    have fin : ∀ x : Str, nmE e.k = x → Q (.str x) H' := fun x hx => q (.str x) H' s' (by rw [hx]; exact rfl)
    show (if e.k = 0 then tRet (tC (V.str "stand")) else if e.k = 1 then tRet (tC (V.str "step")) else tRet (tC (V.str "mark"))) _ σ' H'
    by_cases h0 : e.k = 0
    · rw [if_pos h0]; exact fin _ (by rw [h0]; rfl)
    rw [if_neg h0]
    by_cases h1 : e.k = 1
    · rw [if_pos h1]; exact fin _ (by rw [h1]; rfl)
    rw [if_neg h1]
    have h2 : e.k = 2 := by omega
    exact fin _ (by rw [h2]; rfl)
  · obtain ⟨s', m, f', M, e1, e2, e3, e4, rfl⟩ := got_norm hx fun e z => hn ⟨e, z⟩
    refine ⟨_, pss_cons (ps_tryH (cx := cx) (te := fun _ => tMake C (spInG K C (mkK C)) [] E0 (t3 K)) (fun pins xe E hp => pe_make MK GI hr rfl mC bI .nil pass0 (pa_cons (pe_ix (ixTK K) (pv 0) pe_int (fun _ _ => rfl)) (pa_cons (pe_ix (ixTK K) (pv 0) pe_int (fun _ _ => rfl)) (pa_cons (pe_ix (ixTK K) (pv 0) pe_int (fun _ _ => rfl)) pa_nil)))) rfl X.m0 rfl X.m1 rfl X.m2 X.hX rfl rfl rfl rfl (fun _ => pss_one (ps_ret pe_str)) (fun _ => pss_one (ps_ret pe_str)) (fun _ => pss_one (ps_ret pe_str))) (pss_one (ps_ret pe_str)), ?_⟩
    unfold tSeq tTryH
    exact make_ok (v := v1) rfl r1 e1 e2 e3 e4 fun v' H' s' => q (.str "by") H' s' rfl
theorem ok_got {k : Nat} {C fI f cS cT cF : Addr} {cx : Fin 3 → Addr} {fdI fd : FuncData} (F : Fun K "_law_got" "_law_got" s_l_got f fd) (B : Bl K mg) (X : ErrT K mg cx cS cT cF) (mC : mg "Machine" = some (.ref C)) (MK : Mk K C fI)
    (GI : FnOk P w K mg base CX0 k fI fdI ["self", "steps", "marks", "fair"] (spInG K C (mkK C))) (GX : FnOk P w K mg base (CXX P w) k fI fdI ["self", "steps", "marks", "fair"] (spInX K C cx)) (bI : Binds K fdI ["self", "steps", "marks", "fair"] []) :
    FnOk P w K mg base CX0 (k + 2) f fd ["_law_parts"] (S_l_got K C cx) := by
  refine F.ok sc_got (fun vs H Q E h => sp_len (fun _ => rfl) h) fun cdv A outer s H vs Q E hr h => ?_
  obtain ⟨⟨a, ⟨⟩⟩, b, Fa, sf, hx, r, q⟩ := h
  have nd := sc_got.nd
  have hx : p_got C cx a = some b := hx
  cases r with
  | cons r1 r =>
  cases r
  rename_i v1
  have r1 : rp K H v1 a := Rp.mono sf r1
  by_cases hn : ∃ e, p_inX cx a.a a.b a.c = some (.rt e)
  · obtain ⟨e, hI⟩ := hn
    obtain rfl := got_X hx hI
    refine ⟨_, pss_cons (ps_tryE (cx := cx) (i := 1) (c := .ref cS) (te := fun E => tMake C (spInX K C cx) [] E (t3 K)) (fun pins xe E hp => pe_make MK GX hr rfl mC bI .nil hp (pa_cons (pe_ix (ixTK K) (pv 0) pe_int (fun _ _ => rfl)) (pa_cons (pe_ix (ixTK K) (pv 0) pe_int (fun _ _ => rfl)) (pa_cons (pe_ix (ixTK K) (pv 0) pe_int (fun _ _ => rfl)) pa_nil)))) rfl X.mS X.hS nd rfl rfl rfl rfl rfl rfl (fun k a => pss_cons (ps_st 2 nd (pe_lst (pa_cons (pe_callB (call_isX (X.ty k) (X.k k 0) rel_ref) rfl B.isi bt_isi (pa_cons (pv 1) (pa_cons (pe_glob (v := .ref (cx 0)) rfl X.m0 rfl) pa_nil))) (pa_cons (pe_callB (call_isX (X.ty k) (X.k k 1) rel_ref) rfl B.isi bt_isi (pa_cons (pv 1) (pa_cons (pe_glob (v := .ref (cx 1)) rfl X.m1 rfl) pa_nil))) (pa_cons (pe_callB (call_isX (X.ty k) (X.k k 2) rel_ref) rfl B.isi bt_isi (pa_cons (pv 1) (pa_cons (pe_glob (v := .ref (cx 2)) rfl X.m2 rfl) pa_nil))) pa_nil)))))
      (pss_cons (ps_if (PW.pt (pw_or (pt_cmpR op_ne (p_bmK K PySem.F.plainAttrs_list PySem.F.slot_list_count PySem.F.type_list_count mt_countB (pv 2) (pa_cons pe_bl pa_nil)) pe_int (nomark _))
        (pw_or (pt_val (pe_callB (call_isXs (vs := [.ref cT, .ref cF]) (X.ty k) (X.no k) vals2r) rfl B.isi bt_isi (pa_cons (pv 1) (pa_cons (pe_tup (pa_cons (pe_glob (v := .ref cT) rfl X.mT rfl) (pa_cons (pe_glob (v := .ref cF) rfl X.mF rfl) pa_nil))) pa_nil))))
        (pw_or1 (pt_not (pt_val (pe_callB (call_isX (X.ty k) (X.ve k) rel_ty) rfl B.isi bt_isi (pa_cons (pv 1) (pa_cons (pe_bltn (v := .ty "ValueError") rfl X.mV PyProof.Rows.Boot.«ValueError» rfl) pa_nil)))))))))
        (pss_one (ps_ret pe_str)) pss_nil)
      (pss_one (ps_ret (pe_ix (ixLK K) (pe_lst (pa_cons pe_str (pa_cons pe_str (pa_cons pe_str pa_nil)))) (p_bmK K PySem.F.plainAttrs_list PySem.F.slot_list_index PySem.F.type_list_index mt_indexB (pv 2) (pa_cons pe_bl pa_nil)) (fun _ _ => rfl))))))) (pss_one (ps_ret pe_str)), ?_⟩
    unfold tSeq tTryE
    refine make_X (v := v1) rfl r1 hI fun H' s' => ?_
    refine ⟨e.k, rfl, fun x σ' ha hl => ?_⟩
    obtain ⟨y0, y1, y2, rfl⟩ : ∃ y0 y1 y2, σ' = [y0, y1, y2] := by
      match σ', hl with
      | [y0, y1, y2], _ => exact ⟨y0, y1, y2, rfl⟩
    have e0 : upd H' x (excO x (.ref (cx e.k))) x = some (excO x (.ref (cx e.k))) := upd_same
    generalize hH : upd H' x (excO x (.ref (cx e.k))) = H2 at e0 ⊢
    have s2 : Same H' H2 := by rw [← hH]; exact same_new ha _
    generalize e.k = i at *
    refine ⟨_, rfl, x, _, rfl, rfl, e0, _, rfl, x, _, rfl, rfl, e0, _, rfl, x, _, rfl, rfl, e0, (by show 3 ≤ sizeLine; decide), fun l hl => ?_⟩
    have s3 := same_new hl (.lst [.bl (decide (i = 0)), .bl (decide (i = 1)), .bl (decide (i = 2))])
    have hL : upd H2 l (.lst [.bl (decide (i = 0)), .bl (decide (i = 1)), .bl (decide (i = 2))]) l = some (.lst ([decide (i = 0), decide (i = 1), decide (i = 2)].map V.bl)) := upd_same
    have e1 := s3 _ _ e0
    generalize upd H2 l (.lst [.bl (decide (i = 0)), .bl (decide (i = 1)), .bl (decide (i = 2))]) = H3 at s3 hL e1 ⊢
    have fin : ∀ x : Str, nmE i = x → ∀ H', Same H3 H' → Q (.str x) H' := fun x hx H4 s4 => q (.str x) H4 (((s'.trans s2).trans s3).trans s4) (by rw [hx]; exact rfl)
    have hi : i = 0 ∨ i = 1 ∨ i = 2 := by omega
    refine ⟨_, rfl, .inl ⟨rfl, _, SqL.of hL⟩, l, _, rfl, rfl, hL, rfl, ?_⟩
    have hlt : ∀ m, m < i.val → ([decide (i = 0), decide (i = 1), decide (i = 2)] : List Bool)[m]? = some false := by
      intro m hm
      rcases hi with rfl | rfl | rfl
      · exact absurd hm (Nat.not_lt_zero _)
      · have : m = 0 := by have : m < 1 := hm; omega
        subst this; rfl
      · have : m = 0 ∨ m = 1 := by have : m < 2 := hm; omega
        rcases this with rfl | rfl <;> rfl
    rcases hi with rfl | rfl | rfl
    · refine ⟨false, rfl, iteF ⟨_, rfl, (by show 2 ≤ sizeLine; decide), fun t ht => ?_⟩⟩
      have s5 := same_new ht (.tup [.ref cT, .ref cF])
      refine ⟨x, t, rfl, upd_same, s5 _ _ e1, false, rfl, iteF ?_⟩
      refine ⟨_, rfl, x, _, rfl, rfl, s5 _ _ e1, true, rfl, iteF ?_⟩
      refine ⟨(by show 3 ≤ sizeLine; decide), fun r hr => ?_⟩
      have s6 := same_new hr (.lst [.str "stand", .str "step", .str "mark"])
      refine ⟨_, rfl, .inl ⟨rfl, _, SqL.of (s6 _ _ (s5 _ _ hL))⟩, l, _, 0, rfl, rfl, s6 _ _ (s5 _ _ hL), by decide, rfl, hlt, ?_⟩
      exact ⟨r, _, 0, _, rfl, rfl, SqL.of upd_same, rfl, fin "stand" rfl _ (s5.trans s6)⟩
    · refine ⟨false, rfl, iteF ⟨_, rfl, (by show 2 ≤ sizeLine; decide), fun t ht => ?_⟩⟩
      have s5 := same_new ht (.tup [.ref cT, .ref cF])
      refine ⟨x, t, rfl, upd_same, s5 _ _ e1, false, rfl, iteF ?_⟩
      refine ⟨_, rfl, x, _, rfl, rfl, s5 _ _ e1, true, rfl, iteF ?_⟩
      refine ⟨(by show 3 ≤ sizeLine; decide), fun r hr => ?_⟩
      have s6 := same_new hr (.lst [.str "stand", .str "step", .str "mark"])
      refine ⟨_, rfl, .inl ⟨rfl, _, SqL.of (s6 _ _ (s5 _ _ hL))⟩, l, _, 1, rfl, rfl, s6 _ _ (s5 _ _ hL), by decide, rfl, hlt, ?_⟩
      exact ⟨r, _, 1, _, rfl, rfl, SqL.of upd_same, rfl, fin "step" rfl _ (s5.trans s6)⟩
    · refine ⟨false, rfl, iteF ⟨_, rfl, (by show 2 ≤ sizeLine; decide), fun t ht => ?_⟩⟩
      have s5 := same_new ht (.tup [.ref cT, .ref cF])
      refine ⟨x, t, rfl, upd_same, s5 _ _ e1, false, rfl, iteF ?_⟩
      refine ⟨_, rfl, x, _, rfl, rfl, s5 _ _ e1, true, rfl, iteF ?_⟩
      refine ⟨(by show 3 ≤ sizeLine; decide), fun r hr => ?_⟩
      have s6 := same_new hr (.lst [.str "stand", .str "step", .str "mark"])
      refine ⟨_, rfl, .inl ⟨rfl, _, SqL.of (s6 _ _ (s5 _ _ hL))⟩, l, _, 2, rfl, rfl, s6 _ _ (s5 _ _ hL), by decide, rfl, hlt, ?_⟩
      exact ⟨r, _, 2, _, rfl, rfl, SqL.of upd_same, rfl, fin "mark" rfl _ (s5.trans s6)⟩
  · obtain ⟨s', m, f', M, e1, e2, e3, e4, rfl⟩ := got_norm hx fun e z => hn ⟨e, z⟩
    refine ⟨_, pss_cons (ps_tryE (cx := cx) (i := 1) (c := .ref cS) (te := fun _ => tMake C (spInG K C (mkK C)) [] E0 (t3 K)) (fun pins xe E hp => pe_make MK GI hr rfl mC bI .nil pass0 (pa_cons (pe_ix (ixTK K) (pv 0) pe_int (fun _ _ => rfl)) (pa_cons (pe_ix (ixTK K) (pv 0) pe_int (fun _ _ => rfl)) (pa_cons (pe_ix (ixTK K) (pv 0) pe_int (fun _ _ => rfl)) pa_nil)))) rfl X.mS X.hS nd rfl rfl rfl rfl rfl rfl (fun k a => pss_cons (ps_st 2 nd (pe_lst (pa_cons (pe_callB (call_isX (X.ty k) (X.k k 0) rel_ref) rfl B.isi bt_isi (pa_cons (pv 1) (pa_cons (pe_glob (v := .ref (cx 0)) rfl X.m0 rfl) pa_nil))) (pa_cons (pe_callB (call_isX (X.ty k) (X.k k 1) rel_ref) rfl B.isi bt_isi (pa_cons (pv 1) (pa_cons (pe_glob (v := .ref (cx 1)) rfl X.m1 rfl) pa_nil))) (pa_cons (pe_callB (call_isX (X.ty k) (X.k k 2) rel_ref) rfl B.isi bt_isi (pa_cons (pv 1) (pa_cons (pe_glob (v := .ref (cx 2)) rfl X.m2 rfl) pa_nil))) pa_nil)))))
      (pss_cons (ps_if (PW.pt (pw_or (pt_cmpR op_ne (p_bmK K PySem.F.plainAttrs_list PySem.F.slot_list_count PySem.F.type_list_count mt_countB (pv 2) (pa_cons pe_bl pa_nil)) pe_int (nomark _))
        (pw_or (pt_val (pe_callB (call_isXs (vs := [.ref cT, .ref cF]) (X.ty k) (X.no k) vals2r) rfl B.isi bt_isi (pa_cons (pv 1) (pa_cons (pe_tup (pa_cons (pe_glob (v := .ref cT) rfl X.mT rfl) (pa_cons (pe_glob (v := .ref cF) rfl X.mF rfl) pa_nil))) pa_nil))))
        (pw_or1 (pt_not (pt_val (pe_callB (call_isX (X.ty k) (X.ve k) rel_ty) rfl B.isi bt_isi (pa_cons (pv 1) (pa_cons (pe_bltn (v := .ty "ValueError") rfl X.mV PyProof.Rows.Boot.«ValueError» rfl) pa_nil)))))))))
        (pss_one (ps_ret pe_str)) pss_nil)
      (pss_one (ps_ret (pe_ix (ixLK K) (pe_lst (pa_cons pe_str (pa_cons pe_str (pa_cons pe_str pa_nil)))) (p_bmK K PySem.F.plainAttrs_list PySem.F.slot_list_index PySem.F.type_list_index mt_indexB (pv 2) (pa_cons pe_bl pa_nil)) (fun _ _ => rfl))))))) (pss_one (ps_ret pe_str)), ?_⟩
    unfold tSeq tTryE
    exact make_ok (v := v1) rfl r1 e1 e2 e3 e4 fun v' H' s' => q (.str "by") H' s' rfl
end
end Ts
namespace Ts
open PySem L2
structure Gr {C : Addr} (m : Mach C) (n : Int) : Prop where
  len : (m.steps.length : Int) = n
  pos : 1 ≤ n
  few : n ≤ 60
  row : ∀ xs ∈ m.steps, xs ≠ [] ∧ xs.Nodup ∧ ∀ z ∈ xs, 0 ≤ z ∧ z < n
  src : m.sources = srcs m.steps
end Ts
namespace Ts
open PySem L2
theorem W_dputB {kvs : List (Key × Bool)} {k : Int} {v : Bool} {Q : List (Key × Bool) → Prop} : W (dput kvs k v) Q ↔ kvs.length < cap ∧ Q (pK kvs (Sum.inl k) v) := by
  unfold dput
  rw [W_ite]
  constructor
  · intro ⟨h1, h2⟩
    by_cases h : kvs.length < cap
    · exact ⟨h, W_some.mp (h1 h)⟩
    · exact absurd (h2 h) (by rw [W_none]; exact id)
  · intro ⟨h, q⟩
    exact ⟨fun _ => W_some.mpr q, fun z => absurd h z⟩
theorem W_dputSB {kvs : List (Key × Bool)} {k : Str} {v : Bool} {Q : List (Key × Bool) → Prop} : W (dputS kvs k v) Q ↔ kvs.length < cap ∧ Q (pK kvs (Sum.inr k) v) := by
  unfold dputS
  rw [W_ite]
  constructor
  · intro ⟨h1, h2⟩
    by_cases h : kvs.length < cap
    · exact ⟨h, W_some.mp (h1 h)⟩
    · exact absurd (h2 h) (by rw [W_none]; exact id)
  · intro ⟨h, q⟩
    exact ⟨fun _ => W_some.mpr q, fun z => absurd h z⟩
def SetOk (n : Int) (xs : List Int) : Prop := xs.Nodup ∧ xs.length ≤ 100 ∧ ∀ z ∈ xs, 0 ≤ z ∧ z < n
theorem w_isStand {z n : Int} (h : 0 ≤ z ∧ z < n) : p_is_stand z n = some true := by
  unfold p_is_stand
  rw [if_pos rfl, if_pos (show (!false) = true from rfl), decide_eq_true h.1, if_pos rfl, decide_eq_true h.2]
theorem w_chkStands {xs : List Int} {n : Int} (h : SetOk n xs) (x : Str) : W (p_check_stands xs n x) fun _ => True := by
  unfold p_check_stands
  rw [W_bind, W_some, W_bind, W_bind, W_some]
  refine W_fold (fun i s => s.length ≤ i ∧ ∀ z, (dget s z).isSome = true → z ∈ xs.take i) ⟨Nat.zero_le _, fun z hz => by cases hz⟩ (fun i y s hi hI => ?_) fun s _ => W_some.mpr trivial
  have il := lt_of_at hi
  rw [w_isStand (h.2.2 y (List.mem_of_getElem? hi)), W_bind, W_bind, W_bind, W_some, W_some, Bool.not_true, if_neg (by decide), W_some, W_bind]
  have hn : (dget s y).isSome = false := by
    cases q : (dget s y).isSome with
    | false => rfl
    | true => exact absurd (hI.2 y q) (notin_take h.1 hi)
  have hn' : (dget (Dc.mk s).kv y).isSome = false := hn
  rw [hn', if_neg (by decide), W_some, W_bind, W_dputB]
  have l1 := h.2.1
  refine ⟨cap_of (by omega), ?_⟩
  rw [W_some]
  have l2 := pK_len s (Sum.inl y) true
  refine ⟨by omega, fun z hz => ?_⟩
  rw [mem_take_succ hi]
  have e : dget (pK s (Sum.inl y) true) z = if (Sum.inl z : Key) = Sum.inl y then some true else dget s z := gK_put s (Sum.inl y) (Sum.inl z) true
  rw [e] at hz
  by_cases q : (Sum.inl z : Key) = Sum.inl y
  · exact .inr (Sum.inl.inj q)
  · rw [if_neg q] at hz
    exact .inl (hI.2 z hz)
theorem w_fsI (a : Str) {i : Nat} (h : i < 1000) : W (fsI a (i : Int)) fun _ => True := by
  unfold fsI
  rw [if_pos (log_small (by omega)), W_some]
  trivial
theorem w_chkSteps {xss : List (List Int)} {n : Int} (hl : (xss.length : Int) = n) (h0 : 1 ≤ n) (h1 : n ≤ 60) (h : ∀ xs ∈ xss, xs ≠ [] ∧ SetOk n xs) : W (p_check_steps xss) fun _ => True := by
  unfold p_check_steps
  rw [W_bind, W_some, W_bind, W_bind, hl, decide_eq_false (by omega), if_neg (by decide), W_some, decide_eq_false (by omega), if_neg (by decide), W_some, W_bind, W_bind, W_some]
  refine W_fold (fun _ _ => True) trivial (fun i y s hi _ => ?_) fun s _ => W_some.mpr trivial
  obtain ⟨e1, e2⟩ := enumL_at hi
  have il := lt_of_at e2
  obtain ⟨ne, ok⟩ := h y.2 (List.mem_of_getElem? e2)
  rw [e1]
  simp only [W_bind]
  refine (w_fsI "steps of stand " (i := i) (by omega)).imp fun t _ => ?_
  rw [W_some, W_some, W_some]
  refine (w_chkStands ok t).imp fun _ _ => ?_
  rw [decide_eq_false (fun z => ne (List.length_eq_zero_iff.mp (by omega))), if_neg (by decide), W_some, W_some]
  trivial
theorem w_chkFair {xss : List (List Int)} {n : Int} (hl : xss.length ≤ 100) (h : ∀ xs ∈ xss, SetOk n xs) : W (p_check_fair xss n) fun _ => True := by
  unfold p_check_fair
  rw [W_bind, W_bind, W_some]
  refine W_fold (fun _ _ => True) trivial (fun i y s hi _ => ?_) fun s _ => W_some.mpr trivial
  obtain ⟨e1, e2⟩ := enumL_at hi
  have il := lt_of_at e2
  rw [e1]
  simp only [W_bind]
  refine (w_fsI "fair set " (i := i) (by omega)).imp fun t _ => ?_
  rw [W_some, W_some, W_some]
  refine (w_chkStands (h y.2 (List.mem_of_getElem? e2)) t).imp fun _ _ => ?_
  rw [W_some]
  trivial
def MarksOk (n : Int) (ms : List (Str × List Int)) : Prop := (ms.map (·.1)).Nodup ∧ ms.length ≤ 100 ∧ ∀ m ∈ ms, p_is_name m.1 = some true ∧ m.1.length ≤ 1000 ∧ SetOk n m.2
theorem w_chkMarks {ms : List (Str × List Int)} {n : Int} (h : MarksOk n ms) : W (p_check_marks ms n) fun _ => True := by
  unfold p_check_marks
  rw [W_bind, W_some, W_bind, W_bind, W_some]
  refine W_fold (fun i s => s.length ≤ i ∧ ∀ z, (dgetS s z).isSome = true → z ∈ (ms.map (·.1)).take i) ⟨Nat.zero_le _, fun z hz => by cases hz⟩ (fun i y s hi hI => ?_) fun s _ => W_some.mpr trivial
  have il := lt_of_at hi
  have hi' : (ms.map (·.1))[i]? = some y.1 := by rw [List.getElem?_map, hi]; rfl
  obtain ⟨nm, ln, ok⟩ := h.2.2 y (List.mem_of_getElem? hi)
  have nin : y.1 ∉ (ms.map (·.1)).take i := fun hz => by
    obtain ⟨j, hj⟩ := List.mem_iff_getElem?.mp hz
    have hji : j < i := by
      have := lt_of_at hj
      rw [List.length_take] at this
      omega
    rw [List.getElem?_take_of_lt hji] at hj
    have a1 := lt_of_at hi'
    have a2 := lt_of_at hj
    rw [List.getElem?_eq_getElem a1] at hi'
    rw [List.getElem?_eq_getElem a2] at hj
    have e : (ms.map (·.1))[j] = (ms.map (·.1))[i] := (Option.some.inj hj).trans (Option.some.inj hi').symm
    have := (List.getElem_inj h.1).mp e
    omega
  rw [nm, W_bind, W_bind, W_bind, W_some, W_some, Bool.not_true, if_neg (by decide), W_some, W_bind]
  have hn : (dgetS (Dc.mk s).kv y.1).isSome = false := by
    cases q : (dgetS s y.1).isSome with
    | false => rfl
    | true => exact absurd (hI.2 y.1 q) nin
  rw [hn, if_neg (by decide), W_some, W_bind, W_dputSB]
  have l1 := h.2.1
  refine ⟨cap_of (by omega), ?_⟩
  simp only [W_bind]
  have fs : W (fsS "mark " y.1) fun _ => True := by
    unfold fsS
    rw [if_pos ln, W_some]
    trivial
  refine fs.imp fun t _ => ?_
  rw [W_some, W_some, W_some]
  refine (w_chkStands ok t).imp fun _ _ => ?_
  rw [W_some]
  have l2 := pK_len s (Sum.inr y.1) true
  refine ⟨by omega, fun z hz => ?_⟩
  rw [mem_take_succ hi']
  have e : dgetS (pK s (Sum.inr y.1) true) z = if (Sum.inr z : Key) = Sum.inr y.1 then some true else dgetS s z := gK_put s (Sum.inr y.1) (Sum.inr z) true
  rw [e] at hz
  by_cases q : (Sum.inr z : Key) = Sum.inr y.1
  · exact .inr (Sum.inr.inj q)
  · rw [if_neg q] at hz
    exact .inl (hI.2 z hz)
theorem w_copied {xss : List (List Int)} (h : xss.length ≤ 100) : p_copied xss = some xss := by
  have q : W (p_copied xss) (· = xss) := by
    unfold p_copied
    rw [W_bind, W_some, W_map (fun x => x), List.map_id']
    exact ⟨cap_of (by omega), rfl⟩
  obtain ⟨a, e, rfl⟩ := q
  exact e
theorem w_mkK (C : Addr) {xss : List (List Int)} {mo : Option MKs} {fo : Option LLI} {n : Int} (hl : (xss.length : Int) = n) (h0 : 1 ≤ n) (h1 : n ≤ 60) (h : ∀ xs ∈ xss, xs ≠ [] ∧ SetOk n xs) (hm : MarksOk n (mo.getD [])) (hf : (fo.getD []).length ≤ 100 ∧ ∀ xs ∈ fo.getD [], SetOk n xs) :
    W (mkK C xss mo fo) fun m => Gr m n ∧ m.steps = xss ∧ m.marks = mo.getD [] ∧ m.fair = fo.getD [] := by
  unfold mkK mkG
  rw [W_bind]
  refine (w_chkSteps hl h0 h1 h).imp fun _ _ => ?_
  rw [W_bind, hl]
  refine (w_chkMarks hm).imp fun _ _ => ?_
  rw [W_bind]
  refine (w_chkFair hf.1 hf.2).imp fun _ _ => ?_
  have m1 := hm.2.1
  rw [w_copied (by omega), W_bind, W_some, W_bind, W_map (fun x : Str × List Int => (x.1, x.2))]
  refine ⟨cap_of (by omega), ?_⟩
  have e : (mo.getD []).map (fun x : Str × List Int => (x.1, x.2)) = mo.getD [] := List.map_id' _
  rw [w_copied hf.1, W_bind, W_some, W_bind]
  have hv : fSo xss = some (srcs xss) := by
    unfold fSo
    rw [if_pos ⟨by omega, rfl, fun xs hx => by obtain ⟨a, b, c, d⟩ := h xs hx; exact ⟨a, b, c, fun z hz => by have := d z hz; omega⟩⟩]
  rw [hv, W_some, W_some, e]
  exact ⟨⟨hl, h0, h1, fun xs hx => by obtain ⟨a, b, c, d⟩ := h xs hx; exact ⟨a, b, d⟩, rfl⟩, rfl, rfl, rfl⟩
end Ts
namespace Ts
open PySem L2
def okX (n : Int) : Mx → Bool
  | .mi z => decide (0 ≤ z) && decide (z < n)
  | _ => false
def rowB (n : Int) : List Int → List Mx → Bool
  | _, [] => true
  | seen, x :: xs => match x with
    | .mi z => (decide (0 ≤ z) && decide (z < n)) && !decide (z ∈ seen) && rowB n (seen ++ [z]) xs
    | _ => false
def MxF : Mx → Prop
  | .mi z => z.natAbs.log2 < 1920
  | .ms x => (reprText x).length ≤ 1000
  | _ => True
def RwF (xs : List Mx) : Prop := xs.length ≤ 90 ∧ ∀ x ∈ xs, MxF x
theorem isStandM (x : Mx) (n : Int) : p_is_standM x n = some (okX n x) := by
  unfold p_is_standM okX
  cases x with
  | mi z =>
    show (if (true : Bool) = true then if (true : Bool) = true then (some z).bind fun b1 => if decide ((0 : Int) ≤ b1) = true then some (decide (b1 < n)) else some false else some false else some false) = _
    rw [if_pos rfl, if_pos rfl]
    show (if decide ((0 : Int) ≤ z) = true then some (decide (z < n)) else some false) = _
    show _ = some (decide (0 ≤ z) && decide (z < n))
    cases decide ((0 : Int) ≤ z) <;> rfl
  | mb c => rfl
  | mn => rfl
  | ms x => rfl
theorem fitI_ok {i : Int} {m : Option Unit} (h : i.natAbs.log2 < 1920) : fitI i m = m := if_pos h
theorem fitS_ok {x : Str} {m : Option Unit} (h : x.length ≤ 1000) : fitS x m = m := if_pos h
theorem fitM_ok {x : Mx} {m : Option Unit} (h : MxF x) : fitM x m = m := by
  cases x with
  | mi z => exact fitI_ok h
  | ms x => exact fitS_ok h
  | mb c => rfl
  | mn => rfl
abbrev outB {cx : Fin 3 → Addr} (b : Bool) : Out Unit (Ek cx) := if b = true then .nx () else .rt ⟨0⟩
theorem chkM_go {cx : Fin 3 → Addr} {n : Int} {wh : Str} (hn : n.natAbs.log2 < 1920) (hw : wh.length ≤ 1000) : ∀ (xs : List Mx) (seen : List Int) (s : List (Key × Bool)), (∀ x ∈ xs, MxF x) → s.length + xs.length < cap → (∀ z : Int, (dget s z).isSome = decide (z ∈ seen)) →
    (foldX (fun (s2 : List (Key × Bool)) (x4 : Mx) => ((p_is_standM x4 n).bind fun a5 => some (!a5)).bind fun b => if b = true then (((some wh).bind fun j8 => fitS j8 ((some x4).bind fun j7 => fitM j7 ((some n).bind fun j6 => fitI j6 (some ())))).bind fun _ => some (Ek.mk 0 : Ek cx)).bind fun b => some (.rt b) else ((mxI x4).bind fun a9 => some ((dget (Dc.mk s2).kv a9).isSome)).bind fun b => if b = true then (((some wh).bind fun j11 => fitS j11 ((mxI x4).bind fun j10 => fitI j10 (some ()))).bind fun _ => some (Ek.mk 0 : Ek cx)).bind fun b => some (.rt b) else ((mxI x4).bind fun b13 => dput s2 b13 true).bind fun ahead12 => some (.nx ahead12)) xs s).bind (fun o => o.thn fun _ => some (.nx ())) = some (outB (rowB n seen xs))
  | [], seen, s, _, _, _ => rfl
  | x :: xs, seen, s, hx, hc, hs => by
    have hx0 := hx x List.mem_cons_self
    rw [foldX_cons, isStandM]
    have bad : ∀ {r : Option (Out (List (Key × Bool)) (Ek cx))}, (if (!okX n x) = true then (((some wh).bind fun j8 => fitS j8 ((some x).bind fun j7 => fitM j7 ((some n).bind fun j6 => fitI j6 (some ())))).bind fun _ => some (Ek.mk 0 : Ek cx)).bind fun b => some (Out.rt b) else r) = if okX n x = true then r else some (.rt ⟨0⟩) := fun {r} => by
      cases okX n x with
      | true => rfl
      | false =>
        show ((fitS wh (fitM x (fitI n (some ())))).bind fun _ => some (Ek.mk 0 : Ek cx)).bind _ = _
        rw [fitS_ok hw, fitM_ok hx0, fitI_ok hn]
        rfl
    show (((if (!okX n x) = true then _ else _ : Option (Out (List (Key × Bool)) (Ek cx)))).bind fun o => o.thn fun s' => foldX _ xs s').bind _ = _
    rw [bad]
    cases x with
    | mb c => rfl
    | mn => rfl
    | ms y => rfl
    | mi z =>
      show (((if (decide (0 ≤ z) && decide (z < n)) = true then (if (dget s z).isSome = true then ((fitS wh (fitI z (some ()))).bind fun _ => some (Ek.mk 0 : Ek cx)).bind fun b => some (Out.rt b) else (dput s z true).bind fun ahead12 => some (.nx ahead12)) else some (.rt ⟨0⟩)) : Option (Out (List (Key × Bool)) (Ek cx))).bind fun o => o.thn fun s' => foldX _ xs s').bind _ = some (outB ((decide (0 ≤ z) && decide (z < n)) && !decide (z ∈ seen) && rowB n (seen ++ [z]) xs))
      cases (decide (0 ≤ z) && decide (z < n)) with
      | false => rfl
      | true =>
        rw [if_pos rfl, hs z]
        cases hm : decide (z ∈ seen) with
        | true =>
          rw [if_pos rfl, fitS_ok hw, fitI_ok hx0]
          rfl
        | false =>
          rw [if_neg (by decide)]
          have hd : dput s z true = some (pK s (Sum.inl z) true) := by
            unfold dput
            exact if_pos (by rw [List.length_cons] at hc; omega)
          rw [hd]
          refine chkM_go hn hw xs (seen ++ [z]) (pK s (Sum.inl z) true) (fun x h => hx x (List.mem_cons_of_mem _ h)) ?_ fun y => ?_
          · have := pK_len s (Sum.inl z) true
            rw [List.length_cons] at hc
            omega
          · have e : dget (pK s (Sum.inl z) true) y = if (Sum.inl y : Key) = Sum.inl z then some true else dget s y := gK_put s (Sum.inl z) (Sum.inl y) true
            rw [e]
            by_cases q : y = z
            · subst q
              rw [if_pos rfl]
              simp
            · rw [if_neg (fun e => q (Sum.inl.inj e)), hs y]
              simp [q]
theorem chkM {cx : Fin 3 → Addr} {n : Int} {wh : Str} (hn : n.natAbs.log2 < 1920) (hw : wh.length ≤ 1000) {xs : List Mx} (h : RwF xs) : p_check_standsM cx xs n wh = some (outB (rowB n [] xs)) := by
  unfold p_check_standsM
  refine chkM_go hn hw xs [] [] h.2 ?_ fun z => rfl
  have := h.1
  have c : (90 : Nat) < cap := by decide +kernel
  show 0 + xs.length < cap
  omega
theorem atI_app {α : Type} (pre : List α) (x : α) (xs : List α) : atI (pre ++ x :: xs) (pre.length : Int) = some x := by
  exact atI_nat (by simp)
theorem cut_pre {α : Type} (pre xs : List α) : cutL (pre ++ xs) none (some (pre.length : Int)) = pre := by
  unfold cutL
  rw [HT.sIx_none, HT.sIx_nat]
  simp
theorem mxL_app : ∀ {pre : List Mx} {seen : List Int} (z : Int), mxL pre = some seen → mxL (pre ++ [.mi z]) = some (seen ++ [z])
  | [], seen, z, h => by cases h; rfl
  | x :: pre, seen, z, h => by
    unfold mxL at h
    obtain ⟨a, e1, h⟩ := opt_get h
    obtain ⟨l, e2, h⟩ := opt_get h
    cases h
    show (mxI x).bind _ = _
    rw [e1]
    show (mxL (pre ++ [.mi z])).bind _ = _
    rw [mxL_app z e2]
    rfl
abbrev stepS (q0 : List Mx) (q1 : Int) : Unit → Int → Option (Out Unit Bool) := fun (s1 : Unit) (x3 : Int) => ((((atI q0 x3).bind fun a4 => some (isiI a4)).bind fun a5 => some (!a5)).bind fun c13 => if c13 = true then some true else ((atI q0 x3).bind fun a6 => some (isiB a6)).bind fun c12 => if c12 = true then some true else (((atI q0 x3).bind fun a7 => mxI a7).bind fun a8 => some (decide (a8 < (0 : Int)))).bind fun c11 => if c11 = true then some true else ((atI q0 x3).bind fun a9 => mxI a9).bind fun a10 => some (decide (q1 ≤ a10))).bind fun b => if b = true then (some false).bind fun b => some (.rt b) else (((atI q0 x3).bind fun a14 => mxI a14).bind fun a15 => (mxL (cutL q0 none (some x3))).bind fun b16 => some (decide (a15 ∈ b16))).bind fun b => if b = true then (some false).bind fun b => some (.rt b) else some (.nx ())
theorem stands_go (n : Int) : ∀ (xs pre : List Mx) (seen : List Int), mxL pre = some seen → (foldX (stepS (pre ++ xs) n) ((List.range' pre.length xs.length).map Int.ofNat) ()).bind (fun o => o.els fun _ => some true) = some (rowB n seen xs)
  | [], pre, seen, _ => rfl
  | x :: xs, pre, seen, h => by
    rw [List.length_cons, List.range'_succ, List.map_cons, foldX_cons]
    have e1 : atI (pre ++ x :: xs) (Int.ofNat pre.length) = some x := atI_app pre x xs
    have e2 : cutL (pre ++ x :: xs) none (some (Int.ofNat pre.length)) = pre := cut_pre pre (x :: xs)
    show ((stepS (pre ++ x :: xs) n () (Int.ofNat pre.length)).bind _).bind _ = _
    unfold stepS
    rw [e1, e2, h]
    cases x with
    | mb c => rfl
    | mn => rfl
    | ms y => rfl
    | mi z =>
      show (((if decide (z < 0) = true then some true else some (decide (n ≤ z))).bind fun b => if b = true then some (Out.rt false) else if decide (z ∈ seen) = true then some (.rt false) else some (Out.nx ())).bind fun o => o.thn fun s' => foldX _ _ s').bind _ = some ((decide (0 ≤ z) && decide (z < n)) && !decide (z ∈ seen) && rowB n (seen ++ [z]) xs)
      have a1 : decide (0 ≤ z) = !decide (z < 0) := by by_cases q : z < 0 <;> simp [q] <;> omega
      have a2 : decide (z < n) = !decide (n ≤ z) := by by_cases q : n ≤ z <;> simp [q] <;> omega
      rw [a1, a2]
      cases decide (z < 0) with
      | true => rfl
      | false =>
        cases decide (n ≤ z) with
        | true => rfl
        | false =>
          cases hm : decide (z ∈ seen) with
          | true => rfl
          | false =>
            have ih := stands_go n xs (pre ++ [.mi z]) (seen ++ [z]) (mxL_app z h)
            rw [List.append_assoc, List.length_append] at ih
            exact ih
theorem stands_ok (xs : List Mx) (n : Int) (h : xs.length ≤ 1000) : p_l_stands xs n = some (rowB n [] xs) := by
  unfold p_l_stands
  have e : rangeM (xs.length : Int) = some ((List.range' 0 xs.length).map Int.ofNat) := by
    unfold rangeM
    rw [if_pos (by omega), Int.toNat_natCast, List.range_eq_range']
  rw [e]
  exact stands_go n xs [] [] rfl
end Ts
namespace Ts
open PySem L2
abbrev words10 : List Str := ["all", "not", "both", "either", "somenext", "eachnext", "sometill", "eachtill", "someever", "eachever"]
abbrev abc : Str := "abcdefghijklmnopqrstuvwxyz"
def nameB (x : Str) : Bool := !decide (x ∈ words10) && (decide ((1 : Int) ≤ x.length) && decide ((x.length : Int) ≤ 8)) && (signs x).all fun z => inS z abc
theorem cap1k : 1000 < cap := by decide +kernel
theorem lenS_ok {x : Str} (h : x.length ≤ 1000) : lenS x = some (x.length : Int) := if_pos (Nat.lt_of_le_of_lt h cap1k)
theorem comp_map {α β : Type} {g : α → β} : ∀ xs : List α, compM (fun _ => some true) (fun x => some (g x)) xs = some (xs.map g)
  | [] => rfl
  | x :: xs => by
    show (some true).bind _ = _
    show (compM _ _ xs).bind _ = _
    rw [comp_map xs]
    rfl
theorem signs_len (x : Str) : (signs x).length = x.length := by
  unfold signs
  rw [List.length_map]
  rfl
theorem isName_ok {x : Str} (h : x.length ≤ 1000) : p_is_name x = some (nameB x) := by
  unfold p_is_name nameB
  rw [lenS_ok h]
  show (if decide (x ∈ words10) = true then some false else _) = _
  cases decide (x ∈ words10) with
  | true => rfl
  | false =>
    rw [if_neg (by decide)]
    show (if decide ((1 : Int) ≤ x.length) = true then some (decide ((x.length : Int) ≤ 8)) else some false).bind _ = some ((true && (decide ((1 : Int) ≤ x.length) && decide ((x.length : Int) ≤ 8))) && (signs x).all fun z => inS z abc)
    cases decide ((1 : Int) ≤ x.length) with
    | false => rfl
    | true =>
      cases decide ((x.length : Int) ≤ 8) with
      | false => rfl
      | true =>
        show (compL (fun _ => some true) (fun z => some (inS z abc)) (signs x)).bind (fun a3 => some (a3.all id)) = some ((signs x).all fun z => inS z abc)
        unfold compL
        rw [if_pos (by rw [signs_len]; exact Nat.lt_of_le_of_lt h cap1k), comp_map]
        show some (((signs x).map _).all id) = _
        rw [List.all_map]
        rfl
theorem named_go : ∀ xs : List Str, (foldX (fun (s5 : Unit) (x7 : Str) => if (!inS x7 abc) = true then (some false).bind fun b => some (.rt b) else some (.nx ())) xs ()).bind (fun o => o.els fun s6 => some true) = some (xs.all fun z => inS z abc)
  | [] => rfl
  | x :: xs => by
    rw [foldX_cons, List.all_cons]
    cases inS x abc with
    | false => rfl
    | true => exact named_go xs
theorem named_ok {x : Str} (h : x.length ≤ 1000) : p_l_named x = some (nameB x) := by
  unfold p_l_named nameB
  rw [lenS_ok h]
  show ((if decide (x ∈ words10) = true then some true else (if decide ((x.length : Int) < 1) = true then some true else some (decide ((8 : Int) < x.length)))).bind fun b => if b = true then some false else _) = _
  have a1 : decide ((1 : Int) ≤ x.length) = !decide ((x.length : Int) < 1) := by by_cases q : (x.length : Int) < 1 <;> simp [q] <;> omega
  have a2 : decide ((x.length : Int) ≤ 8) = !decide ((8 : Int) < x.length) := by by_cases q : (8 : Int) < x.length <;> simp [q] <;> omega
  rw [a1, a2]
  cases decide (x ∈ words10) with
  | true => rfl
  | false =>
    cases decide ((x.length : Int) < 1) with
    | true => rfl
    | false =>
      cases decide ((8 : Int) < x.length) with
      | true => rfl
      | false => exact named_go (signs x)
def stepsR (n : Int) : List (List Mx) → Option (Fin 3)
  | [] => none
  | r :: rs => if rowB n [] r = true then if r.isEmpty = true then some 1 else stepsR n rs else some 0
def fairR (n : Int) : List (List Mx) → Option (Fin 3)
  | [] => none
  | r :: rs => if rowB n [] r = true then fairR n rs else some 0
def marksR (n : Int) : List Str → List (Str × List Mx) → Option (Fin 3)
  | _, [] => none
  | seen, m :: ms => if (!nameB m.1) = true then some 2 else if decide (m.1 ∈ seen) = true then some 2 else if rowB n [] m.2 = true then marksR n (seen ++ [m.1]) ms else some 0
abbrev outR {cx : Fin 3 → Addr} (o : Option (Fin 3)) : Out Unit (Ek cx) := match o with
  | none => .nx ()
  | some i => .rt ⟨i⟩
theorem dig20 : ∀ k : Fin 1000, (Str.ofString (toString (Int.ofNat k.val))).length ≤ 20 := by decide +kernel
theorem fsI_ok (a : Str) {k : Nat} (ha : a.length ≤ 100) (h : k < 1000) : ∃ w : Str, fsI a (k : Int) = some w ∧ w.length ≤ 1000 := by
  refine ⟨_, if_pos (log_small (by omega)), ?_⟩
  rw [str_app_len]
  have := dig20 ⟨k, h⟩
  have : (Str.ofString (toString (k : Int))).length ≤ 20 := this
  omega
theorem log_nat {k : Nat} (h : k < 1000) : (k : Int).natAbs.log2 < 1920 := log_small (by omega)
theorem steps_go {cx : Fin 3 → Addr} {n : Int} (hn : n.natAbs.log2 < 1920) : ∀ L : List (Int × List Mx), (∀ p ∈ L, (∃ k : Nat, p.1 = k ∧ k < 1000) ∧ RwF p.2) →
    (foldX (fun (s4 : Unit) (x6 : Int × (List Mx)) => ((((((fsI "steps of stand " x6.1).bind fun a12 => some ((a12, ()))).bind fun b13 => some (n, b13)).bind fun b14 => some (x6.2, b14))).bind fun z7 => p_check_standsM cx z7.1 z7.2.1 z7.2.2.1).bind fun r => eOut r (if (decide ((x6.2.length : Int) = (0 : Int))) = true then (((some x6.1).bind fun j8 => fitI j8 (some ())).bind fun _ => some (Ek.mk 1 : Ek cx)).bind fun b => some (.rt b) else some (.nx ()))) L ()).bind (fun o => o.thn fun s5 => some (.nx ())) = some (outR (stepsR n (L.map (·.2))))
  | [], _ => rfl
  | x :: L, h => by
    obtain ⟨⟨k, e, hk⟩, hr⟩ := h x List.mem_cons_self
    obtain ⟨w, e1, e2⟩ := fsI_ok "steps of stand " (by decide +kernel) hk
    rw [foldX_cons, e, e1]
    show (((p_check_standsM cx x.2 n w).bind fun r => eOut r _).bind _).bind _ = some (outR (if rowB n [] x.2 = true then if x.2.isEmpty = true then some 1 else stepsR n (L.map (·.2)) else some 0))
    rw [chkM hn e2 hr]
    cases rowB n [] x.2 with
    | false => rfl
    | true =>
      rw [if_pos rfl]
      show ((if decide ((x.2.length : Int) = 0) = true then ((fitI (k : Int) (some ())).bind fun _ => some (Ek.mk 1 : Ek cx)).bind fun b => some (Out.rt b) else some (Out.nx ())).bind _).bind _ = _
      rw [fitI_ok (log_nat (by omega))]
      cases hx : x.2 with
      | nil => rfl
      | cons a b =>
        rw [decide_eq_false (by rw [List.length_cons]; omega)]
        exact steps_go hn L fun p hp => h p (List.mem_cons_of_mem _ hp)
theorem enum_map {α : Type} (xs : List α) : (enumL xs).map (·.2) = xs := by
  unfold enumL
  exact List.map_snd_zip (by simp)
theorem enum_mem {α : Type} {xs : List α} {p : Int × α} (h : p ∈ enumL xs) : (∃ k : Nat, p.1 = k ∧ k < xs.length) ∧ p.2 ∈ xs := by
  obtain ⟨i, hi⟩ := List.mem_iff_getElem?.mp h
  obtain ⟨e1, e2⟩ := enumL_at hi
  exact ⟨⟨i, e1, lt_of_at e2⟩, List.mem_of_getElem? e2⟩
noncomputable def sizeR (n : Int) : Option (Fin 3) := if (decide (n < 1) || decide (60 < n)) = true then some 0 else none
theorem stepsM_ok {cx : Fin 3 → Addr} {a : LLM} (hl : a.length < 1000) (h : ∀ r ∈ a, RwF r) : p_check_stepsM cx a = some (outR ((sizeR a.length).or (stepsR a.length a))) := by
  unfold p_check_stepsM sizeR
  have hn : (a.length : Int).natAbs.log2 < 1920 := log_nat (by omega)
  show ((if decide ((a.length : Int) < 1) = true then some true else some (decide ((60 : Int) < a.length))).bind fun b => if b = true then ((fitI (a.length : Int) (fitI 60 (some ()))).bind fun _ => some (Ek.mk 0 : Ek cx)).bind fun b => some (Out.rt b) else _) = _
  rw [fitI_ok hn, fitI_ok (show (60 : Int).natAbs.log2 < 1920 by decide +kernel)]
  cases decide ((a.length : Int) < 1) with
  | true => rfl
  | false =>
    cases decide ((60 : Int) < a.length) with
    | true => rfl
    | false =>
      have z := steps_go (cx := cx) hn (enumL a) fun p hp => by
        obtain ⟨⟨k, e, hk⟩, hm⟩ := enum_mem hp
        exact ⟨⟨k, e, by omega⟩, h _ hm⟩
      rw [enum_map] at z
      exact z
theorem fair_go {cx : Fin 3 → Addr} {n : Int} (hn : n.natAbs.log2 < 1920) : ∀ L : List (Int × List Mx), (∀ p ∈ L, (∃ k : Nat, p.1 = k ∧ k < 1000) ∧ RwF p.2) →
    (foldX (fun (s1 : Unit) (x3 : Int × (List Mx)) => ((((((fsI "fair set " x3.1).bind fun a8 => some ((a8, ()))).bind fun b9 => some (n, b9)).bind fun b10 => some (x3.2, b10))).bind fun z4 => p_check_standsM cx z4.1 z4.2.1 z4.2.2.1).bind fun r => eOut r (some (.nx ()))) L ()).bind (fun o => o.thn fun s2 => some (.nx ())) = some (outR (fairR n (L.map (·.2))))
  | [], _ => rfl
  | x :: L, h => by
    obtain ⟨⟨k, e, hk⟩, hr⟩ := h x List.mem_cons_self
    obtain ⟨w, e1, e2⟩ := fsI_ok "fair set " (by decide +kernel) hk
    rw [foldX_cons, e, e1]
    show (((p_check_standsM cx x.2 n w).bind fun r => eOut r _).bind _).bind _ = some (outR (if rowB n [] x.2 = true then fairR n (L.map (·.2)) else some 0))
    rw [chkM hn e2 hr]
    cases rowB n [] x.2 with
    | false => rfl
    | true => exact fair_go hn L fun p hp => h p (List.mem_cons_of_mem _ hp)
theorem fairM_ok {cx : Fin 3 → Addr} {n : Int} {a : LLM} (hn : n.natAbs.log2 < 1920) (hl : a.length < 1000) (h : ∀ r ∈ a, RwF r) : p_check_fairM cx a n = some (outR (fairR n a)) := by
  unfold p_check_fairM
  have z := fair_go (cx := cx) hn (enumL a) fun p hp => by
    obtain ⟨⟨k, e, hk⟩, hm⟩ := enum_mem hp
    exact ⟨⟨k, e, by omega⟩, h _ hm⟩
  rw [enum_map] at z
  exact z
def NmF (x : Str) : Prop := x.length ≤ 100 ∧ (reprText x).length ≤ 1000
theorem marks_go {cx : Fin 3 → Addr} {n : Int} (hn : n.natAbs.log2 < 1920) : ∀ (ms : List (Str × List Mx)) (seen : List Str) (s : List (Key × Bool)), (∀ m ∈ ms, NmF m.1 ∧ RwF m.2) → s.length + ms.length < cap → (∀ z : Str, (dgetS s z).isSome = decide (z ∈ seen)) →
    (foldX (fun (s2 : List (Key × Bool)) (x4 : Str × (List Mx)) => ((p_is_name x4.1).bind fun a5 => some (!a5)).bind fun b => if b = true then (((some x4.1).bind fun j6 => fitR j6 (some ())).bind fun _ => some (Ek.mk 2 : Ek cx)).bind fun b => some (.rt b) else if ((dgetS (Dc.mk s2).kv x4.1).isSome) = true then (((some x4.1).bind fun j7 => fitS j7 (some ())).bind fun _ => some (Ek.mk 2 : Ek cx)).bind fun b => some (.rt b) else (dputS s2 x4.1 true).bind fun ahead8 => ((((((fsS "mark " x4.1).bind fun a13 => some ((a13, ()))).bind fun b14 => some (n, b14)).bind fun b15 => some (x4.2, b15))).bind fun z9 => p_check_standsM cx z9.1 z9.2.1 z9.2.2.1).bind fun r => eOut r (some (.nx ahead8))) ms s).bind (fun o => o.thn fun s3 => some (.nx ())) = some (outR (marksR n seen ms))
  | [], _, _, _, _, _ => rfl
  | x :: ms, seen, s, h, hc, hs => by
    obtain ⟨hm, hr⟩ := h x List.mem_cons_self
    have l1 : x.1.length ≤ 1000 := by have := hm.1; omega
    rw [foldX_cons, isName_ok l1]
    show ((if (!nameB x.1) = true then ((fitS (reprText x.1) (some ())).bind fun _ => some (Ek.mk 2 : Ek cx)).bind fun b => some (Out.rt b) else if ((dgetS s x.1).isSome) = true then ((fitS x.1 (some ())).bind fun _ => some (Ek.mk 2 : Ek cx)).bind fun b => some (Out.rt b) else _).bind _).bind _ = some (outR (if (!nameB x.1) = true then some 2 else if decide (x.1 ∈ seen) = true then some 2 else if rowB n [] x.2 = true then marksR n (seen ++ [x.1]) ms else some 0))
    rw [fitS_ok hm.2, fitS_ok l1, hs x.1]
    cases nameB x.1 with
    | false => rfl
    | true =>
      cases hq : decide (x.1 ∈ seen) with
      | true => rfl
      | false =>
        have hd : dputS s x.1 true = some (pK s (Sum.inr x.1) true) := by
          unfold dputS
          exact if_pos (by rw [List.length_cons] at hc; omega)
        have hf : fsS "mark " x.1 = some ("mark " ++ x.1) := if_pos l1
        rw [hd, hf]
        show (((p_check_standsM cx x.2 n ("mark " ++ x.1)).bind fun r => eOut r _).bind _).bind _ = _
        have lw : (("mark " : Str) ++ x.1).length ≤ 1000 := by
          rw [str_app_len]
          have := hm.1
          have : ("mark " : Str).length = 5 := by decide +kernel
          omega
        rw [chkM hn lw hr]
        cases rowB n [] x.2 with
        | false => rfl
        | true =>
          refine marks_go hn ms (seen ++ [x.1]) (pK s (Sum.inr x.1) true) (fun p hp => h p (List.mem_cons_of_mem _ hp)) ?_ fun y => ?_
          · have := pK_len s (Sum.inr x.1) true
            rw [List.length_cons] at hc
            omega
          · have e : dgetS (pK s (Sum.inr x.1) true) y = if (Sum.inr y : Key) = Sum.inr x.1 then some true else dgetS s y := gK_put s (Sum.inr x.1) (Sum.inr y) true
            rw [e]
            by_cases q : y = x.1
            · subst q
              rw [if_pos rfl]
              simp
            · rw [if_neg (fun e => q (Sum.inr.inj e)), hs y]
              simp [q]
theorem marksM_ok {cx : Fin 3 → Addr} {n : Int} {ms : MKM} (hn : n.natAbs.log2 < 1920) (hl : ms.length ≤ 100) (h : ∀ m ∈ ms, NmF m.1 ∧ RwF m.2) : p_check_marksM cx ms n = some (outR (marksR n [] ms)) := by
  unfold p_check_marksM
  refine marks_go hn ms [] [] h ?_ fun z => rfl
  have := cap1k
  show 0 + ms.length < cap
  omega
structure Fine (a : Prt) : Prop where
  la : a.a.length < 1000
  lb : a.b.length ≤ 100
  lc : a.c.length ≤ 100
  ra : ∀ r ∈ a.a, RwF r
  rb : ∀ m ∈ a.b, NmF m.1 ∧ RwF m.2
  rc : ∀ r ∈ a.c, RwF r
noncomputable def refusal (a : Prt) : Option (Fin 3) := (sizeR a.a.length).or ((stepsR a.a.length a.a).or ((marksR a.a.length [] a.b).or (fairR a.a.length a.c)))
theorem inX_ok {cx : Fin 3 → Addr} {a : Prt} (h : Fine a) : p_inX cx a.a a.b a.c = (refusal a).bind fun i => some (.rt ⟨i⟩) := by
  have hn : (a.a.length : Int).natAbs.log2 < 1920 := log_nat (by have := h.la; omega)
  unfold p_inX refusal
  rw [stepsM_ok h.la h.ra, marksM_ok hn h.lb h.rb, fairM_ok hn (by have := h.lc; omega) h.rc]
  cases sizeR a.a.length with
  | some i => rfl
  | none =>
    cases stepsR a.a.length a.a with
    | some i => rfl
    | none =>
      cases marksR a.a.length [] a.b with
      | some i => rfl
      | none =>
        cases fairR a.a.length a.c with
        | some i => rfl
        | none => rfl
end Ts
namespace Ts
open PySem L2
abbrev outS (o : Option (Fin 3)) : Out Unit Str := match o with
  | none => .nx ()
  | some i => .rt (nmE i)
theorem due_steps {n : Int} : ∀ rs : List (List Mx), (∀ r ∈ rs, RwF r) → foldX (fun (s3 : Unit) (x5 : List Mx) => ((p_l_stands x5 n).bind fun a6 => some (!a6)).bind fun b => if b = true then (some ("stand" : Str)).bind fun b => some (Out.rt b) else if (if false = true then !x5.isEmpty else x5.isEmpty) = true then (some ("step" : Str)).bind fun b => some (.rt b) else some (.nx ())) rs () = some (outS (stepsR n rs))
  | [], _ => rfl
  | x :: rs, h => by
    rw [foldX_cons, stands_ok x n (by have := (h x List.mem_cons_self).1; omega)]
    show ((if (!rowB n [] x) = true then some (Out.rt ("stand" : Str)) else if x.isEmpty = true then some (.rt ("step" : Str)) else some (.nx ())).bind _) = some (outS (if rowB n [] x = true then if x.isEmpty = true then some 1 else stepsR n rs else some 0))
    cases rowB n [] x with
    | false => rfl
    | true =>
      cases x.isEmpty with
      | true => rfl
      | false => exact due_steps rs fun r hr => h r (List.mem_cons_of_mem _ hr)
theorem due_fair {n : Int} : ∀ rs : List (List Mx), (∀ r ∈ rs, RwF r) → foldX (fun (s23 : Unit) (x25 : List Mx) => ((p_l_stands x25 n).bind fun a26 => some (!a26)).bind fun b => if b = true then (some ("stand" : Str)).bind fun b => some (Out.rt b) else some (.nx ())) rs () = some (outS (fairR n rs))
  | [], _ => rfl
  | x :: rs, h => by
    rw [foldX_cons, stands_ok x n (by have := (h x List.mem_cons_self).1; omega)]
    show ((if (!rowB n [] x) = true then some (Out.rt ("stand" : Str)) else some (.nx ())).bind _) = some (outS (if rowB n [] x = true then fairR n rs else some 0))
    cases rowB n [] x with
    | false => rfl
    | true => exact due_fair rs fun r hr => h r (List.mem_cons_of_mem _ hr)
theorem due_marks {n : Int} {f : Str → Option Bool} {g : List Mx → Int → Option Bool} : ∀ (ms pre : List (Str × List Mx)), pre.length + ms.length < 1000 → (∀ m ∈ ms, f m.1 = some (nameB m.1) ∧ g m.2 n = some (rowB n [] m.2)) → foldX (fun (s7 : Unit) (x9 : Int) => ((((((atI (pre ++ ms) x9).bind fun a10 => some a10.1).bind fun a12 => some ((a12, ()))).bind fun z11 => f z11.1).bind fun a13 => some (!a13)).bind fun c18 => if c18 = true then some true else ((atI (pre ++ ms) x9).bind fun a15 => some a15.1).bind fun a16 => ((some (cutL (pre ++ ms) none (some x9))).bind fun xs => compL (fun (x14 : Str × (List Mx)) => some true) (fun (x14 : Str × (List Mx)) => some x14.1) xs).bind fun b17 => some (decide (a16 ∈ b17))).bind fun b => if b = true then (some ("mark" : Str)).bind fun b => some (Out.rt b) else (((((atI (pre ++ ms) x9).bind fun a19 => some a19.2).bind fun a21 => some ((a21, (n, ())))).bind fun z20 => g z20.1 z20.2.1).bind fun a22 => some (!a22)).bind fun b => if b = true then (some ("stand" : Str)).bind fun b => some (.rt b) else some (.nx ())) ((List.range' pre.length ms.length).map Int.ofNat) () = some (outS (marksR n (pre.map (·.1)) ms))
  | [], _, _, _ => rfl
  | x :: ms, pre, hl, h => by
    obtain ⟨hm, hr⟩ := h x List.mem_cons_self
    have e1 : atI (pre ++ x :: ms) (Int.ofNat pre.length) = some x := atI_app pre x ms
    have e2 : cutL (pre ++ x :: ms) none (some (Int.ofNat pre.length)) = pre := cut_pre pre (x :: ms)
    have e3 : compL (fun (x14 : Str × (List Mx)) => some true) (fun (x14 : Str × (List Mx)) => some x14.1) pre = some (pre.map (·.1)) := by
      unfold compL
      rw [if_pos (Nat.lt_of_le_of_lt (show pre.length ≤ 1000 by omega) cap1k), comp_map]
    rw [List.length_cons, List.range'_succ, List.map_cons, foldX_cons, e1, e2]
    simp only [Option.bind_some]
    rw [e3, hm, hr]
    simp only [Option.bind_some]
    show _ = some (outS (if (!nameB x.1) = true then some 2 else if decide (x.1 ∈ pre.map (·.1)) = true then some 2 else if rowB n [] x.2 = true then marksR n (pre.map (·.1) ++ [x.1]) ms else some 0))
    cases nameB x.1 with
    | false => rfl
    | true =>
      show ((if decide (x.1 ∈ pre.map (·.1)) = true then some (Out.rt ("mark" : Str)) else if (!rowB n [] x.2) = true then some (Out.rt ("stand" : Str)) else some (.nx ())).bind _) = some (outS (if decide (x.1 ∈ pre.map (·.1)) = true then some 2 else if rowB n [] x.2 = true then marksR n (pre.map (·.1) ++ [x.1]) ms else some 0))
      cases decide (x.1 ∈ pre.map (·.1)) with
      | true => rfl
      | false =>
        cases rowB n [] x.2 with
        | false => rfl
        | true =>
          have ih := due_marks (n := n) ms (pre ++ [x]) (by rw [List.length_append, List.length_singleton]; rw [List.length_cons] at hl; omega) fun p hp => h p (List.mem_cons_of_mem _ hp)
          rw [List.append_assoc, List.length_append, List.map_append] at ih
          exact ih
theorem due_ok {a : Prt} (h : Fine a) : p_l_due a = some (((refusal a).map nmE).getD "by") := by
  unfold p_l_due refusal sizeR
  have e : rangeM (a.b.length : Int) = some ((List.range' 0 a.b.length).map Int.ofNat) := by
    unfold rangeM
    rw [if_pos (by have := h.lb; omega), Int.toNat_natCast, List.range_eq_range']
  have z1 := due_steps (n := a.a.length) a.a h.ra
  have z2 := due_marks (n := a.a.length) (f := p_l_named) (g := p_l_stands) a.b [] (by have := h.lb; show 0 + a.b.length < 1000; omega) fun m hm => ⟨named_ok (by have := (h.rb m hm).1.1; omega), stands_ok m.2 _ (by have := (h.rb m hm).2.1; omega)⟩
  have z3 := due_fair (n := a.a.length) a.c h.rc
  show ((if decide ((a.a.length : Int) < 1) = true then some true else some (decide ((60 : Int) < a.a.length))).bind fun b => if b = true then some ("stand" : Str) else _) = _
  cases decide ((a.a.length : Int) < 1) with
  | true => rfl
  | false =>
    cases decide ((60 : Int) < a.a.length) with
    | true => rfl
    | false =>
      show ((foldX _ a.a ()).bind fun o => o.els fun s4 => ((rangeM (a.b.length : Int)).bind fun xs => foldX _ xs ()).bind fun o => o.els fun s8 => ((some a.c).bind fun xs => foldX _ xs ()).bind fun o => o.els fun _ => some ("by" : Str)) = some (((Option.or none ((stepsR a.a.length a.a).or ((marksR a.a.length [] a.b).or (fairR a.a.length a.c)))).map nmE).getD "by")
      rw [z1, e]
      cases stepsR a.a.length a.a with
      | some i => rfl
      | none =>
        show ((foldX _ ((List.range' 0 a.b.length).map Int.ofNat) ()).bind fun o => o.els fun s8 => ((some a.c).bind fun xs => foldX _ xs ()).bind fun o => o.els fun _ => some ("by" : Str)) = some (((marksR a.a.length [] a.b).or (fairR a.a.length a.c)).map nmE |>.getD "by")
        refine (congrArg (fun m => Option.bind m _) z2).trans ?_
        show (outS (marksR a.a.length [] a.b)).els _ = _
        cases marksR a.a.length [] a.b with
        | some i => rfl
        | none =>
          show ((foldX _ a.c ()).bind fun o => o.els fun _ => some ("by" : Str)) = some (((fairR a.a.length a.c).map nmE).getD "by")
          rw [z3]
          cases fairR a.a.length a.c with
          | some i => rfl
          | none => rfl
end Ts
namespace Ts
open PySem L2
def Sm (n : Nat) (x : Str) : Prop := x.length ≤ n ∧ ∀ c ∈ x.cps.toList, c < 1000
theorem Sm.nm {x : Str} (h : Sm 50 x) : NmF x := ⟨by have := h.1; omega, by
  have := StrLaws.reprText_len x fun c hc => Nat.lt_trans (h.2 c hc) (by decide)
  have := h.1
  omega⟩
theorem cps_app (a b : Str) : (a ++ b).cps.toList = a.cps.toList ++ b.cps.toList := by
  show (a.cps ++ b.cps).toList = _
  rw [Array.toList_append]
theorem sm_app {m n : Nat} {a b : Str} (ha : Sm m a) (hb : Sm n b) : Sm (m + n) (a ++ b) := ⟨by rw [str_app_len]; exact Nat.add_le_add ha.1 hb.1, fun c hc => by
  rw [cps_app] at hc
  exact (List.mem_append.mp hc).elim (ha.2 c) (hb.2 c)⟩
theorem sm_len {n : Nat} {x : Str} (h : x.cps.toList.length ≤ n) : x.length ≤ n := by
  rwa [Array.length_toList] at h
theorem sm_sub {n : Nat} {x : Str} {l : List Nat} (h : Sm n x) (hl : l.length ≤ n) (hs : ∀ c ∈ l, c ∈ x.cps.toList) : Sm n ⟨l.toArray⟩ := ⟨sm_len (by show l.toArray.toList.length ≤ n; exact hl), fun c hc => h.2 c (hs c hc)⟩
theorem sm_cutT {n : Nat} {x : Str} {j : Int} (h : Sm n x) (hn : n ≤ 9000) (j0 : 0 ≤ j) (j1 : j ≤ x.length) : W (cutT x j) (Sm n) := by
  unfold cutT
  rw [if_pos (Nat.le_trans h.1 hn), W_some]
  rw [show Txt.slice x none (some j) = StrLaws.sliceText x none (some j) from rfl, StrLaws.sliceText_to ⟨j0, by rw [Array.length_toList]; exact j1⟩]
  refine sm_sub h ?_ fun c hc => List.drop_subset _ _ (List.take_subset _ _ hc)
  rw [List.length_take, List.drop_zero, Array.length_toList]
  exact Nat.le_trans (Nat.min_le_right _ _) h.1
theorem sm_cutB {n : Nat} {x : Str} {j : Int} (h : Sm n x) (hn : n ≤ 9000) (j0 : 0 ≤ j) (j1 : j ≤ x.length) : W (cutB x j) (Sm n) := by
  unfold cutB
  rw [if_pos (Nat.le_trans h.1 hn), W_some]
  rw [show Txt.slice x (some j) none = StrLaws.sliceText x (some j) none from rfl, StrLaws.sliceText_from ⟨j0, by rw [Array.length_toList]; exact j1⟩]
  refine sm_sub h ?_ fun c hc => List.drop_subset _ _ (List.take_subset _ _ hc)
  rw [List.length_take, List.length_drop, Array.length_toList]
  exact Nat.le_trans (Nat.min_le_right _ _) (Nat.le_trans (Nat.sub_le _ _) h.1)
theorem sm_add {m n : Nat} {a b : Str} (ha : Sm m a) (hb : Sm n b) (h : m + n ≤ 9000) : W (addT a b) (Sm (m + n)) := by
  unfold addT
  have := ha.1
  have := hb.1
  rw [if_pos (by omega), W_some]
  exact sm_app ha hb
theorem jn_one : ∀ l : List Nat, (Str.join "" (l.map fun c => (⟨#[c]⟩ : Str))).cps.toList = l
  | [] => rfl
  | [c] => rfl
  | c :: d :: r => by
    have ih := jn_one (d :: r)
    show (((⟨#[c]⟩ : Str) ++ ("" : Str)) ++ Str.join "" ((d :: r).map fun c => (⟨#[c]⟩ : Str))).cps.toList = _
    rw [cps_app, cps_app, ih]
    rfl
theorem w_jn1 {m : Int} {f : Int → Option Str} {h : Int → Nat} (h0 : 0 ≤ m) (h1 : m ≤ 900) (hb : ∀ k, h k < 1000) (hf : ∀ k, f k = some ⟨#[h k]⟩) : W (((rangeM m).bind fun xs => compL (fun _ => some true) f xs).bind fun a => joinM "" a) fun y => y.length = m.toNat ∧ ∀ c ∈ y.cps.toList, c < 1000 := by
  rw [W_bind, W_bind, W_range]
  refine ⟨by omega, ?_⟩
  have rl := rng_len (n := m) h0
  rw [show f = fun k => some ⟨#[h k]⟩ from funext hf, W_map]
  refine ⟨Nat.lt_of_le_of_lt (show (rng m).length ≤ 1000 by omega) cap1k, ?_⟩
  obtain ⟨l, hl⟩ : ∃ l : List Nat, l = (rng m).map h := ⟨_, rfl⟩
  have e : ((rng m).map fun k => (⟨#[h k]⟩ : Str)) = l.map fun c => ⟨#[c]⟩ := by rw [hl, List.map_map]; rfl
  have ll : l.length = m.toNat := by rw [hl, List.length_map]; omega
  rw [e]
  unfold joinM
  have e1 : ("" : Str).length = 0 := by decide +kernel
  rw [if_pos (join_ok (n := 1) (fun y hy => by
    obtain ⟨c, _, rfl⟩ := List.mem_map.mp hy
    exact Nat.le_refl _) (by rw [List.length_map, e1]; omega)), W_some, show Txt.join "" (l.map fun c => (⟨#[c]⟩ : Str)) = Str.join "" (l.map fun c => (⟨#[c]⟩ : Str)) from StrLaws.glued_eq_join _ _]
  refine ⟨by rw [show ∀ x : Str, x.length = x.cps.toList.length from fun x => (Array.length_toList).symm, jn_one, ll], fun c hc => ?_⟩
  rw [jn_one, hl] at hc
  obtain ⟨k, _, rfl⟩ := List.mem_map.mp hc
  exact hb k
def letS : Str := "abcdefghijklmnopqrstuvwxyz"
def othS : Str := " !\"#$&'()*+,-./0123456789:;<=>?@ABCDEFGHIJKLMNOPQRSTUVWXYZ[\\]^_`{|}~"
theorem ix_let : ∀ i : Fin 26, ixS letS ((i.val : Nat) : Int) = some ⟨#[97 + i.val]⟩ := by decide +kernel
theorem ix_len {z : Str} {i : Int} (hz : Sm 500 z) (h0 : 0 ≤ i) (h1 : i < z.length) : W (ixS z i) (Sm 1) := by
  unfold ixS
  have l := hz.1
  rw [if_pos ⟨h0, by omega, h1⟩, Array.getElem?_eq_getElem (show i.toNat < z.cps.size by show _ < z.length; omega)]
  show W (some _) _
  rw [W_some]
  refine ⟨Nat.le_refl _, fun c hc => ?_⟩
  have hc : c ∈ [z.cps[i.toNat]'(show i.toNat < z.cps.size by show _ < z.length; omega)] := hc
  rw [List.mem_singleton.mp hc]
  exact hz.2 _ (Array.getElem_mem_toList _)
theorem oth_sm : 0 < othS.length ∧ othS.length ≤ 500 ∧ ∀ c ∈ othS.cps.toList, c < 1000 := by decide +kernel
def wrdS : List Str := ["all", "not", "both", "either", "somenext", "eachnext", "sometill", "eachtill", "someever", "eachever"]
theorem wrd_sm : ∀ x ∈ wrdS, (1 ≤ x.length ∧ x.length ≤ 8) ∧ ∀ c ∈ x.cps.toList, c < 1000 := by decide +kernel
theorem alw_sm : ∀ x ∈ (["", "somealways", "eachalways"] : List Str), x.length ≤ 10 ∧ ∀ c ∈ x.cps.toList, c < 1000 := by decide +kernel
theorem w_pick {α : Type} {xs : List α} {c n : Int} {P : α → Prop} (h0 : 0 < n) (h : n = xs.length) (hp : ∀ x ∈ xs, P x) : W ((modM c n).bind fun b => atI xs b) P := by
  rw [W_bind, W_mod]
  have z0 := Int.emod_nonneg c (show n ≠ 0 by omega)
  have z1 := Int.emod_lt_of_pos c h0
  refine ⟨h0, ?_⟩
  rw [W_at z0]
  exact ⟨_, List.getElem?_eq_getElem (show (c % n).toNat < xs.length by omega), hp _ (List.getElem_mem _)⟩
theorem let_at (c : Int) : ((modM c (26 : Int)).bind fun b => ixS ("abcdefghijklmnopqrstuvwxyz" : Str) b) = some ⟨#[97 + (c % 26).toNat]⟩ := by
  unfold modM
  rw [if_pos (by decide)]
  show ixS letS (c % 26) = _
  have z : 0 ≤ c % 26 ∧ c % 26 < 26 := by omega
  have := ix_let ⟨(c % 26).toNat, by omega⟩
  rw [show ((⟨(c % 26).toNat, by omega⟩ : Fin 26).val : Int) = c % 26 by show ((c % 26).toNat : Int) = _; omega] at this
  exact this
theorem W_le {α : Type} {m : Option α} {P Q : α → Prop} (h : W m P) (k : ∀ a, P a → Q a) : W m Q := by
  obtain ⟨a, e, p⟩ := h
  exact ⟨a, e, k a p⟩
theorem sm_le {m n : Nat} {x : Str} (h : Sm m x) (k : m ≤ n) : Sm n x := ⟨Nat.le_trans h.1 k, h.2⟩
theorem badName (q : Int) : W (p_l_bad_name q) NmF := by
  refine W_le (P := Sm 50) ?_ fun _ h => h.nm
  unfold p_l_bad_name
  rw [W_bind, W_some, W_bind, W_some, W_bind, W_some, W_bind, W_mod]
  refine ⟨by decide, ?_⟩
  rw [W_bind, W_div]
  refine ⟨by decide, ?_⟩
  generalize q / 5 = c
  rw [W_ite]
  refine ⟨fun _ => W_le (w_pick (by decide) rfl alw_sm) fun x h => sm_le h (by decide), fun _ => ?_⟩
  rw [W_ite]
  refine ⟨fun _ => ?_, fun _ => ?_⟩
  · rw [W_bind, W_bind, W_bind, W_bind, W_bind, W_div]
    refine ⟨by decide, ?_⟩
    rw [W_mod]
    refine ⟨by decide, ?_⟩
    rw [W_some, ← W_bind, ← W_bind]
    exact W_le (w_jn1 (h := fun k => 97 + ((c + k) % 26).toNat) (by omega) (by omega) (fun k => by omega) fun k => let_at (c + k)) fun y hy => ⟨by omega, hy.2⟩
  rw [W_ite]
  refine ⟨fun _ => W_le (w_pick (xs := wrdS) (by decide) rfl wrd_sm) fun x h => ⟨by omega, h.2⟩, fun _ => ?_⟩
  rw [W_ite]
  refine ⟨fun _ => ?_, fun _ => ?_⟩
  · rw [W_bind]
    exact W_le (w_pick (xs := wrdS) (by decide) rfl wrd_sm) fun x h => W_le (sm_cutB (n := 8) ⟨h.1.2, h.2⟩ (by decide) (by decide) (by omega)) fun y hy => sm_le hy (by decide)
  rw [W_bind, W_bind, W_mod]
  refine ⟨by decide, ?_⟩
  rw [W_some]
  obtain ⟨s, hs⟩ : ∃ s, s = 1 + c % 8 := ⟨_, rfl⟩
  rw [← hs]
  rw [W_bind, W_bind, W_div]
  refine ⟨by decide, ?_⟩
  rw [W_mod]
  refine ⟨by omega, ?_⟩
  obtain ⟨t, ht⟩ : ∃ t, t = c / 8 % s := ⟨_, rfl⟩
  have t0 := Int.emod_nonneg (c / 8) (show s ≠ 0 by omega)
  have t1 := Int.emod_lt_of_pos (c / 8) (show 0 < s by omega)
  rw [← ht] at t0 t1 ⊢
  rw [W_bind]
  have lf : ∀ k : Int, (((divM c (5000 : Int)).bind fun a => modM a (26 : Int)).bind fun b => ixS ("abcdefghijklmnopqrstuvwxyz" : Str) b) = some ⟨#[97 + (c / 5000 % 26).toNat]⟩ := fun k => by
    unfold divM
    rw [if_pos (by decide)]
    exact let_at (c / 5000)
  refine W_le (w_jn1 (m := s) (h := fun _ => 97 + (c / 5000 % 26).toNat) (by omega) (by omega) (fun k => by omega) lf) fun y ⟨y1, y2⟩ => ?_
  have sy : Sm 8 y := ⟨by omega, y2⟩
  rw [W_bind, W_bind]
  refine W_le (sm_cutT sy (by decide) t0 (by omega)) fun a ha => ?_
  rw [W_bind, W_bind, W_bind, W_div]
  refine ⟨by decide, ?_⟩
  obtain ⟨o0, o1, o2⟩ := oth_sm
  have lo : lenS othS = some (othS.length : Int) := lenS_ok (by omega)
  rw [W_bind]
  refine ⟨_, lo, W_mod.mpr ?_⟩
  have u0 := Int.emod_nonneg (c / 64) (show (othS.length : Int) ≠ 0 by omega)
  have u1 := Int.emod_lt_of_pos (c / 64) (show 0 < (othS.length : Int) by omega)
  refine ⟨by omega, W_le (ix_len (z := othS) ⟨o1, o2⟩ u0 u1) fun b hb => ?_⟩
  refine W_le (sm_add ha hb (by decide)) fun d hd => ?_
  rw [W_bind]
  exact W_le (sm_cutB sy (by decide) (by omega) (by omega)) fun e he => W_le (sm_add hd he (by decide)) fun z hz => sm_le hz (by decide)
theorem big_mx {z : Int} (h : z.natAbs < 10 ^ 30) : MxF (.mi z) := by
  show z.natAbs.log2 < 1920
  by_cases e : z.natAbs = 0
  · rw [e]; decide
  · exact (Nat.log2_lt e).mpr (Nat.lt_trans h (by decide +kernel))
theorem badNum (q n : Int) (xs : List Mx) (n0 : 0 ≤ n) (n1 : n < 1000) (hx : ∀ x ∈ xs, MxF x) : W (p_l_bad_number q n xs) MxF := by
  unfold p_l_bad_number
  rw [W_bind, W_mod]
  refine ⟨by decide, ?_⟩
  rw [W_bind, W_div]
  refine ⟨by decide, ?_⟩
  generalize q / 8 = c
  have big : ∀ {f : Int → Int}, (∀ u : Int, 0 ≤ u → u < 10 ^ 29 → (f u).natAbs < 10 ^ 30) → W ((((powM (10 : Int) (29 : Int)).bind fun b => modM c b).bind fun b => some (f b)).bind fun a => some (Mx.mi a)) MxF := fun {f} hf => by
    rw [W_bind, W_bind, W_bind, W_pow]
    refine ⟨by decide, ?_⟩
    rw [show (10 : Int) ^ (29 : Int).toNat = 100000000000000000000000000000 by decide, W_mod]
    refine ⟨by decide, ?_⟩
    rw [W_some, W_some]
    exact big_mx (hf _ (by omega) (by omega))
  rw [W_ite]
  refine ⟨fun _ => big (f := fun u => -(1 : Int) - u) fun u u0 u1 => by omega, fun _ => ?_⟩
  rw [W_bind, W_ite]
  refine ⟨fun _ => ?_, fun _ => ?_⟩
  · rw [W_some, if_pos rfl, W_bind, W_bind, W_mod]
    refine ⟨by decide, ?_⟩
    rw [W_some, W_some]
    exact big_mx (by omega)
  rw [W_some, W_ite]
  refine ⟨fun _ => ?_, fun _ => ?_⟩
  · rw [W_bind, W_bind, W_mod]
    refine ⟨by decide, ?_⟩
    rw [W_some, W_some]
    exact big_mx (by omega)
  rw [W_ite]
  refine ⟨fun _ => big (f := fun u => n + u) fun u u0 u1 => by omega, fun _ => ?_⟩
  rw [W_ite]
  refine ⟨fun _ => w_pick (by decide) rfl fun x hx => ?_, fun _ => ?_⟩
  · rcases List.mem_cons.mp hx with rfl | hx
    · trivial
    rcases List.mem_cons.mp hx with rfl | hx
    · trivial
    rcases List.mem_cons.mp hx with rfl | hx
    · trivial
    rw [List.mem_singleton.mp hx]
    exact (by decide +kernel : (reprText ("0" : Str)).length ≤ 1000)
  rw [W_ite]
  refine ⟨fun _ => ?_, fun h => ?_⟩
  · rw [W_some]
    exact big_mx (by omega)
  · cases xs with
    | nil => exact absurd rfl h
    | cons y ys => exact w_pick (by rw [List.length_cons]; omega) rfl hx
end Ts
namespace Ts
open PySem L2
theorem rowB_ok {n : Int} : ∀ {xs : List Mx} {seen : List Int}, rowB n seen xs = true → ∃ ns, mxL xs = some ns ∧ ns.length = xs.length ∧ ns.Nodup ∧ (∀ z ∈ ns, 0 ≤ z ∧ z < n) ∧ ∀ z ∈ ns, z ∉ seen
  | [], _, _ => ⟨[], rfl, rfl, .nil, (fun _ h => by cases h), fun _ h => by cases h⟩
  | x :: xs, seen, h => by
    cases x with
    | mb c => cases h
    | mn => cases h
    | ms y => cases h
    | mi z =>
      have h : ((decide (0 ≤ z) && decide (z < n)) && !decide (z ∈ seen) && rowB n (seen ++ [z]) xs) = true := h
      simp only [Bool.and_eq_true, decide_eq_true_eq, Bool.not_eq_true', decide_eq_false_iff_not] at h
      obtain ⟨⟨⟨h0, h1⟩, h2⟩, h3⟩ := h
      obtain ⟨ns, e, l, nd, r, s⟩ := rowB_ok h3
      refine ⟨z :: ns, ?_, by rw [List.length_cons, List.length_cons, l], List.nodup_cons.mpr ⟨fun q => s z q (by simp), nd⟩, fun y hy => ?_, fun y hy => ?_⟩
      · show (some z).bind _ = _
        show (mxL xs).bind _ = _
        rw [e]
        rfl
      · rcases List.mem_cons.mp hy with q | q
        · rw [q]; exact ⟨h0, h1⟩
        · exact r y q
      · rcases List.mem_cons.mp hy with q | q
        · rw [q]; exact h2
        · exact fun w => s y q (List.mem_append_left _ w)
theorem rowS_set {n : Int} {xs : List Mx} (h : rowB n [] xs = true) (hl : xs.length ≤ 100) : ∃ ns, mxL xs = some ns ∧ ns.length = xs.length ∧ SetOk n ns := by
  obtain ⟨ns, e, l, nd, r, _⟩ := rowB_ok h
  exact ⟨ns, e, l, nd, by omega, r⟩
theorem stepsR_ok {n : Int} : ∀ {rs : LLM}, stepsR n rs = none → (∀ r ∈ rs, RwF r) → ∃ ss, mxLL rs = some ss ∧ ss.length = rs.length ∧ ∀ xs ∈ ss, xs ≠ [] ∧ SetOk n xs
  | [], _, _ => ⟨[], rfl, rfl, fun _ h => by cases h⟩
  | r :: rs, h, hr => by
    unfold stepsR at h
    split at h
    case isFalse => cases h
    rename_i hb
    split at h
    case isTrue => cases h
    rename_i he
    obtain ⟨ns, e, l, ok⟩ := rowS_set hb (by have := (hr r List.mem_cons_self).1; omega)
    obtain ⟨ss, e2, l2, ok2⟩ := stepsR_ok h fun q hq => hr q (List.mem_cons_of_mem _ hq)
    refine ⟨ns :: ss, ?_, by rw [List.length_cons, List.length_cons, l2], fun xs hx => ?_⟩
    · show (mxL r).bind _ = _
      rw [e]
      show (mxLL rs).bind _ = _
      rw [e2]
      rfl
    · rcases List.mem_cons.mp hx with q | q
      · subst q
        refine ⟨fun z => he ?_, ok⟩
        rw [z] at l
        cases r with
        | nil => rfl
        | cons a b => cases l
      · exact ok2 xs q
theorem fairR_ok {n : Int} : ∀ {rs : LLM}, fairR n rs = none → (∀ r ∈ rs, RwF r) → ∃ ss, mxLL rs = some ss ∧ ss.length = rs.length ∧ ∀ xs ∈ ss, SetOk n xs
  | [], _, _ => ⟨[], rfl, rfl, fun _ h => by cases h⟩
  | r :: rs, h, hr => by
    unfold fairR at h
    split at h
    case isFalse => cases h
    rename_i hb
    obtain ⟨ns, e, l, ok⟩ := rowS_set hb (by have := (hr r List.mem_cons_self).1; omega)
    obtain ⟨ss, e2, l2, ok2⟩ := fairR_ok h fun q hq => hr q (List.mem_cons_of_mem _ hq)
    refine ⟨ns :: ss, ?_, by rw [List.length_cons, List.length_cons, l2], fun xs hx => ?_⟩
    · show (mxL r).bind _ = _
      rw [e]
      show (mxLL rs).bind _ = _
      rw [e2]
      rfl
    · rcases List.mem_cons.mp hx with q | q
      · subst q
        exact ok
      · exact ok2 xs q
theorem marksR_ok {n : Int} : ∀ {ms : MKM} {seen : List Str}, marksR n seen ms = none → (∀ m ∈ ms, NmF m.1 ∧ RwF m.2) → ∃ ss, mxMk ms = some ss ∧ ss.length = ms.length ∧ (ss.map (·.1)).Nodup ∧ (∀ m ∈ ss, m.1 ∉ seen) ∧ ∀ m ∈ ss, p_is_name m.1 = some true ∧ m.1.length ≤ 1000 ∧ SetOk n m.2
  | [], _, _, _ => ⟨[], rfl, rfl, .nil, (fun _ h => by cases h), fun _ h => by cases h⟩
  | m :: ms, seen, h, hr => by
    unfold marksR at h
    split at h
    case isTrue => cases h
    rename_i hnm
    split at h
    case isTrue => cases h
    rename_i hs
    split at h
    case isFalse => cases h
    rename_i hb
    obtain ⟨hN, hR⟩ := hr m List.mem_cons_self
    obtain ⟨ns, e, l, ok⟩ := rowS_set hb (by have := hR.1; omega)
    obtain ⟨ss, e2, l2, nd, ns2, ok2⟩ := marksR_ok h fun q hq => hr q (List.mem_cons_of_mem _ hq)
    have nmb : nameB m.1 = true := by simpa using hnm
    refine ⟨(m.1, ns) :: ss, ?_, by rw [List.length_cons, List.length_cons, l2], ?_, fun x hx => ?_, fun x hx => ?_⟩
    · show (mxL m.2).bind _ = _
      rw [e]
      show (mxMk ms).bind _ = _
      rw [e2]
      rfl
    · rw [List.map_cons, List.nodup_cons]
      refine ⟨fun z => ?_, nd⟩
      obtain ⟨y, hy, q⟩ := List.mem_map.mp z
      exact ns2 y hy (by rw [q]; simp)
    · rcases List.mem_cons.mp hx with q | q
      · rw [q]
        simpa using hs
      · exact fun w => ns2 x q (List.mem_append_left _ w)
    · rcases List.mem_cons.mp hx with q | q
      · rw [q]
        have l1 : m.1.length ≤ 1000 := by have := hN.1; omega
        exact ⟨by show p_is_name m.1 = some true; rw [isName_ok l1, nmb], l1, ok⟩
      · exact ok2 x q
theorem got_ok (C : Addr) (cx : Fin 3 → Addr) {a : Prt} (h : Fine a) : p_got C cx a = some (((refusal a).map nmE).getD "by") := by
  unfold p_got
  rw [inX_ok h]
  cases hr : refusal a with
  | some i => rfl
  | none =>
    show ((mxLL a.a).bind _) = _
    unfold refusal at hr
    obtain ⟨r0, hr⟩ := Option.or_eq_none_iff.mp hr
    obtain ⟨r1, hr⟩ := Option.or_eq_none_iff.mp hr
    obtain ⟨r2, r3⟩ := Option.or_eq_none_iff.mp hr
    obtain ⟨s, e1, l1, o1⟩ := stepsR_ok r1 h.ra
    obtain ⟨m, e2, l2, nd, _, o2⟩ := marksR_ok r2 h.rb
    obtain ⟨f, e3, l3, o3⟩ := fairR_ok r3 h.rc
    have hn : 1 ≤ (a.a.length : Int) ∧ (a.a.length : Int) ≤ 60 := by
      unfold sizeR at r0
      split at r0
      · cases r0
      · rename_i q
        simp only [Bool.or_eq_true, decide_eq_true_eq, not_or] at q
        omega
    obtain ⟨M, eM, _⟩ := w_mkK C (xss := s) (mo := some m) (fo := some f) (n := a.a.length) (by rw [l1]) hn.1 hn.2 o1 ⟨nd, by rw [show ((some m : Option MKs).getD []) = m from rfl, l2]; exact h.lb, o2⟩ ⟨by rw [show ((some f : Option LLI).getD []) = f from rfl, l3]; exact h.lc, o3⟩
    rw [e1, e2, e3]
    show (mkK C s (some m) (some f)).bind _ = _
    rw [eM]
    rfl
end Ts
namespace Ts
open PySem L2
structure Pr where
  p : Addr
  a : Addr
  rs : List (Addr × List Mx)
  b : Addr
  ms : List (Addr × Str × Addr × List Mx)
  c : Addr
  fs : List (Addr × List Mx)
abbrev rwV (rs : List (Addr × List Mx)) : Rr := rs.map fun r => (r.1, r.2.map Mx.v)
abbrev mkV (ms : List (Addr × Str × Addr × List Mx)) : List MkR := ms.map fun m => (m.1, m.2.1, m.2.2.1, m.2.2.2.map Mx.v)
def Pr.cells (x : Pr) : Own := (x.p, .tup [.ref x.a, .ref x.b, .ref x.c]) :: (rrO x.a (rwV x.rs) ++ (mkO x.b (mkV x.ms) ++ rrO x.c (rwV x.fs)))
def Pr.val (x : Pr) : Prt := ⟨x.rs.map (·.2), x.ms.map (fun m => (m.2.1, m.2.2.2)), x.fs.map (·.2)⟩
section
variable {K : PySem.W.Frag}
theorem mxs_rp {F : Hp} (xs : List Mx) : A2 (rp K F) (xs.map Mx.v) xs := A2.of_map (R := rp K F) (f := Mx.v) (fun y => (rfl : rp K F y.v y)) xs
theorem rwV_ok {F : Hp} : ∀ rs : List (Addr × List Mx), RrOk K F (rwV rs) (rs.map (·.2))
  | [] => trivial
  | r :: rs => ⟨mxs_rp r.2, rwV_ok rs⟩
theorem mkM_refs {F : Hp} : ∀ {ms : List (Addr × Str × Addr × List Mx)}, (∀ m ∈ mkV ms, F m.1 = some (.tup [.str m.2.1, .ref m.2.2.1]) ∧ F m.2.2.1 = some (.lst m.2.2.2)) → A2 (rp K F) ((mkV ms).map fun m => V.ref m.1) (ms.map fun m => (m.2.1, m.2.2.2))
  | [], _ => trivial
  | m :: ms, k => by
    obtain ⟨k1, k2⟩ := k _ List.mem_cons_self
    exact ⟨⟨m.1, _, _, rfl, k1, rfl, m.2.2.1, _, rfl, k2, mxs_rp _⟩, mkM_refs fun q hq => k q (List.mem_cons_of_mem _ hq)⟩
theorem pr_rp {F : Hp} {x : Pr} (m : ∀ y ∈ x.cells, F y.1 = some y.2) : rp K F (.ref x.p) x.val := by
  have m1 : ∀ y ∈ rrO x.a (rwV x.rs), F y.1 = some y.2 := fun y hy => m y (List.mem_cons_of_mem _ (List.mem_append_left _ hy))
  have m2 : ∀ y ∈ mkO x.b (mkV x.ms), F y.1 = some y.2 := fun y hy => m y (List.mem_cons_of_mem _ (List.mem_append_right _ (List.mem_append_left _ hy)))
  have m3 : ∀ y ∈ rrO x.c (rwV x.fs), F y.1 = some y.2 := fun y hy => m y (List.mem_cons_of_mem _ (List.mem_append_right _ (List.mem_append_right _ hy)))
  exact ⟨x.p, _, _, _, rfl, m _ List.mem_cons_self, ⟨x.a, _, rfl, m1 _ List.mem_cons_self, rr_refs (rwV_ok x.rs) fun r hr => m1 (r.1, .lst r.2) (rr_in hr)⟩, ⟨x.b, _, rfl, m2 _ List.mem_cons_self, mkM_refs fun q hq => ⟨m2 _ (mk_in1 hq), m2 _ (mk_in2 hq)⟩⟩, ⟨x.c, _, rfl, m3 _ List.mem_cons_self, rr_refs (rwV_ok x.fs) fun r hr => m3 (r.1, .lst r.2) (rr_in hr)⟩⟩
instance : Ob K Pr where
  β := Prt
  rpβ := inferInstance
  ro _ v x Oc := v = .ref x.p ∧ Oc = x.cells
  mono _ h := h
  val x := x.val
  frz := fun ⟨h1, h2⟩ m => by
    subst h1 h2
    exact pr_rp m
end
section
variable {K : PySem.W.Frag} {B : Bs} {sl : List (Slot K)} {F H : Hp} {O : Own} {σ : St} {n : Bool}
theorem At.cutC {β : Type} [Ob K β] {a : β} {i : Nat} (z : At B sl F O H σ) (hn : sl.all (fun s => !isNuHs s) = true) (hs : sl[i]? = some (.ob n a)) :
    ∃ Oc O' v, σ[i]? = some (some v) ∧ Ob.ro K (reg B F H (mdb n)) v a Oc ∧ (Oc.map (·.1)).Nodup ∧ (∀ x ∈ Oc, F x.1 = none ∧ B.H0 x.1 = none ∧ H x.1 = some x.2 ∧ x ∈ O ∧ ∀ y ∈ O', y.1 ≠ x.1) ∧ (∀ y ∈ O', y ∈ O) ∧ At B (sl.set i .un) F O' H σ := by
  obtain ⟨k, z0⟩ := z
  obtain ⟨O1, Oc, O2, v, rfl, h1, h2, h3⟩ := z0.ob_at hs
  have nd := k.nd
  rw [List.map_append, List.map_append, List.nodup_append, List.nodup_append] at nd
  obtain ⟨nd1, ⟨nd2, nd3, nd4⟩, nd5⟩ := nd
  have zz := h3 .un (some v) [] fun _ _ _ y => .un y
  rw [set_self h1] at zz
  refine ⟨Oc, O1 ++ O2, v, h1, h2, nd2, fun x hx => ?_, fun y hy => ?_, ⟨k.fh, k.h0, k.fa, fun x hx => k.fo x ?_, ?_⟩, zz.calm (all_set rfl hn)⟩
  · obtain ⟨a1, a2, a3⟩ := k.fo x (List.mem_append_right _ (List.mem_append_left _ hx))
    refine ⟨a1, a2, a3, List.mem_append_right _ (List.mem_append_left _ hx), fun y hy e => ?_⟩
    have xm : x.1 ∈ Oc.map (·.1) := List.mem_map.mpr ⟨x, hx, rfl⟩
    rcases List.mem_append.mp hy with hy | hy
    · exact nd5 y.1 (List.mem_map.mpr ⟨y, hy, rfl⟩) x.1 (List.mem_append_left _ xm) e
    · exact nd4 x.1 xm y.1 (List.mem_map.mpr ⟨y, hy, rfl⟩) e.symm
  · rcases List.mem_append.mp hy with hy | hy
    · exact List.mem_append_left _ hy
    · exact List.mem_append_right _ (List.mem_append_right _ hy)
  · rcases List.mem_append.mp hx with hx | hx
    · exact List.mem_append_left _ hx
    · exact List.mem_append_right _ (List.mem_append_right _ hx)
  · rw [List.map_append, List.nodup_append]
    exact ⟨nd1, nd3, fun a ha b hb e => nd5 a ha b (List.mem_append_right _ hb) e⟩
theorem At.newH (z : At B sl F O H σ) (hn : sl.all (fun s => !isNuHs s) = true) {p : Addr} (hp : H p = none) (o : HO) : At B sl F O (upd H p o) σ := by
  obtain ⟨k, z0⟩ := z
  refine ⟨⟨k.fh.trans (same_new hp o), k.h0.trans (same_new hp o), k.fa, fun x hx => ?_, k.nd⟩, z0.calm hn⟩
  obtain ⟨a1, a2, a3⟩ := k.fo x hx
  exact ⟨a1, a2, same_new hp o _ _ a3⟩
theorem rr_mx : ∀ {rs : Rr} {xss : List (List Int)} {R : Hp}, RrOk K R rs xss → ∃ rs' : List (Addr × List Mx), rwV rs' = rs ∧ rs'.map (·.2) = xss.map (·.map Mx.mi)
  | [], [], _, _ => ⟨[], rfl, rfl⟩
  | r :: rs, xs :: xss, R, h => by
    obtain ⟨rs', e1, e2⟩ := rr_mx h.2
    have e : r.2 = xs.map V.int := A2.vals h.1
    refine ⟨(r.1, xs.map Mx.mi) :: rs', ?_, by rw [List.map_cons, List.map_cons, e2]⟩
    show (r.1, (xs.map Mx.mi).map Mx.v) :: rwV rs' = r :: rs
    rw [e1, List.map_map]
    have : r = (r.1, r.2) := rfl
    rw [this, e]
    rfl
  | [], _ :: _, _, h => h.elim
  | _ :: _, [], _, h => h.elim
theorem mk_mx : ∀ {ms : List MkR} {xs : List (Str × List Int)}, MkOk ms xs → ∃ ms' : List (Addr × Str × Addr × List Mx), mkV ms' = ms ∧ ms'.map (fun m => (m.2.1, m.2.2.2)) = xs.map fun x => (x.1, x.2.map Mx.mi)
  | [], [], _ => ⟨[], rfl, rfl⟩
  | m :: ms, x :: xs, h => by
    obtain ⟨ms', e1, e2⟩ := mk_mx h.2
    obtain ⟨m1, m2, m3, m4⟩ := m
    obtain ⟨h1, h2⟩ := h.1
    have h1 : m2 = x.1 := h1
    have h2 : m4 = x.2.map V.int := h2
    subst h1 h2
    refine ⟨(m1, x.1, m3, x.2.map Mx.mi) :: ms', ?_, by rw [List.map_cons, List.map_cons, e2]⟩
    show (m1, x.1, m3, (x.2.map Mx.mi).map Mx.v) :: mkV ms' = _ :: ms
    rw [e1, List.map_map]
    rfl
  | [], _ :: _, h => h.elim
  | _ :: _, [], h => h.elim
def prtOf (s : List (List Int)) (m : List (Str × List Int)) (f : List (List Int)) : Prt := ⟨s.map (·.map Mx.mi), m.map (fun x => (x.1, x.2.map Mx.mi)), f.map (·.map Mx.mi)⟩
theorem sna_parts {s : Rws Int} {m : Mks} {f : Rws Int} {n1 n2 n3 : Bool} (i j k l : Nat) (ij : i ≠ j) (ik : i ≠ k) (jk : j ≠ k) (hn : sl.all (fun s => !isNuHs s) = true) (h1 : sl[i]? = some (.ob n1 s)) (h2 : sl[j]? = some (.ob n2 m)) (h3 : sl[k]? = some (.ob n3 f)) {s0 : Slot K} (h4 : (((sl.set i .un).set j .un).set k .un)[l]? = some s0) (ho : isOw s0 = false) :
    SnA B sl (tAsg (tTup (tCons (tVar i) (tCons (tVar j) (tCons (tVar k) tNil)))) (gName l)) (fun x : Pr => (((sl.set i .un).set j .un).set k .un).set l (.ob true x)) (fun x => x.val = prtOf s.xss m.ms f.xss) := fun G D σ H sg kk => by
  obtain ⟨F, O, g, z⟩ := sg
  obtain ⟨Oa, O1, va, e1, ⟨a, rs, rfl, rfl, ra⟩, nda, ca, sub1, z1⟩ := z.cutC hn h1
  have hn1 := all_set (i := i) (s := (.un : Slot K)) rfl hn
  obtain ⟨Ob', O2, vb, e2, ⟨b, ms, rfl, rfl, rb⟩, ndb, cb, sub2, z2⟩ := z1.cutC hn1 (by rw [List.getElem?_set_ne ij]; exact h2)
  have hn2 := all_set (i := j) (s := (.un : Slot K)) rfl hn1
  obtain ⟨Oc', O3, vc, e3, ⟨c, fs, rfl, rfl, rc⟩, ndc, cc, sub3, z3⟩ := z2.cutC hn2 (by rw [List.getElem?_set_ne jk, List.getElem?_set_ne ik]; exact h3)
  have hn3 := all_set (i := k) (s := (.un : Slot K)) rfl hn2
  refine ⟨_, e1, _, e2, _, e3, by show 3 ≤ sizeLine; decide, fun p hp => ?_⟩
  obtain ⟨rs', q1, q2⟩ := rr_mx ra
  obtain ⟨ms', q3, q4⟩ := mk_mx rb
  obtain ⟨fs', q5, q6⟩ := rr_mx rc
  have ec : (⟨p, a, rs', b, ms', c, fs'⟩ : Pr).cells = (p, .tup [.ref a, .ref b, .ref c]) :: (rrO a rs ++ (mkO b ms ++ rrO c fs)) := by
    unfold Pr.cells
    rw [q1, q3, q5]
  have z4 := z3.newH hn3 hp (.tup [.ref a, .ref b, .ref c])
  have np : ∀ {y : Addr × HO}, H y.1 = some y.2 → y.1 ≠ p := fun {y} e q => by rw [q, hp] at e; cases e
  have all3 : ∀ y ∈ rrO a rs ++ (mkO b ms ++ rrO c fs), F y.1 = none ∧ B.H0 y.1 = none ∧ H y.1 = some y.2 ∧ ∀ w ∈ O3, w.1 ≠ y.1 := fun y hy => by
    rcases List.mem_append.mp hy with hy | hy
    · obtain ⟨a1, a2, a3, _, a4⟩ := ca y hy
      exact ⟨a1, a2, a3, fun w hw => a4 w (sub2 w (sub3 w hw))⟩
    · rcases List.mem_append.mp hy with hy | hy
      · obtain ⟨a1, a2, a3, _, a4⟩ := cb y hy
        exact ⟨a1, a2, a3, fun w hw => a4 w (sub3 w hw)⟩
      · obtain ⟨a1, a2, a3, _, a4⟩ := cc y hy
        exact ⟨a1, a2, a3, a4⟩
  have nd : (((p, HO.tup [.ref a, .ref b, .ref c]) :: (rrO a rs ++ (mkO b ms ++ rrO c fs))).map (·.1)).Nodup := by
    rw [List.map_cons, List.nodup_cons]
    refine ⟨fun z => ?_, ?_⟩
    · obtain ⟨y, hy, e⟩ := List.mem_map.mp z
      exact np (all3 y hy).2.2.1 e
    · rw [List.map_append, List.map_append, List.nodup_append, List.nodup_append]
      refine ⟨nda, ⟨ndb, ndc, fun u hu v hv e => ?_⟩, fun u hu v hv e => ?_⟩
      · obtain ⟨y, hy, rfl⟩ := List.mem_map.mp hu
        obtain ⟨w, hw, rfl⟩ := List.mem_map.mp hv
        exact (cb y hy).2.2.2.2 w (cc w hw).2.2.2.1 e.symm
      · obtain ⟨y, hy, rfl⟩ := List.mem_map.mp hu
        rcases List.mem_append.mp hv with hv | hv
        · obtain ⟨w, hw, rfl⟩ := List.mem_map.mp hv
          exact (ca y hy).2.2.2.2 w (cb w hw).2.2.2.1 e.symm
        · obtain ⟨w, hw, rfl⟩ := List.mem_map.mp hv
          exact (ca y hy).2.2.2.2 w (sub2 w (cc w hw).2.2.2.1) e.symm
  obtain ⟨O', z5⟩ := z4.addC (n := true) (a := (⟨p, a, rs', b, ms', c, fs'⟩ : Pr)) (v := .ref p) (Oc := (p, HO.tup [.ref a, .ref b, .ref c]) :: (rrO a rs ++ (mkO b ms ++ rrO c fs))) hn3 h4 ho nd (fun y hy => by
    rcases List.mem_cons.mp hy with e | hy
    · subst e
      refine ⟨z3.1.fh.free hp, z3.1.h0.free hp, upd_same, fun w hw => np (z3.1.fo w hw).2.2⟩
    · obtain ⟨a1, a2, a3, a4⟩ := all3 y hy
      exact ⟨a1, a2, same_new hp _ _ _ a3, a4⟩) (show V.ref p = .ref p ∧ _ = (⟨p, a, rs', b, ms', c, fs'⟩ : Pr).cells from ⟨rfl, ec.symm⟩)
  refine kk _ ?_ _ _ ⟨F, O', g, z5⟩
  show (⟨rs'.map (·.2), ms'.map (fun m => (m.2.1, m.2.2.2)), fs'.map (·.2)⟩ : Prt) = _
  rw [q2, q4, q6]
  rfl
end
end Ts
namespace Ts
open PySem L2
structure FineK (k : Nat) (a : Prt) : Prop where
  la : a.a.length ≤ 60 + 65 * k
  lb : a.b.length ≤ 4
  lc : a.c.length ≤ 4
  ra : ∀ r ∈ a.a, r.length ≤ 5 + k ∧ ∀ x ∈ r, MxF x
  rb : ∀ m ∈ a.b, NmF m.1 ∧ m.2.length ≤ 5 + k ∧ ∀ x ∈ m.2, MxF x
  rc : ∀ r ∈ a.c, r.length ≤ 5 + k ∧ ∀ x ∈ r, MxF x
section
variable {K : PySem.W.Frag} {B : Bs} {sl : List (Slot K)} {F H : Hp} {O : Own} {σ : St} {n : Bool} {tb u : TS} {S α : Type} [Rp K α]
theorem sna_for {xs : List α} {wi : TI} {g : TG} {L : S → List (Slot K)} {Lx : S → α → List (Slot K)} (J : Nat → S → Prop) (s0 : S) (j0 : J 0 s0) (h0 : Le sl (L s0)) (hi : Ei B (L s0) n wi (some xs)) (hg : ∀ s, Tg B (L s) n g (Lx s)) (hb : ∀ i s x, xs[i]? = some x → J i s → SnA B (Lx s x) tb L (J (i + 1))) :
    SnA B sl (tFor wi g tb) L (J xs.length) := fun G D σ H q k => by
  obtain ⟨F, O, g0, a⟩ := q.le h0
  refine hi xs rfl F O H σ _ a fun J' F' H' gr yl => ?_
  refine ⟨fun i m σ H => m = xs.length - i ∧ i ≤ xs.length ∧ ∃ s, J i s ∧ Sg B F' (L s) σ H, ⟨xs.length, rfl, Nat.zero_le _, s0, j0, F', O, .refl _, a.grow gr⟩, ?_⟩
  rintro i m σ H ⟨rfl, hil, s, hs, F2, O2, sf, a2⟩
  obtain ⟨y1, y2⟩ := yl i F2 O2 H sf a2.1
  by_cases hlt : i < xs.length
  · obtain ⟨go, y3⟩ := y2 xs[i] (List.getElem?_eq_getElem hlt)
    refine .inr ⟨go, fun σ' H' => ∃ s, J (i + 1) s ∧ Sg B F' (L s) σ' H', fun σ' H' ⟨s, j, z⟩ => ⟨xs.length - (i + 1), by omega, rfl, hlt, s, j, z⟩, fun v H3 yd => ?_⟩
    obtain ⟨F3, g3, r3⟩ := y3 v H3 yd
    exact hg s v xs[i] F3 O2 H3 σ _ (a2.grow g3) r3 fun σ' a' => hb i s xs[i] (List.getElem?_eq_getElem hlt) hs F' _ σ' H3 ⟨F3, O2, sf.trans g3.ff, a'⟩ fun s' j' σ2 H2 z => ⟨s', j', z⟩
  · have e : i = xs.length := by omega
    subst e
    exact .inl ⟨y1 (Nat.le_refl _), k s hs σ H ⟨F2, O2, (g0.trans gr.ff).trans sf, a2⟩⟩
theorem sna_pre {t : TS} {L : S → List (Slot K)} {P : S → Prop} {sl2 : List (Slot K)} (le : Le sl sl2) (h : SnA B sl2 t L P) : SnA B sl t L P := fun G D σ H q k => h G D σ H (q.le le) k
theorem sna_seq {t : TS} {L : S → List (Slot K)} {T : Type} {L2 : T → List (Slot K)} {P : S → Prop} {Q : T → Prop} (h1 : SnA B sl t L P) (h2 : ∀ s, P s → SnA B (L s) u L2 Q) : SnA B sl (tSeq t u) L2 Q := fun G D σ H q k => h1 G _ σ H q fun s hs σ' H' q' => h2 s hs G D σ' H' q' k
theorem sna_nil {L : S → List (Slot K)} {P : S → Prop} (s : S) (hs : P s) (le : Le sl (L s)) : SnA B sl tNext L P := fun G D σ H q k => k s hs σ H (q.le le)
theorem Sn.sna {t : TS} {L : S → List (Slot K)} {m : Option S} {s : S} (h : Sn B sl t L m) (e : m = some s) {P : S → Prop} (p : P s) : SnA B sl t L P := fun G D σ H q k => h s e G D σ H q fun σ' H' z => k s p σ' H' z
def Spoiled (x x' : Pr) (H H' : Hp) : Prop := x'.p = x.p ∧ (x'.cells.map (·.1)).Nodup ∧ (∀ b o, H b = some o → (∀ y ∈ x.cells, y.1 ≠ b) → H' b = some o) ∧ ∀ y ∈ x'.cells, H' y.1 = some y.2 ∧ ((∃ z ∈ x.cells, z.1 = y.1) ∨ H y.1 = none)
def spSp : Sp := fun vs H Q _ => ∃ (x : Pr) (k : Nat) (w q c : Int), vs = [.ref x.p, .int w, .int q, .int c] ∧ (∀ y ∈ x.cells, H y.1 = some y.2) ∧ (x.cells.map (·.1)).Nodup ∧ FineK k x.val ∧ k ≤ 5 ∧ ∀ (x' : Pr) (H' : Hp), FineK (k + 1) x'.val → Spoiled x x' H H' → Q .non H'
theorem sna_spoil {x : Pr} {k : Nat} {ta : TA} {w q c : Int} (l : Nat) (hs : sl[l]? = some (.ob n x)) (hh : sl.all (fun s => !isHs s) = true) (hf : FineK k x.val) (hk : k ≤ 5) (h : Ea B sl .hp ta (fun a : Int × Int × Int × Unit => ([.fz false a.1, .fz false a.2.1, .fz false a.2.2.1] : List (Slot K))) (some (w, q, c, ()))) :
    SnA B sl (tDrop (tCall spSp [] E0 (tCons (tVar l) ta))) (fun x' : Pr => sl.set l (.ob n x')) (fun x' => FineK (k + 1) x'.val) := fun G D σ H sg kk => by
  obtain ⟨F, O, g, z⟩ := sg
  obtain ⟨Oc0, v0, e0, ⟨rfl, rfl⟩, _⟩ := z.setC hs hh
  refine ⟨_, e0, h _ rfl F O H σ _ z fun vs F' H' gr ra => ?_⟩
  obtain ⟨Oc, v, e1, ⟨rfl, rfl⟩, cs, nd, _, up⟩ := (z.grow gr).setC hs hh
  have ra' : Ar (reg B F' H' .hp) ([.fz false w, .fz false q, .fz false c] : List (Slot K)) vs := ra
  clear ra
  cases ra' with | cons r1 rb =>
  cases rb with | cons r2 rc =>
  cases rc with | cons r3 rd =>
  cases rd
  have r1 : _ = V.int w := r1
  have r2 : _ = V.int q := r2
  have r3 : _ = V.int c := r3
  subst r1 r2 r3
  refine ⟨x, k, w, q, c, rfl, fun y hy => (cs y hy).1, nd, hf, hk, fun x' H2 hf' ⟨s1, s2, s3, s4⟩ => ?_⟩
  obtain ⟨O', z'⟩ := up x' x'.cells H2 ⟨by rw [s1], rfl⟩ s2 (fun b u e off => s3 b u e off) s4
  exact kk x' hf' σ H2 ⟨F', O', g.trans gr.ff, z'⟩
end
end Ts
namespace Ts
open PySem L2
def updR (r : Addr) (ys : List Mx) (rs : List (Addr × List Mx)) : List (Addr × List Mx) := rs.map fun z => if z.1 = r then (z.1, ys) else z
def updM (r : Addr) (ys : List Mx) (ms : List (Addr × Str × Addr × List Mx)) : List (Addr × Str × Addr × List Mx) := ms.map fun m => if m.2.2.1 = r then (m.1, m.2.1, m.2.2.1, ys) else m
def Pr.upd (x : Pr) (r : Addr) (ys : List Mx) : Pr := ⟨x.p, x.a, updR r ys x.rs, x.b, updM r ys x.ms, x.c, updR r ys x.fs⟩
def Pr.rows (x : Pr) : List Addr := x.rs.map (·.1) ++ (x.ms.map (·.2.2.1) ++ x.fs.map (·.1))
def Pr.keys (x : Pr) : List Addr := [x.p, x.a, x.b, x.c] ++ x.ms.map (·.1)
theorem rwV_fst (rs : List (Addr × List Mx)) : (rwV rs).map (·.1) = rs.map (·.1) := by
  rw [List.map_map]
  rfl
theorem ads_eq (x : Pr) : x.cells.map (·.1) = x.p :: ((x.a :: x.rs.map (·.1)) ++ ((x.b :: (x.ms.map (·.1) ++ x.ms.map (·.2.2.1))) ++ (x.c :: x.fs.map (·.1)))) := by
  unfold Pr.cells
  rw [List.map_cons, List.map_append, List.map_append, rr_map, rr_map, mk_map, rwV_fst, rwV_fst, List.map_map, List.map_map]
  rfl
theorem ads_perm (x : Pr) : (x.cells.map (·.1)).Perm (x.keys ++ x.rows) := by
  rw [ads_eq, List.perm_iff_count]
  intro z
  unfold Pr.keys Pr.rows
  simp only [List.count_append, List.count_cons, List.count_nil]
  omega
theorem updR_fst (r : Addr) (ys : List Mx) (rs : List (Addr × List Mx)) : (updR r ys rs).map (·.1) = rs.map (·.1) := by
  unfold updR
  rw [List.map_map]
  refine List.map_congr_left fun z _ => ?_
  show (if z.1 = r then (z.1, ys) else z).1 = z.1
  split <;> rfl
theorem updM_1 (r : Addr) (ys : List Mx) (ms : List (Addr × Str × Addr × List Mx)) : (updM r ys ms).map (·.1) = ms.map (·.1) := by
  unfold updM
  rw [List.map_map]
  refine List.map_congr_left fun z _ => ?_
  show (if z.2.2.1 = r then (z.1, z.2.1, z.2.2.1, ys) else z).1 = z.1
  split <;> rfl
theorem updM_3 (r : Addr) (ys : List Mx) (ms : List (Addr × Str × Addr × List Mx)) : (updM r ys ms).map (·.2.2.1) = ms.map (·.2.2.1) := by
  unfold updM
  rw [List.map_map]
  refine List.map_congr_left fun z _ => ?_
  show (if z.2.2.1 = r then (z.1, z.2.1, z.2.2.1, ys) else z).2.2.1 = z.2.2.1
  split <;> rfl
theorem upd_ads (x : Pr) (r : Addr) (ys : List Mx) : (x.upd r ys).cells.map (·.1) = x.cells.map (·.1) := by
  rw [ads_eq, ads_eq]
  unfold Pr.upd
  rw [updR_fst, updR_fst, updM_1, updM_3]
theorem off_keys {x : Pr} (nd : (x.cells.map (·.1)).Nodup) {r : Addr} (hr : r ∈ x.rows) : ∀ a ∈ x.keys, a ≠ r := by
  rw [(ads_perm x).nodup_iff, List.nodup_append] at nd
  exact fun a ha => nd.2.2 a ha r hr
theorem rwV_refs (rs : List (Addr × List Mx)) : (rwV rs).map (fun r => V.ref r.1) = (rs.map (·.1)).map V.ref := by
  rw [List.map_map, List.map_map]
  rfl
theorem mkV_refs (ms : List (Addr × Str × Addr × List Mx)) : (mkV ms).map (fun r => V.ref r.1) = (ms.map (·.1)).map V.ref := by
  rw [List.map_map, List.map_map]
  rfl
theorem cell_mem {x : Pr} {y : Addr × HO} : y ∈ x.cells ↔ y = (x.p, .tup [.ref x.a, .ref x.b, .ref x.c]) ∨ y = (x.a, .lst ((x.rs.map (·.1)).map V.ref)) ∨ y = (x.b, .lst ((x.ms.map (·.1)).map V.ref)) ∨ y = (x.c, .lst ((x.fs.map (·.1)).map V.ref)) ∨ (∃ r ∈ x.rs, y = (r.1, .lst (r.2.map Mx.v))) ∨ (∃ m ∈ x.ms, y = (m.1, .tup [.str m.2.1, .ref m.2.2.1])) ∨ (∃ m ∈ x.ms, y = (m.2.2.1, .lst (m.2.2.2.map Mx.v))) ∨ ∃ r ∈ x.fs, y = (r.1, .lst (r.2.map Mx.v)) := by
  unfold Pr.cells rrO mkO
  rw [rwV_refs, rwV_refs, mkV_refs]
  simp only [List.mem_cons, List.mem_append, List.mem_map]
  constructor
  · rintro (h | (h | ⟨_, ⟨r, hr, rfl⟩, rfl⟩) | (h | ⟨_, ⟨m, hm, rfl⟩, rfl⟩ | ⟨_, ⟨m, hm, rfl⟩, rfl⟩) | h | ⟨_, ⟨r, hr, rfl⟩, rfl⟩)
    · exact .inl h
    · exact .inr (.inl h)
    · exact .inr (.inr (.inr (.inr (.inl ⟨r, hr, rfl⟩))))
    · exact .inr (.inr (.inl h))
    · exact .inr (.inr (.inr (.inr (.inr (.inl ⟨m, hm, rfl⟩)))))
    · exact .inr (.inr (.inr (.inr (.inr (.inr (.inl ⟨m, hm, rfl⟩))))))
    · exact .inr (.inr (.inr (.inl h)))
    · exact .inr (.inr (.inr (.inr (.inr (.inr (.inr ⟨r, hr, rfl⟩))))))
  · rintro (h | h | h | h | ⟨r, hr, rfl⟩ | ⟨m, hm, rfl⟩ | ⟨m, hm, rfl⟩ | ⟨r, hr, rfl⟩)
    · exact .inl h
    · exact .inr (.inl (.inl h))
    · exact .inr (.inr (.inl (.inl h)))
    · exact .inr (.inr (.inr (.inl h)))
    · exact .inr (.inl (.inr ⟨_, ⟨r, hr, rfl⟩, rfl⟩))
    · exact .inr (.inr (.inl (.inr (.inl ⟨_, ⟨m, hm, rfl⟩, rfl⟩))))
    · exact .inr (.inr (.inl (.inr (.inr ⟨_, ⟨m, hm, rfl⟩, rfl⟩))))
    · exact .inr (.inr (.inr (.inr ⟨_, ⟨r, hr, rfl⟩, rfl⟩)))
theorem upd_cells {x : Pr} {H : Hp} {r : Addr} {ys : List Mx} (nd : (x.cells.map (·.1)).Nodup) (hr : r ∈ x.rows) (hc : ∀ y ∈ x.cells, H y.1 = some y.2) : ∀ y ∈ (x.upd r ys).cells, L2.upd H r (.lst (ys.map Mx.v)) y.1 = some y.2 := fun y hy => by
  have off := off_keys nd hr
  have k4 : ∀ a, a ∈ [x.p, x.a, x.b, x.c] → a ≠ r := fun a ha => off a (List.mem_append_left _ ha)
  have hc' : ∀ {y : Addr × HO}, y ∈ x.cells → y.1 ≠ r → L2.upd H r (.lst (ys.map Mx.v)) y.1 = some y.2 := fun {y} hy hn => by rw [upd_ne hn]; exact hc y hy
  rcases cell_mem.mp hy with rfl | rfl | rfl | rfl | ⟨z, hz, rfl⟩ | ⟨m, hm, rfl⟩ | ⟨m, hm, rfl⟩ | ⟨z, hz, rfl⟩
  · exact hc' (cell_mem.mpr (.inl rfl)) (k4 _ (by simp [Pr.upd]))
  · refine hc' (cell_mem.mpr (.inr (.inl ?_))) (k4 _ (by simp [Pr.upd]))
    show (x.a, HO.lst (((updR r ys x.rs).map (·.1)).map V.ref)) = _
    rw [updR_fst]
  · refine hc' (cell_mem.mpr (.inr (.inr (.inl ?_)))) (k4 _ (by simp [Pr.upd]))
    show (x.b, HO.lst (((updM r ys x.ms).map (·.1)).map V.ref)) = _
    rw [updM_1]
  · refine hc' (cell_mem.mpr (.inr (.inr (.inr (.inl ?_))))) (k4 _ (by simp [Pr.upd]))
    show (x.c, HO.lst (((updR r ys x.fs).map (·.1)).map V.ref)) = _
    rw [updR_fst]
  · obtain ⟨w, hw, rfl⟩ := List.mem_map.mp hz
    by_cases e : w.1 = r
    · rw [if_pos e]
      show L2.upd H r _ w.1 = _
      rw [e, upd_same]
    · rw [if_neg e]
      exact hc' (cell_mem.mpr (.inr (.inr (.inr (.inr (.inl ⟨w, hw, rfl⟩)))))) e
  · obtain ⟨w, hw, rfl⟩ := List.mem_map.mp hm
    have e1 : ∀ w : Addr × Str × Addr × List Mx, (if w.2.2.1 = r then (w.1, w.2.1, w.2.2.1, ys) else w).1 = w.1 ∧ (if w.2.2.1 = r then (w.1, w.2.1, w.2.2.1, ys) else w).2.1 = w.2.1 ∧ (if w.2.2.1 = r then (w.1, w.2.1, w.2.2.1, ys) else w).2.2.1 = w.2.2.1 := fun w => by split <;> exact ⟨rfl, rfl, rfl⟩
    obtain ⟨a1, a2, a3⟩ := e1 w
    rw [a1, a2, a3]
    exact hc' (cell_mem.mpr (.inr (.inr (.inr (.inr (.inr (.inl ⟨w, hw, rfl⟩))))))) (off _ (List.mem_append_right _ (List.mem_map.mpr ⟨w, hw, rfl⟩)))
  · obtain ⟨w, hw, rfl⟩ := List.mem_map.mp hm
    by_cases e : w.2.2.1 = r
    · rw [if_pos e]
      show L2.upd H r _ w.2.2.1 = _
      rw [e, upd_same]
    · rw [if_neg e]
      exact hc' (cell_mem.mpr (.inr (.inr (.inr (.inr (.inr (.inr (.inl ⟨w, hw, rfl⟩)))))))) e
  · obtain ⟨w, hw, rfl⟩ := List.mem_map.mp hz
    by_cases e : w.1 = r
    · rw [if_pos e]
      show L2.upd H r _ w.1 = _
      rw [e, upd_same]
    · rw [if_neg e]
      exact hc' (cell_mem.mpr (.inr (.inr (.inr (.inr (.inr (.inr (.inr ⟨w, hw, rfl⟩)))))))) e
end Ts
namespace Ts
open PySem L2
section
variable {K : PySem.W.Frag} {B : Bs} {sl : List (Slot K)} {F H : Hp} {O : Own} {σ : St} {n : Bool} {x : Pr}
theorem row_key {r : Addr} (hr : r ∈ x.rows) : ∃ y ∈ x.cells, y.1 = r := by
  have h : r ∈ x.cells.map (·.1) := (ads_perm x).mem_iff.mpr (List.mem_append_right _ hr)
  obtain ⟨y, hy, e⟩ := List.mem_map.mp h
  exact ⟨y, hy, e⟩
theorem At.row (z : At B sl F O H σ) {i : Nat} (hs : sl[i]? = some (.ob n x)) (hh : sl.all (fun s => !isHs s) = true) {r : Addr} (hr : r ∈ x.rows) (ys : List Mx) : ∃ O', At B (sl.set i (.ob n (x.upd r ys))) F O' (L2.upd H r (.lst (ys.map Mx.v))) σ := by
  obtain ⟨Oc, v, e1, ⟨rfl, rfl⟩, cs, nd, _, up⟩ := z.setC hs hh
  have c0 : ∀ y ∈ x.cells, H y.1 = some y.2 := fun y hy => (cs y hy).1
  refine up (x.upd r ys) (x.upd r ys).cells _ ⟨rfl, rfl⟩ (by rw [upd_ads]; exact nd) (fun b u e off => ?_) fun y hy => ⟨upd_cells nd hr c0 y hy, .inl ?_⟩
  · obtain ⟨y, hy, ey⟩ := row_key hr
    rw [upd_ne fun q => off y hy (by rw [ey, q])]
    exact e
  · have h : y.1 ∈ (x.upd r ys).cells.map (·.1) := List.mem_map.mpr ⟨y, hy, rfl⟩
    rw [upd_ads] at h
    obtain ⟨w, hw, ew⟩ := List.mem_map.mp h
    exact ⟨w, hw, ew⟩
theorem keys_nd (nd : (x.cells.map (·.1)).Nodup) : x.keys.Nodup ∧ x.rows.Nodup ∧ ∀ a ∈ x.keys, ∀ r ∈ x.rows, a ≠ r := by
  rw [(ads_perm x).nodup_iff, List.nodup_append] at nd
  exact nd
theorem keys4 (nd : (x.cells.map (·.1)).Nodup) : x.p ≠ x.a ∧ x.b ≠ x.a ∧ x.c ≠ x.a ∧ x.p ≠ x.b ∧ x.c ≠ x.b ∧ (∀ m ∈ x.ms, m.1 ≠ x.a ∧ m.1 ≠ x.b) ∧ (∀ r ∈ x.rows, r ≠ x.a ∧ r ≠ x.b) := by
  obtain ⟨n1, _, n3⟩ := keys_nd nd
  unfold Pr.keys at n1 n3
  simp only [List.cons_append, List.nil_append, List.nodup_cons, List.mem_cons, not_or, List.mem_map, not_exists, not_and] at n1
  obtain ⟨⟨p1, p2, p3, p4⟩, ⟨a1, a2, a3⟩, ⟨b1, b2⟩, c1, _⟩ := n1
  exact ⟨p1, fun e => a1 e.symm, fun e => a2 e.symm, p2, fun e => b1 e.symm, fun m hm => ⟨fun e => a3 m hm e, fun e => b2 m hm e⟩, fun r hr => ⟨fun e => n3 x.a (by simp) r hr e.symm, fun e => n3 x.b (by simp) r hr e.symm⟩⟩
theorem nodup_set {α : Type} {t : α} : ∀ {l : List α} {j : Nat}, l.Nodup → t ∉ l → (l.set j t).Nodup
  | [], _, _, _ => .nil
  | a :: l, 0, h, ht => List.nodup_cons.mpr ⟨fun z => ht (List.mem_cons_of_mem _ z), (List.nodup_cons.mp h).2⟩
  | a :: l, j + 1, h, ht => by
    obtain ⟨h1, h2⟩ := List.nodup_cons.mp h
    refine List.nodup_cons.mpr ⟨fun z => ?_, nodup_set h2 fun z => ht (List.mem_cons_of_mem _ z)⟩
    rcases List.mem_or_eq_of_mem_set z with q | q
    · exact h1 q
    · exact ht (by rw [q]; exact List.mem_cons_self)
theorem in_rs {r : Addr × List Mx} (h : r ∈ x.rs) : r.1 ∈ x.rows := List.mem_append_left _ (List.mem_map.mpr ⟨r, h, rfl⟩)
theorem in_ms {m : Addr × Str × Addr × List Mx} (h : m ∈ x.ms) : m.2.2.1 ∈ x.rows := List.mem_append_right _ (List.mem_append_left _ (List.mem_map.mpr ⟨m, h, rfl⟩))
theorem in_fs {r : Addr × List Mx} (h : r ∈ x.fs) : r.1 ∈ x.rows := List.mem_append_right _ (List.mem_append_right _ (List.mem_map.mpr ⟨r, h, rfl⟩))
theorem At.steps (z : At B sl F O H σ) {i : Nat} (hs : sl[i]? = some (.ob n x)) (hh : sl.all (fun s => !isHs s) = true) {rs : List (Addr × List Mx)} {H' : Hp} (nd' : ((⟨x.p, x.a, rs, x.b, x.ms, x.c, x.fs⟩ : Pr).cells.map (·.1)).Nodup)
    (ha : H' x.a = some (.lst ((rs.map (·.1)).map V.ref))) (keep : ∀ b o, H b = some o → b ≠ x.a → H' b = some o) (new : ∀ r ∈ rs, r ∈ x.rs ∨ (H' r.1 = some (.lst (r.2.map Mx.v)) ∧ H r.1 = none)) : ∃ O', At B (sl.set i (.ob n (⟨x.p, x.a, rs, x.b, x.ms, x.c, x.fs⟩ : Pr))) F O' H' σ := by
  obtain ⟨Oc, v, e1, ⟨rfl, rfl⟩, cs, nd, _, up⟩ := z.setC hs hh
  obtain ⟨k1, k2, k3, _, _, k4, k5⟩ := keys4 nd
  have old : ∀ {y : Addr × HO}, y ∈ x.cells → y.1 ≠ x.a → H' y.1 = some y.2 ∧ ((∃ z ∈ x.cells, z.1 = y.1) ∨ H y.1 = none) := fun {y} hy hn => ⟨keep _ _ (cs y hy).1 hn, .inl ⟨y, hy, rfl⟩⟩
  refine up _ _ H' ⟨rfl, rfl⟩ nd' (fun b u e off => keep b u e fun q => off _ (cell_mem.mpr (.inr (.inl rfl))) q.symm) fun y hy => ?_
  rcases cell_mem.mp hy with rfl | rfl | rfl | rfl | ⟨r, hr, rfl⟩ | ⟨m, hm, rfl⟩ | ⟨m, hm, rfl⟩ | ⟨r, hr, rfl⟩
  · exact old (y := (x.p, _)) (cell_mem.mpr (.inl rfl)) k1
  · exact ⟨ha, .inl ⟨_, cell_mem.mpr (.inr (.inl rfl)), rfl⟩⟩
  · exact old (y := (x.b, _)) (cell_mem.mpr (.inr (.inr (.inl rfl)))) k2
  · exact old (y := (x.c, _)) (cell_mem.mpr (.inr (.inr (.inr (.inl rfl))))) k3
  · rcases new r hr with q | ⟨q1, q2⟩
    · exact old (y := (r.1, _)) (cell_mem.mpr (.inr (.inr (.inr (.inr (.inl ⟨r, q, rfl⟩)))))) (k5 _ (in_rs q)).1
    · exact ⟨q1, .inr q2⟩
  · exact old (y := (m.1, _)) (cell_mem.mpr (.inr (.inr (.inr (.inr (.inr (.inl ⟨m, hm, rfl⟩))))))) (k4 m hm).1
  · exact old (y := (m.2.2.1, _)) (cell_mem.mpr (.inr (.inr (.inr (.inr (.inr (.inr (.inl ⟨m, hm, rfl⟩)))))))) (k5 _ (in_ms hm)).1
  · exact old (y := (r.1, _)) (cell_mem.mpr (.inr (.inr (.inr (.inr (.inr (.inr (.inr ⟨r, hr, rfl⟩)))))))) (k5 _ (in_fs hr)).1
theorem At.mark (z : At B sl F O H σ) {i : Nat} (hs : sl[i]? = some (.ob n x)) (hh : sl.all (fun s => !isHs s) = true) {j : Nat} {m : Addr × Str × Addr × List Mx} (hj : x.ms[j]? = some m) {t : Addr} (ht : H t = none) (w : Str) :
    ∃ O', At B (sl.set i (.ob n (⟨x.p, x.a, x.rs, x.b, x.ms.set j (t, w, m.2.2), x.c, x.fs⟩ : Pr))) F O' (L2.upd (L2.upd H t (.tup [.str w, .ref m.2.2.1])) x.b (.lst (((x.ms.map (·.1)).map V.ref).set j (.ref t)))) σ := by
  obtain ⟨Oc, v, e1, ⟨rfl, rfl⟩, cs, nd, _, up⟩ := z.setC hs hh
  obtain ⟨k1, k2, k3, k6, k7, k4, k5⟩ := keys4 nd
  have tb : t ≠ x.b := fun e => by
    have := (cs _ (cell_mem.mpr (.inr (.inr (.inl rfl))))).1
    rw [← e, ht] at this
    cases this
  have keep : ∀ b o, H b = some o → b ≠ x.b → L2.upd (L2.upd H t (.tup [.str w, .ref m.2.2.1])) x.b (.lst (((x.ms.map (·.1)).map V.ref).set j (.ref t))) b = some o := fun b o e hb => by
    rw [upd_ne hb, upd_ne fun q => (by rw [q, ht] at e; cases e)]
    exact e
  have old : ∀ {y : Addr × HO}, y ∈ x.cells → y.1 ≠ x.b → L2.upd (L2.upd H t (.tup [.str w, .ref m.2.2.1])) x.b (.lst (((x.ms.map (·.1)).map V.ref).set j (.ref t))) y.1 = some y.2 ∧ ((∃ z ∈ x.cells, z.1 = y.1) ∨ H y.1 = none) := fun {y} hy hn => ⟨keep _ _ (cs y hy).1 hn, .inl ⟨y, hy, rfl⟩⟩
  have hm := List.mem_of_getElem? hj
  have inSet : ∀ q ∈ x.ms.set j (t, w, m.2.2), q = (t, w, m.2.2) ∨ q ∈ x.ms := fun q hq => (List.mem_or_eq_of_mem_set hq).symm
  refine up _ _ _ ⟨rfl, rfl⟩ ?_ (fun b u e off => keep b u e fun q => off _ (cell_mem.mpr (.inr (.inr (.inl rfl)))) q.symm) fun y hy => ?_
  · have tn : t ∉ x.cells.map (·.1) := fun z => by
      obtain ⟨y, hy, e⟩ := List.mem_map.mp z
      have := (cs y hy).1
      rw [e, ht] at this
      cases this
    have e3 : (x.ms.set j (t, w, m.2.2)).map (·.2.2.1) = x.ms.map (·.2.2.1) := by
      rw [List.map_set]
      exact set_self (by rw [List.getElem?_map, hj]; rfl)
    have e1 : (x.ms.set j (t, w, m.2.2)).map (·.1) = (x.ms.map (·.1)).set j t := by rw [List.map_set]
    obtain ⟨n1, n2, n3⟩ := keys_nd nd
    have tk : ∀ a ∈ x.keys ++ x.rows, t ≠ a := fun a ha e => tn (by rw [e]; exact (ads_perm x).mem_iff.mpr ha)
    rw [(ads_perm _).nodup_iff, List.nodup_append]
    simp only [Pr.keys, Pr.rows] at n1 n2 n3 tk ⊢
    rw [e1, e3]
    rw [List.nodup_append] at n1 ⊢
    obtain ⟨m1, m2, m3⟩ := n1
    have inS : ∀ a ∈ (x.ms.map (·.1)).set j t, a = t ∨ a ∈ x.ms.map (·.1) := fun a ha => (List.mem_or_eq_of_mem_set ha).symm
    refine ⟨⟨m1, nodup_set m2 fun z => tk t (List.mem_append_left _ (List.mem_append_right _ z)) rfl, fun a ha b hb e => ?_⟩, n2, fun a ha r hr => ?_⟩
    · rcases inS b hb with q | q
      · exact tk a (List.mem_append_left _ (List.mem_append_left _ ha)) (by rw [← q, e])
      · exact m3 a ha b q e
    · rcases List.mem_append.mp ha with ha | ha
      · exact n3 a (List.mem_append_left _ ha) r hr
      · rcases inS a ha with q | q
        · rw [q]; exact tk r (List.mem_append_right _ hr)
        · exact n3 a (List.mem_append_right _ q) r hr
  · rcases cell_mem.mp hy with rfl | rfl | rfl | rfl | ⟨r, hr, rfl⟩ | ⟨q, hq, rfl⟩ | ⟨q, hq, rfl⟩ | ⟨r, hr, rfl⟩
    · exact old (y := (x.p, _)) (cell_mem.mpr (.inl rfl)) k6
    · exact old (y := (x.a, _)) (cell_mem.mpr (.inr (.inl rfl))) k2.symm
    · refine ⟨?_, .inl ⟨_, cell_mem.mpr (.inr (.inr (.inl rfl))), rfl⟩⟩
      show L2.upd _ x.b _ x.b = _
      rw [upd_same, List.map_set, List.map_set]
    · exact old (y := (x.c, _)) (cell_mem.mpr (.inr (.inr (.inr (.inl rfl))))) k7
    · exact old (y := (r.1, _)) (cell_mem.mpr (.inr (.inr (.inr (.inr (.inl ⟨r, hr, rfl⟩)))))) (k5 _ (in_rs hr)).2
    · rcases inSet q hq with e | hq
      · subst e
        exact ⟨by show L2.upd _ x.b _ t = _; rw [upd_ne tb, upd_same], .inr ht⟩
      · exact old (y := (q.1, _)) (cell_mem.mpr (.inr (.inr (.inr (.inr (.inr (.inl ⟨q, hq, rfl⟩))))))) (k4 q hq).2
    · rcases inSet q hq with e | hq
      · subst e
        exact old (y := (m.2.2.1, _)) (cell_mem.mpr (.inr (.inr (.inr (.inr (.inr (.inr (.inl ⟨m, hm, rfl⟩)))))))) (k5 _ (in_ms hm)).2
      · exact old (y := (q.2.2.1, _)) (cell_mem.mpr (.inr (.inr (.inr (.inr (.inr (.inr (.inl ⟨q, hq, rfl⟩)))))))) (k5 _ (in_ms hq)).2
    · exact old (y := (r.1, _)) (cell_mem.mpr (.inr (.inr (.inr (.inr (.inr (.inr (.inr ⟨r, hr, rfl⟩)))))))) (k5 _ (in_fs hr)).2
end
end Ts
namespace Ts
open PySem L2
structure Ad where
  a : Addr
section
variable {K : PySem.W.Frag} {B : Bs} {sl : List (Slot K)} {F H : Hp} {O : Own} {σ : St} {n : Bool} {x : Pr} {S : Type} {tc : TT} {t u : TS} {te ti : TE}
instance : Rp K Ad := ⟨fun _ v x => v = .ref x.a, fun _ h => h⟩
instance : Sc K Ad := ⟨fun x => .ref x.a, Iff.rfl, fun {a b} h => by cases a; cases b; cases h; rfl⟩
theorem At.cell (z : At B sl F O H σ) {i : Nat} (hs : sl[i]? = some (.ob n x)) : σ[i]? = some (some (.ref x.p)) ∧ (∀ y ∈ x.cells, H y.1 = some y.2) ∧ (x.cells.map (·.1)).Nodup := by
  obtain ⟨O1, Oc, O2, v, e, h1, ⟨rfl, rfl⟩, _⟩ := z.2.ob_at hs
  have nd := z.1.nd
  rw [e, List.map_append, List.map_append, List.nodup_append, List.nodup_append] at nd
  exact ⟨h1, fun y hy => (z.1.fo y (by rw [e]; exact List.mem_append_right _ (List.mem_append_left _ hy))).2.2, nd.2.1.1⟩
theorem At.ref (z : At B sl F O H σ) {i : Nat} {a : Addr} {m : Bool} (hs : sl[i]? = some (.fz m (Ad.mk a))) : σ[i]? = some (some (.ref a)) := by
  obtain ⟨w, e, r⟩ := z.2.fz_at hs
  have r : w = .ref a := r
  rw [e, r]
theorem ex_adL {i j : Nat} {m : Bool} {a : Addr} {as : List Ad} (hs : sl[j]? = some (.ob n x)) (hi : sl[i]? = some (.fz m (Ad.mk a))) (hc : (a, HO.lst (as.map fun z => V.ref z.a)) ∈ x.cells) : Ex B sl .hp (tVar i) (some as) := fun c e F O H σ Q z k => by
  cases e
  exact ⟨_, z.ref hi, k _ F H (.refl z.1) ⟨a, _, rfl, (z.cell hs).2.1 _ hc, A2.of_map (R := rp K H) (f := fun z : Ad => V.ref z.a) (fun y => rfl) as⟩⟩
theorem ex_adM {i j : Nat} {m : Bool} (hs : sl[j]? = some (.ob n x)) (hi : sl[i]? = some (.fz m (Ad.mk x.b))) : Ex B sl .hp (tVar i) (some (x.ms.map fun q => (q.2.1, Ad.mk q.2.2.1))) := fun c e F O H σ Q z k => by
  cases e
  have cs := (z.cell hs).2.1
  refine ⟨_, z.ref hi, k _ F H (.refl z.1) ⟨x.b, _, rfl, cs _ (cell_mem.mpr (.inr (.inr (.inl rfl)))), ?_⟩⟩
  have go : ∀ ms : List (Addr × Str × Addr × List Mx), (∀ q ∈ ms, q ∈ x.ms) → A2 (rp K H) ((ms.map (·.1)).map V.ref) (ms.map fun q => (q.2.1, Ad.mk q.2.2.1)) := fun ms => by
    induction ms with
    | nil => exact fun _ => trivial
    | cons q ms ih => exact fun hq => ⟨⟨q.1, _, _, rfl, cs _ (cell_mem.mpr (.inr (.inr (.inr (.inr (.inr (.inl ⟨q, hq q List.mem_cons_self, rfl⟩))))))), rfl, rfl⟩, ih fun w hw => hq w (List.mem_cons_of_mem _ hw)⟩
  exact go x.ms fun _ h => h
theorem ex_adR {i j : Nat} {m : Bool} {r : Addr} {xs : List Mx} (hs : sl[j]? = some (.ob n x)) (hi : sl[i]? = some (.fz m (Ad.mk r))) (hc : (r, HO.lst (xs.map Mx.v)) ∈ x.cells) : Ex B sl .hp (tVar i) (some xs) := fun c e F O H σ Q z k => by
  cases e
  exact ⟨_, z.ref hi, k _ F H (.refl z.1) ⟨r, _, rfl, (z.cell hs).2.1 _ hc, mxs_rp xs⟩⟩
theorem sna_unp {j k l : Nat} {s1 s2 s3 : Slot K} (h0 : sl[0]? = some (.ob n x)) (hs : sl[j]? = some s1) (ho : isOw s1 = false) (hs' : ∀ x : Slot K, (sl.set j x)[k]? = some s2) (ho' : isOw s2 = false) (hs2 : ∀ x y : Slot K, ((sl.set j x).set k y)[l]? = some s3) (ho2 : isOw s3 = false) :
    SnA B sl (tAsg (tVar 0) (gTup K 3 (gCons (gName j) (gCons (gName k) (gCons (gName l) gNil))))) (fun _ : Unit => ((sl.set j (.fz true (Ad.mk x.a))).set k (.fz true (Ad.mk x.b))).set l (.fz true (Ad.mk x.c))) (fun _ => True) := fun G D σ H sg kk => by
  obtain ⟨F, O, g, z⟩ := sg
  obtain ⟨e, cs, _⟩ := z.cell h0
  refine ⟨_, e, x.p, [.ref x.a, .ref x.b, .ref x.c], rfl, .inl (.inl (cs _ (cell_mem.mpr (.inl rfl)))), rfl, _, _, rfl, _, _, rfl, _, _, rfl, rfl, ?_⟩
  exact kk () trivial _ _ ⟨F, O, g, z.1, ((z.2.put (s' := .fz true (Ad.mk x.a)) (fun _ _ _ z => .fz rfl z) hs ho).put (s' := .fz true (Ad.mk x.b)) (fun _ _ _ z => .fz rfl z) (hs' _) ho').put (s' := .fz true (Ad.mk x.c)) (fun _ _ _ z => .fz rfl z) (hs2 _ _) ho2⟩
theorem sna_if {b : Bool} {L : S → List (Slot K)} {P : S → Prop} (h : Et B sl tc (some b)) (h1 : b = true → SnA B sl t L P) (h2 : b = false → SnA B sl u L P) : SnA B sl (tIfS tc t u) L P := fun G D σ H sg kk => by
  obtain ⟨F, O, g, z⟩ := sg
  refine h b rfl F O H σ _ z fun F' H' gr => ?_
  cases b with
  | true => exact h1 rfl G D σ H' ⟨F', O, g.trans gr.ff, z.grow gr⟩ kk
  | false => exact h2 rfl G D σ H' ⟨F', O, g.trans gr.ff, z.grow gr⟩ kk
theorem sna_clr {i : Nat} {m : Bool} (h0 : sl[0]? = some (.ob n x)) (hi : sl[i]? = some (.fz m (Ad.mk x.a))) (hh : sl.all (fun s => !isHs s) = true) :
    SnA B sl (tDrop (tBM0 K "list" rClear (tVar i))) (fun x' : Pr => sl.set 0 (.ob n x')) (fun x' => x' = ⟨x.p, x.a, [], x.b, x.ms, x.c, x.fs⟩) := fun G D σ H sg kk => by
  obtain ⟨F, O, g, z⟩ := sg
  obtain ⟨_, cs, nd⟩ := z.cell h0
  have ha := cs _ (cell_mem.mpr (.inr (.inl rfl)))
  refine ⟨_, z.ref hi, .inl ⟨rfl, _, SqL.of ha⟩, x.a, _, rfl, rfl, ha, ?_⟩
  have nd' : ((⟨x.p, x.a, [], x.b, x.ms, x.c, x.fs⟩ : Pr).cells.map (·.1)).Nodup := by
    obtain ⟨n1, n2, n3⟩ := keys_nd nd
    rw [(ads_perm _).nodup_iff, List.nodup_append]
    unfold Pr.rows at n2 n3
    rw [List.nodup_append] at n2
    exact ⟨n1, n2.2.1, fun a ha r hr => n3 a ha r (List.mem_append_right _ hr)⟩
  obtain ⟨O', z'⟩ := z.steps h0 hh (rs := []) (H' := L2.upd H x.a (.lst [])) nd' upd_same (fun b o e hb => by rw [upd_ne hb]; exact e) fun r hr => by cases hr
  exact kk _ rfl _ _ ⟨F, O', g, z'⟩
theorem sna_clrR {i : Nat} {m : Bool} {k : Nat} {r : Addr × List Mx} (h0 : sl[0]? = some (.ob n x)) (hi : sl[i]? = some (.fz m (Ad.mk x.a))) (hh : sl.all (fun s => !isHs s) = true) (hk : x.rs[k]? = some r) (ht : Ex B sl .hp ti (some (k : Int))) :
    SnA B sl (tDrop (tBM0 K "list" rClear (tOp (rIxL K) (tVar i) ti))) (fun x' : Pr => sl.set 0 (.ob n x')) (fun x' => x' = x.upd r.1 []) := fun G D σ H sg kk => by
  obtain ⟨F, O, g, z⟩ := sg
  refine ⟨_, z.ref hi, ht _ rfl F O H σ _ z fun v F' H' gr rv => ?_⟩
  have rv : v = .int k := rv
  have z' := z.grow gr
  obtain ⟨_, cs, nd⟩ := z'.cell h0
  have ha := cs _ (cell_mem.mpr (.inr (.inl rfl)))
  have hm := List.mem_of_getElem? hk
  have hr := cs _ (cell_mem.mpr (.inr (.inr (.inr (.inr (.inl ⟨r, hm, rfl⟩))))))
  refine ⟨x.a, _, k, .ref r.1, rfl, rv, SqL.of ha, atI_nat (by rw [List.getElem?_map, List.getElem?_map, hk]; rfl), .inl ⟨rfl, _, SqL.of hr⟩, r.1, _, rfl, rfl, hr, ?_⟩
  obtain ⟨O', z2⟩ := z'.row h0 hh (in_rs hm) []
  exact kk _ rfl _ _ ⟨F', O', g.trans gr.ff, z2⟩
end
end Ts
namespace Ts
open PySem L2
section
variable {K : PySem.W.Frag} {B : Bs} {sl : List (Slot K)} {F H : Hp} {O : Own} {σ : St} {n : Bool} {x : Pr} {te ti t1 : TE}
theorem sna_ext {i : Nat} {m : Bool} {e : Int} (h0 : sl[0]? = some (.ob n x)) (hi : sl[i]? = some (.fz m (Ad.mk x.a))) (hh : sl.all (fun s => !isHs s) = true) (he : Ex B sl .hp te (some e)) (e0 : 0 ≤ e) (e1 : e ≤ 900) (hl : x.rs.length ≤ 9000) :
    SnA B sl (tDrop (tBM K "list" rExtend (tVar i) (tCons (tComp 1 [] (iRng1 (tCons te tNil)) (gName 0) tIf0 (tLst (tCons (tC (.int 0)) tNil))) tNil))) (fun x' : Pr => sl.set 0 (.ob n x')) (fun x' => ∃ ps : List Addr, (ps.length : Int) = e ∧ x' = ⟨x.p, x.a, x.rs ++ ps.map (fun q => (q, [Mx.mi 0])), x.b, x.ms, x.c, x.fs⟩) := fun G D σ H sg kk => by
  obtain ⟨F, O, g, z⟩ := sg
  obtain ⟨_, cs0, _⟩ := z.cell h0
  refine ⟨_, z.ref hi, .inl ⟨rfl, _, SqL.of (cs0 _ (cell_mem.mpr (.inr (.inl rfl))))⟩, he e rfl F O H σ _ z fun v F1 H1 gr rv => ?_⟩
  have rv : v = .int e := rv
  subst rv
  have z1 := z.grow gr
  obtain ⟨_, cs, nd⟩ := z1.cell h0
  have ha := cs _ (cell_mem.mpr (.inr (.inl rfl)))
  refine ⟨e, rfl, Int.le_trans (by decide) e0, Int.lt_of_le_of_lt e1 (by decide), comp_range (lo := 0) (k := e.toNat) (fun i ys σ2 H2 => ∃ (ps : List Addr), ys = ps.map V.ref ∧ ps.length = i ∧ ps.Nodup ∧ Same H1 H2 ∧ ∀ q ∈ ps, H1 q = none ∧ H2 q = some (.lst [.int 0])) ⟨[], rfl, rfl, .nil, .refl _, fun q hq => by cases hq⟩
    (fun i ys σ2 H2 hi ⟨ps, e1, e2, _⟩ => by rw [e1, List.length_map, e2]; exact Nat.le_refl _) (Nat.lt_of_le_of_lt (show e.toNat ≤ 900 by omega) (by decide)) ?_ ?_⟩
  · rintro i ys σ2 H2 hi ⟨ps, rfl, rfl, nd, s2, hq⟩
    refine ⟨by show 1 ≤ sizeLine; decide, fun p hp => ⟨ps ++ [p], by rw [List.map_append]; rfl, by rw [List.length_append]; rfl, ?_, s2.trans (same_new hp _), fun q hq' => ?_⟩⟩
    · rw [List.nodup_append]
      refine ⟨nd, by simp, fun a ha b hb e => ?_⟩
      rw [List.mem_singleton.mp hb] at e
      rw [← e, (hq a ha).2] at hp
      cases hp
    · rcases List.mem_append.mp hq' with z | z
      · exact ⟨(hq q z).1, same_new hp _ _ _ (hq q z).2⟩
      · rw [List.mem_singleton.mp z]
        exact ⟨s2.free hp, upd_same⟩
  · rintro ys σ2 H2 ⟨ps, rfl, e2, ndp, s2, hq⟩ l hp
    have s3 := s2.trans (same_new hp (.lst (ps.map V.ref)))
    refine ⟨x.a, l, _, _, rfl, rfl, s3 _ _ ha, upd_same, Nat.le_trans (show ((x.rs.map (·.1)).map V.ref).length + (ps.map V.ref).length ≤ 10000 by rw [List.length_map, List.length_map, List.length_map]; omega) (by decide), ?_⟩
    have nq : ∀ q ∈ ps, ∀ a ∈ x.keys ++ x.rows, a ≠ q := fun q hq' a ha' ee => by
      have : a ∈ x.cells.map (·.1) := (ads_perm x).mem_iff.mpr ha'
      obtain ⟨y, hy, ey⟩ := List.mem_map.mp this
      have := cs y hy
      rw [ey, ee, (hq q hq').1] at this
      cases this
    have pf : (ps.map (fun q => (q, [Mx.mi 0]))).map (·.1) = ps := by
      rw [List.map_map]
      exact List.map_id' ps
    have nd' : ((⟨x.p, x.a, x.rs ++ ps.map (fun q => (q, [Mx.mi 0])), x.b, x.ms, x.c, x.fs⟩ : Pr).cells.map (·.1)).Nodup := by
      obtain ⟨n1, n2, n3⟩ := keys_nd nd
      rw [(ads_perm _).nodup_iff]
      have pm : ((⟨x.p, x.a, x.rs ++ ps.map (fun q => (q, [Mx.mi 0])), x.b, x.ms, x.c, x.fs⟩ : Pr).keys ++ (⟨x.p, x.a, x.rs ++ ps.map (fun q => (q, [Mx.mi 0])), x.b, x.ms, x.c, x.fs⟩ : Pr).rows).Perm ((x.keys ++ x.rows) ++ ps) := by
        rw [List.perm_iff_count]
        intro w
        simp only [Pr.keys, Pr.rows, List.map_append, pf, List.count_append]
        omega
      rw [pm.nodup_iff, List.nodup_append]
      exact ⟨List.nodup_append.mpr ⟨n1, n2, n3⟩, ndp, fun a ha' q hq' => nq q hq' a ha'⟩
    obtain ⟨O', z'⟩ := z1.steps h0 hh (rs := x.rs ++ ps.map (fun q => (q, [Mx.mi 0]))) (H' := L2.upd (L2.upd H2 l (.lst (ps.map V.ref))) x.a (.lst ((x.rs.map (·.1)).map V.ref ++ ps.map V.ref))) nd' (by rw [upd_same, List.map_append, List.map_append, pf]) (fun b o e hb => by rw [upd_ne hb]; exact s3 b o e) fun r hr => by
      rcases List.mem_append.mp hr with hr | hr
      · exact .inl hr
      · obtain ⟨q, hq', rfl⟩ := List.mem_map.mp hr
        have na : q ≠ x.a := fun e => nq q hq' x.a (List.mem_append_left _ (by simp [Pr.keys])) e.symm
        refine .inr ⟨?_, (hq q hq').1⟩
        show L2.upd _ x.a _ q = _
        rw [upd_ne na]
        exact same_new hp _ _ _ (hq q hq').2
    exact kk _ ⟨ps, by omega, rfl⟩ _ _ ⟨F1, O', g.trans gr.ff, z'⟩
theorem sna_ins {i : Nat} {m : Bool} {r : Addr} {xs : List Mx} {j : Int} {y : Mx} (h0 : sl[0]? = some (.ob n x)) (hi : sl[i]? = some (.fz m (Ad.mk r))) (hh : sl.all (fun s => !isHs s) = true) (hr : r ∈ x.rows) (hc : (r, HO.lst (xs.map Mx.v)) ∈ x.cells) (hj : Ex B sl .hp ti (some j)) (j0 : 0 ≤ j) (j1 : j ≤ xs.length) (hl : xs.length < 1000) (hy : Ex B sl .hp te (some y)) :
    SnA B sl (tDrop (tBM K "list" rInsert (tVar i) (tCons ti (tCons te tNil)))) (fun x' : Pr => sl.set 0 (.ob n x')) (fun x' => x' = x.upd r (insL j.toNat y xs)) := fun G D σ H sg kk => by
  obtain ⟨F, O, g, z⟩ := sg
  obtain ⟨_, cs0, _⟩ := z.cell h0
  refine ⟨_, z.ref hi, .inl ⟨rfl, _, SqL.of (cs0 _ hc)⟩, hj j rfl F O H σ _ z fun v F1 H1 g1 r1 => ?_⟩
  refine hy y rfl F1 O H1 σ _ (z.grow g1) fun w F2 H2 g2 r2 => ?_
  have r1 : v = .int j := r1
  have r2 : w = y.v := r2
  subst r1 r2
  have z2 := (z.grow g1).grow g2
  obtain ⟨_, cs, _⟩ := z2.cell h0
  refine ⟨r, xs.map Mx.v, j, y.v, rfl, rfl, cs _ hc, j0, by rw [List.length_map]; exact j1, Nat.lt_of_lt_of_le (by rw [List.length_map]; exact hl) (by decide), ?_⟩
  have e : insL j.toNat y.v (xs.map Mx.v) = (insL j.toNat y xs).map Mx.v := by
    unfold insL
    rw [List.map_append, List.map_cons, List.map_take, List.map_drop]
  rw [e]
  obtain ⟨O', z3⟩ := z2.row h0 hh hr (insL j.toNat y xs)
  exact kk _ rfl _ _ ⟨F2, O', g.trans (g1.ff.trans g2.ff), z3⟩
end
end Ts
set_option maxHeartbeats 40000000
namespace Ts
open PySem L2
section
variable {K : PySem.W.Frag} {B : Bs} {sl : List (Slot K)} {F H G : Hp} {O : Own} {σ : St} {n : Bool} {x : Pr} {te ti t1 : TE} {t : TS} {tc : TT}
theorem sna_setH {α : Type} [Rp K α] {a : α} {s : Slot K} (j : Nat) (hs : sl[j]? = some s) (ho : isOw s = false) (h : Ex B sl .hp te (some a)) : SnA B sl (tAsg te (gName j)) (fun _ : Unit => sl.set j (.hs a)) (fun _ => True) := fun G D σ H sg kk => by
  obtain ⟨F, O, g, z⟩ := sg
  refine h a rfl F O H σ _ z fun v F' H' gr r => ?_
  have z' := z.grow gr
  exact kk () trivial _ _ ⟨F', O, g.trans gr.ff, z'.1, z'.2.put (s' := .hs a) (fun _ _ _ h => .hs r h) hs ho⟩
theorem sna_mk {i l : Nat} {m m' : Bool} {w : Str} {k : Nat} {q : Addr × Str × Addr × List Mx} (h0 : sl[0]? = some (.ob n x)) (hi : sl[i]? = some (.fz m (Ad.mk x.b))) (hl : sl[l]? = some (.fz m' (k : Int))) (hh : sl.all (fun s => !isHs s) = true) (hk : x.ms[k]? = some q) (h1 : Ex B sl .hp t1 (some w)) (h2 : Ex B sl .hp te (some (Ad.mk q.2.2.1))) :
    SnA B sl (tAsg (tTup (tCons t1 (tCons te tNil))) (gSub (tVar i) (tVar l) rSetL)) (fun x' : Pr => sl.set 0 (.ob n x')) (fun x' => ∃ a, x' = ⟨x.p, x.a, x.rs, x.b, x.ms.set k (a, w, q.2.2), x.c, x.fs⟩) := fun G D σ H sg kk => by
  obtain ⟨F, O, g, z⟩ := sg
  refine h1 w rfl F O H σ _ z fun v1 F1 H1 g1 r1 => ?_
  refine h2 _ rfl F1 O H1 σ _ (z.grow g1) fun v2 F2 H2 g2 r2 => ?_
  have r1 : v1 = .str w := r1
  have r2 : v2 = .ref q.2.2.1 := r2
  subst r1 r2
  refine ⟨by show 2 ≤ sizeLine; decide, fun a ha => ?_⟩
  have z2 := (z.grow g1).grow g2
  obtain ⟨v3, e3, r3⟩ := z2.2.fz_at hl
  have r3 : v3 = .int k := r3
  subst r3
  obtain ⟨_, cs, _⟩ := z2.cell h0
  have hb := cs _ (cell_mem.mpr (.inr (.inr (.inl rfl))))
  have hlt : k < x.ms.length := (List.getElem?_eq_some_iff.mp hk).1
  refine ⟨_, z2.ref hi, _, e3, x.b, (x.ms.map (·.1)).map V.ref, k, k, rfl, rfl, ?_, ?_, ?_⟩
  · rw [upd_ne fun e => (by rw [e, ha] at hb; cases hb)]
    exact hb
  · unfold ixN
    rw [List.length_map, List.length_map, if_pos (by omega), if_pos (by omega)]
    rfl
  · obtain ⟨O', z3⟩ := z2.mark h0 hh hk ha w
    exact kk _ ⟨a, rfl⟩ _ _ ⟨F2, O', g.trans (g1.ff.trans g2.ff), z3⟩
theorem eo_mk1 {i : Nat} {m : Bool} (h0 : sl[0]? = some (.ob n x)) (hi : sl[i]? = some (.fz m (Ad.mk x.b))) (hl : x.ms.length ≤ 9000) : Eo B sl .hp (tComp 1 [] (iList K (tVar i)) (gName 0) tIf0 (tOp (rIxT K) (tVar 0) (tC (.int 1)))) (some (x.ms.map fun q => Ad.mk q.2.2.1)) := fun c e F O H σ Q z k => by
  cases e
  obtain ⟨_, cs, _⟩ := z.cell h0
  have hb := cs _ (cell_mem.mpr (.inr (.inr (.inl rfl))))
  have ll : ((x.ms.map (·.1)).map V.ref).length = x.ms.length := by rw [List.length_map, List.length_map]
  refine ⟨_, z.ref hi, x.b, rfl, ⟨_, SqL.of hb⟩, comp_list (xs := (x.ms.map (·.1)).map V.ref) (fun i ys σ2 H2 => H2 = H ∧ ys = (x.ms.take i).map (fun q => V.ref q.2.2.1) ∧ σ2.length = 1) ⟨rfl, rfl, rfl⟩ ?_ (by rw [ll]; exact Nat.lt_of_le_of_lt hl (by decide)) ?_ ?_⟩
  · rintro i ys σ2 H2 hi ⟨rfl, rfl, _⟩
    exact ⟨SqL.of hb, by rw [List.length_map, List.length_take]; omega⟩
  · rintro i v ys σ2 H2 hv ⟨rfl, rfl, e1⟩
    rw [List.getElem?_map, List.getElem?_map] at hv
    cases eq : x.ms[i]? with
    | none => rw [eq] at hv; cases hv
    | some q =>
      rw [eq] at hv
      have hv : some (V.ref q.1) = some v := hv
      cases hv
      obtain ⟨s0, rfl⟩ : ∃ s0, σ2 = [s0] := by
        match σ2, e1 with
        | [s0], _ => exact ⟨s0, rfl⟩
      have hm := List.mem_of_getElem? eq
      refine ⟨_, rfl, q.1, [.str q.2.1, .ref q.2.2.1], 1, .ref q.2.2.1, rfl, rfl, .inl (.inl (cs _ (cell_mem.mpr (.inr (.inr (.inr (.inr (.inr (.inl ⟨q, hm, rfl⟩))))))))), rfl, rfl, ?_, rfl⟩
      rw [List.take_succ, eq, List.map_append]
      rfl
  · rintro ys σ2 H2 ⟨rfl, rfl, _⟩ p hp
    rw [ll, List.take_length]
    refine k p _ F H2 (.refl z.1) hp ?_
    have := A2.of_map (R := rp K H2) (f := fun z : Ad => V.ref z.a) (fun y => rfl) (x.ms.map fun q => Ad.mk q.2.2.1)
    rw [List.map_map] at this
    exact this
theorem Et.to {m : Option Bool} {b : Bool} (h : Et B sl tc m) (e : m = some b) : Et B sl tc (some b) := e ▸ h
theorem Ex.to {α : Type} [Rp K α] {md : Md} {m : Option α} {b : α} (h : Ex B sl md te m) (e : m = some b) : Ex B sl md te (some b) := e ▸ h
theorem sna_app {S : Type} {L : S → List (Slot K)} {P : S → Prop} {D : Ends} (h : SnA B sl t L P) (sg : Sg B G sl σ H) (k : ∀ s, P s → ∀ σ' H', Sg B G (L s) σ' H' → D.nx σ' H') : t D σ H := h G D σ H sg k
end
theorem FineK.up {k : Nat} {a : Prt} (h : FineK k a) : FineK (k + 1) a := ⟨by have := h.la; omega, h.lb, h.lc, fun r hr => ⟨by have := (h.ra r hr).1; omega, (h.ra r hr).2⟩, fun m hm => ⟨(h.rb m hm).1, by have := (h.rb m hm).2.1; omega, (h.rb m hm).2.2⟩, fun r hr => ⟨by have := (h.rc r hr).1; omega, (h.rc r hr).2⟩⟩
theorem updR_mem {r : Addr} {ys : List Mx} {rs : List (Addr × List Mx)} {z : List Mx} (h : z ∈ (updR r ys rs).map (·.2)) : z = ys ∨ z ∈ rs.map (·.2) := by
  obtain ⟨q, hq, rfl⟩ := List.mem_map.mp h
  obtain ⟨u, hu, rfl⟩ := List.mem_map.mp hq
  by_cases e : u.1 = r
  · rw [if_pos e]; exact .inl rfl
  · rw [if_neg e]; exact .inr (List.mem_map.mpr ⟨u, hu, rfl⟩)
theorem fine_upd {x : Pr} {k : Nat} (h : FineK k x.val) (r : Addr) {ys : List Mx} (hl : ys.length ≤ 6 + k) (hy : ∀ y ∈ ys, MxF y) : FineK (k + 1) (x.upd r ys).val := by
  have h' := h.up
  refine ⟨?_, ?_, ?_, fun z hz => ?_, fun m hm => ?_, fun z hz => ?_⟩
  · have := h'.la
    simpa [Pr.val, Pr.upd, updR] using this
  · have := h'.lb
    simpa [Pr.val, Pr.upd, updM] using this
  · have := h'.lc
    simpa [Pr.val, Pr.upd, updR] using this
  · rcases updR_mem hz with rfl | q
    · exact ⟨by omega, hy⟩
    · exact h'.ra z q
  · obtain ⟨q, hq, rfl⟩ := List.mem_map.mp hm
    obtain ⟨u, hu, rfl⟩ := List.mem_map.mp hq
    have hu' := h'.rb (u.2.1, u.2.2.2) (List.mem_map.mpr ⟨u, hu, rfl⟩)
    by_cases e : u.2.2.1 = r
    · rw [if_pos e]
      exact ⟨hu'.1, by show ys.length ≤ _; omega, hy⟩
    · rw [if_neg e]
      exact hu'
  · rcases updR_mem hz with rfl | q
    · exact ⟨by omega, hy⟩
    · exact h'.rc z q
def RowG (k : Nat) (x : Pr) (r : Ad) : Prop := r.a ∈ x.rows ∧ ∃ xs : List Mx, (r.a, HO.lst (xs.map Mx.v)) ∈ x.cells ∧ xs.length ≤ 5 + k ∧ ∀ y ∈ xs, MxF y
theorem row_rs {x : Pr} {k : Nat} (h : FineK k x.val) : ∀ r ∈ x.rs.map (fun r => Ad.mk r.1), RowG k x r := fun r hr => by
  obtain ⟨u, hu, rfl⟩ := List.mem_map.mp hr
  exact ⟨in_rs hu, u.2, cell_mem.mpr (.inr (.inr (.inr (.inr (.inl ⟨u, hu, rfl⟩))))), h.ra u.2 (List.mem_map.mpr ⟨u, hu, rfl⟩)⟩
theorem row_ms {x : Pr} {k : Nat} (h : FineK k x.val) : ∀ r ∈ x.ms.map (fun r => Ad.mk r.2.2.1), RowG k x r := fun r hr => by
  obtain ⟨u, hu, rfl⟩ := List.mem_map.mp hr
  exact ⟨in_ms hu, u.2.2.2, cell_mem.mpr (.inr (.inr (.inr (.inr (.inr (.inr (.inl ⟨u, hu, rfl⟩))))))), (h.rb (u.2.1, u.2.2.2) (List.mem_map.mpr ⟨u, hu, rfl⟩)).2⟩
theorem row_fs {x : Pr} {k : Nat} (h : FineK k x.val) : ∀ r ∈ x.fs.map (fun r => Ad.mk r.1), RowG k x r := fun r hr => by
  obtain ⟨u, hu, rfl⟩ := List.mem_map.mp hr
  exact ⟨in_fs hu, u.2, cell_mem.mpr (.inr (.inr (.inr (.inr (.inr (.inr (.inr ⟨u, hu, rfl⟩))))))), h.rc u.2 (List.mem_map.mpr ⟨u, hu, rfl⟩)⟩
theorem mod_eq {a b : Int} (h : 0 < b) : modM a b = some (a % b) := if_pos h
theorem div_eq {a b : Int} (h : 0 < b ∧ b < 1073741824) : divM a b = some (a / b) := if_pos h
theorem at_mod {α : Type} {xs : List α} {q : Int} (h : xs ≠ []) : ∃ (k : Nat) (y : α), ((k : Nat) : Int) = q % (xs.length : Int) ∧ xs[k]? = some y ∧ atI xs (q % (xs.length : Int)) = some y := by
  have l : 0 < xs.length := List.length_pos_iff.mpr h
  have z0 := Int.emod_nonneg q (show (xs.length : Int) ≠ 0 by omega)
  have z1 := Int.emod_lt_of_pos q (show 0 < (xs.length : Int) by omega)
  have e : ((q % (xs.length : Int)).toNat : Int) = q % (xs.length : Int) := Int.toNat_of_nonneg z0
  refine ⟨(q % (xs.length : Int)).toNat, xs[(q % (xs.length : Int)).toNat]'(by omega), e, List.getElem?_eq_getElem _, ?_⟩
  have := atI_nat (xs := xs) (j := (q % (xs.length : Int)).toNat) (List.getElem?_eq_getElem (by omega))
  rwa [e] at this
end Ts
set_option maxHeartbeats 40000000
namespace Ts
open PySem L2
abbrev nmsSp : List Str := ["_law_parts", "_law_way", "_law_place", "_law_cell_here", "_law_steps", "_law_marks", "_law_fair", "_law_many", "_law_some", "_law_chosen", "_law_at", "_law_name"]
theorem sc_l_spoil : FnScope nmsSp ["_law_parts", "_law_way", "_law_place", "_law_cell_here"] (defScope s_l_spoil) := fsc
abbrev spL (K : PySem.W.Frag) (wy q c : Int) (x y : Pr) : List (Slot K) := [.ob true y, .fz false wy, .fz false q, .fz false c, .fz true (Ad.mk x.a), .fz true (Ad.mk x.b), .fz true (Ad.mk x.c), .fz true (((x.rs.map fun r => Ad.mk r.1).length : Nat) : Int), .un, .un, .un, .un]
def SpI (x : Pr) (kf : Nat) (wy j : Int) (y : Pr) : Prop := (y.p = x.p ∧ y.a = x.a ∧ y.b = x.b ∧ y.c = x.c) ∧ FineK (kf + 1) y.val ∧ (y = x ∨ wy < j)
theorem SpI.same {x : Pr} {kf : Nat} {wy j : Int} (h : FineK kf x.val) : SpI x kf wy j x := ⟨⟨rfl, rfl, rfl, rfl⟩, h.up, .inl rfl⟩
theorem SpI.up {x y : Pr} {kf : Nat} {wy j j' : Int} (h : SpI x kf wy j y) (hj : j ≤ j') : SpI x kf wy j' y := ⟨h.1, h.2.1, h.2.2.imp id fun z => by omega⟩
theorem and2 (p q : Bool) : ((some p).bind fun c => if c = true then some q else some false) = some (p && q) := by cases p <;> rfl
theorem and3 (p q r : Bool) : ((some p).bind fun c => if c = true then ((some q).bind fun c => if c = true then some r else some false) else some false) = some (p && (q && r)) := by cases p <;> cases q <;> rfl
section
variable {P : Program} {w : World} {K : PySem.W.Frag} {mg : Str → Option Value} {base : Heap}
seal L2.PE L2.PT L2.PW L2.PA L2.PS L2.PSs L2.PC L2.PG L2.PGs L2.PI L2.PIfs L2.PO
theorem ok_spoil {k : Nat} {f : Addr} {fd : FuncData} (F : Fun K "_law_spoil" "_law_spoil" s_l_spoil f fd) (B : Bl K mg) (zmin : mg "min" = none) (C_l_bad_name : Cal P w K mg base k "_law_bad_name" ["_law_cell_here"] (S_l_bad_name K)) (C_l_bad_number : Cal P w K mg base k "_law_bad_number" ["_law_cell_here", "_law_many", "_law_some"] (S_l_bad_number K)) :
    FnOk P w K mg base CX0 (k + 1) f fd ["_law_parts", "_law_way", "_law_place", "_law_cell_here"] spSp := by
  refine F.ok sc_l_spoil (fun vs H Q E h => ?_) (fun cdv A outer s H vs Q E hr h => ?_)
  · obtain ⟨x, kf, wy, q, c, rfl, _⟩ := h
    rfl
  have nd := sc_l_spoil.nd
  refine ⟨_, pss_cons (ps_asg (pv 0) (pg_tup rfl (pgs_cons (pg_n 4 nd) (pgs_cons (pg_n 5 nd) (pgs_cons (pg_n 6 nd) pgs_nil)))))
    (pss_cons (ps_st 7 nd (pe_callB (c_lenK K) rfl B.len PySem.boot_len (pa_cons (pv 4) pa_nil)))
    (pss_cons (ps_if (pt_cmpR (op_eqv K Int hr) (pv 1) pe_int (nomark _)) (pss_cons (ps_expr (p_bm0K K PySem.F.plainAttrs_list PySem.F.slot_list_clear PySem.F.type_list_clear mt_clear (pv 4))) pss_nil) pss_nil)
    (pss_cons (ps_if (pt_cmpR (op_eqv K Int hr) (pv 1) pe_int (nomark _)) (pss_cons (ps_expr (p_bmK K PySem.F.plainAttrs_list PySem.F.slot_list_extend PySem.F.type_list_extend mt_extend (pv 4) (pa_cons (pe_comp (own := ["_law_k"]) (ix := []) rfl rfl rfl (pi_range1 rfl B.range (pa_cons (pe_op op_sub (pe_op op_mod (pv 3) pe_int) (pe_callB (call_min2 rfl) rfl zmin bt_min (pa_cons (pv 7) (pa_cons (pe_op op_mod (pv 3) pe_int) pa_nil)))) pa_nil)) (fun C s H fp => pg_name (i := 0) (show (["_law_k"] : List Str).Nodup from by decide +kernel) rfl (Or.inl rfl)) (fun C s H fp => pif_nil) (fun C s H fp => (pe_lst (pa_cons pe_int pa_nil)))) pa_nil))) pss_nil) pss_nil)
    (pss_cons (ps_if (PW.pt (pw_and (pt_cmpR op_gt (pv 1) pe_int (nomark _)) (pw_and (pt_cmpR op_lt (pv 1) pe_int (nomark _)) (pw_and1 (pt_cmpR op_gt (pv 7) pe_int (nomark _))))))
      (pss_cons (ps_st 8 nd (pe_ix (ixLK K) (pe_lst (pa_cons (pv 4) (pa_cons (pe_comp (own := ["_law_pair"]) (ix := []) rfl rfl rfl (i_listK K (pv 5)) (fun C s H fp => pg_name (i := 0) (show (["_law_pair"] : List Str).Nodup from by decide +kernel) rfl (Or.inl rfl)) (fun C s H fp => pif_nil) (fun C s H fp => (pe_ix (ixTK K) (pv 0) pe_int (fun _ _ => rfl)))) (pa_cons (pv 6) pa_nil)))) (pe_op op_sub (pv 1) pe_int) (fun _ _ => rfl)))
      (pss_cons (ps_if (pt_cmpR (op_neN hr) (pv 8) (pe_lst pa_nil) (nomark _))
        (pss_cons (ps_st 9 nd (pe_ix (ixLK K) (pv 8) (pe_op op_mod (pv 2) (pe_callB (c_lenK K) rfl B.len PySem.boot_len (pa_cons (pv 8) pa_nil))) (fun _ _ => rfl)))
        (pss_cons (ps_expr (p_bmK K PySem.F.plainAttrs_list PySem.F.slot_list_insert PySem.F.type_list_insert mt_insert (pv 9) (pa_cons (pe_op op_mod (pv 3) (pe_op op_add (pe_callB (c_lenK K) rfl B.len PySem.boot_len (pa_cons (pv 9) pa_nil)) pe_int)) (pa_cons (p_cal C_l_bad_number hr (pa_cons (pe_op op_fdiv (pv 3) pe_int) (pa_cons (pv 7) (pa_cons (pv 9) pa_nil)))) pa_nil)))) pss_nil)) pss_nil) pss_nil)) pss_nil)
    (pss_cons (ps_if (PW.pt (pw_and (pt_cmpR (op_eqv K Int hr) (pv 1) pe_int (nomark _)) (pw_and1 (pt_cmpR op_gt (pv 7) pe_int (nomark _))))) (pss_cons (ps_expr (p_bm0K K PySem.F.plainAttrs_list PySem.F.slot_list_clear PySem.F.type_list_clear mt_clear (pe_ix (ixLK K) (pv 4) (pe_op op_mod (pv 2) (pv 7)) (fun _ _ => rfl)))) pss_nil) pss_nil)
    (pss_cons (ps_if (PW.pt (pw_and (pt_cmpR (op_eqv K Int hr) (pv 1) pe_int (nomark _)) (pw_and1 (pt_cmpR (op_neN hr) (pv 5) (pe_lst pa_nil) (nomark _)))))
      (pss_cons (ps_st 10 nd (pe_op op_mod (pv 2) (pe_callB (c_lenK K) rfl B.len PySem.boot_len (pa_cons (pv 5) pa_nil))))
      (pss_cons (ps_st 11 nd (p_cal C_l_bad_name hr (pa_cons (pe_op op_fdiv (pv 3) pe_int) pa_nil)))
      (pss_cons (ps_if (pt_cmpR (op_eqv K Int hr) (pe_op op_mod (pv 3) pe_int) pe_int (nomark _)) (pss_cons (ps_st 11 nd (pe_ix (ixTK K) (pe_ix (ixLK K) (pv 5) (pe_op op_mod (pe_op op_fdiv (pv 3) pe_int) (pe_callB (c_lenK K) rfl B.len PySem.boot_len (pa_cons (pv 5) pa_nil))) (fun _ _ => rfl)) pe_int (fun _ _ => rfl))) pss_nil) pss_nil)
      (pss_cons (ps_asg (pe_tup (pa_cons (pv 11) (pa_cons (pe_ix (ixTK K) (pe_ix (ixLK K) (pv 5) (pv 10) (fun _ _ => rfl)) pe_int (fun _ _ => rfl)) pa_nil))) (pg_sub (pv 5) (pv 10) set_list)) pss_nil)))) pss_nil) pss_nil)))))), ?_⟩
  obtain ⟨x, kf, wy, q, c, rfl, hx, nd0, hf, hk, kk⟩ := h
  have cA : (x.a, HO.lst ((x.rs.map fun r => Ad.mk r.1).map fun z => V.ref z.a)) ∈ x.cells := cell_mem.mpr (.inr (.inl (by rw [List.map_map, List.map_map]; rfl)))
  have cF : (x.c, HO.lst ((x.fs.map fun r => Ad.mk r.1).map fun z => V.ref z.a)) ∈ x.cells := cell_mem.mpr (.inr (.inr (.inr (.inl (by rw [List.map_map, List.map_map]; rfl)))))
  have la := hf.la
  have lb := hf.lb
  have lA : (x.rs.map fun r => Ad.mk r.1).length = x.rs.length := List.length_map _
  have lv : x.val.a.length = x.rs.length := List.length_map _
  have lw : x.val.b.length = x.ms.length := List.length_map _
  refine sna_app (B := ⟨fun _ => none, fun b => if b ∈ x.cells.map (·.1) then none else H b⟩) (G := fun _ => none) (sl := ([.ob true x, .fz false wy, .fz false q, .fz false c, .un, .un, .un, .un, .un, .un, .un, .un] : List (Slot K))) (L := spL K wy q c x) (P := SpI x kf wy 7) ?_ ⟨fun _ => none, x.cells ++ [], .refl _, ⟨fun b o e => (by cases e), fun b o e => ?_, fun b o e => (by cases e), fun y hy => ⟨rfl, ?_, ?_⟩, ?_⟩, .ob ⟨rfl, rfl⟩ (.fz rfl (.fz rfl (.fz rfl (.un (.un (.un (.un (.un (.un (.un (.un .nil)))))))))))⟩ ?_
  · refine sna_seq (sna_unp (n := true) (x := x) rfl rfl rfl (fun _ => rfl) rfl (fun _ _ => rfl) rfl) fun _ _ => ?_
    refine sna_seq (P := fun z : Int => z = (((x.rs.map fun r => Ad.mk r.1).length : Nat) : Int)) ((sn_set true 7 rfl rfl (Ex.sc (md := .hp) (ex_len (ex_adL (n := true) (x := x) (j := 0) (as := x.rs.map fun r : Addr × List Mx => Ad.mk r.1) rfl rfl cA)))).sna rfl rfl) fun z hz => ?_
    subst hz
    refine sna_seq (L := spL K wy q c x) (P := SpI x kf wy 1) (sna_if (b := decide (wy = 0)) (et_test (md := .hp) (ex_eqv (ex_varS 1 rfl) (ex_int 0))) (fun hb => ?_) (fun hb => sna_nil x (.same hf) (.refl _))) fun y hy => ?_
    · refine sna_seq (sna_clr (n := true) (x := x) rfl rfl rfl) fun y hy => sna_nil y ?_ (.refl _)
      subst hy
      exact ⟨⟨rfl, rfl, rfl, rfl⟩, ⟨Nat.zero_le _, hf.up.lb, hf.up.lc, (fun r hr => by cases hr), hf.up.rb, hf.up.rc⟩, .inr (by have := of_decide_eq_true hb; omega)⟩
    refine sna_seq (L := spL K wy q c x) (P := SpI x kf wy 2) (sna_if (b := decide (wy = 1)) (et_test (md := .hp) (ex_eqv (ex_varS 1 rfl) (ex_int 1))) (fun hb => ?_) (fun hb => sna_nil y (hy.up (by decide)) (.refl _))) fun y hy => ?_
    · have e1 : wy = 1 := of_decide_eq_true hb
      rw [hy.2.2.resolve_right (by omega)]
      obtain ⟨E, hE⟩ : ∃ E, E = c % 65 - min (((x.rs.map fun r => Ad.mk r.1).length : Nat) : Int) (c % 65) := ⟨_, rfl⟩
      refine sna_seq (sna_ext (n := true) (x := x) (e := E) rfl rfl rfl (Ex.to (ex_sub (ex_mod (ex_varS 3 rfl) (ex_int 65)) (ex_min2 (ex_varS 7 rfl) (ex_mod (ex_varS 3 rfl) (ex_int 65)))) (by rw [hE]; rfl)) (by omega) (by omega) (by omega)) fun y hy => sna_nil y ?_ (.refl _)
      obtain ⟨ps, hp, rfl⟩ := hy
      refine ⟨⟨rfl, rfl, rfl, rfl⟩, ⟨?_, hf.up.lb, hf.up.lc, fun r hr => ?_, hf.up.rb, hf.up.rc⟩, .inr (by omega)⟩
      · show ((x.rs ++ ps.map fun q => (q, [Mx.mi 0])).map (·.2)).length ≤ _
        rw [List.length_map, List.length_append, List.length_map]
        omega
      · have hr : r ∈ (x.rs ++ ps.map fun q => (q, [Mx.mi 0])).map (·.2) := hr
        rw [List.map_append] at hr
        rcases List.mem_append.mp hr with z | z
        · exact hf.up.ra r z
        · obtain ⟨u, hu, rfl⟩ := List.mem_map.mp z
          obtain ⟨v, hv, rfl⟩ := List.mem_map.mp hu
          exact ⟨by show 1 ≤ _; omega, fun y hy => by rw [List.mem_singleton.mp hy]; exact big_mx (by decide)⟩
    refine sna_seq (L := spL K wy q c x) (P := SpI x kf wy 5) (sna_if (Et.to (et_and (et_test (md := .hp) (ex_gt (ex_varS 1 rfl) (ex_int 1))) (et_and (et_test (md := .hp) (ex_lt (ex_varS 1 rfl) (ex_int 5))) (et_test (md := .hp) (ex_gt (ex_varS 7 rfl) (ex_int 0))))) (and3 _ _ _)) (fun hb => ?_) (fun hb => sna_nil y (hy.up (by decide)) (.refl _))) fun y hy => ?_
    · simp only [Bool.and_eq_true, decide_eq_true_eq] at hb
      obtain ⟨b1, b2, b3⟩ := hb
      rw [hy.2.2.resolve_right (by omega)]
      obtain ⟨L, hL, hrw⟩ : ∃ L : List Ad, atI [x.rs.map (fun r => Ad.mk r.1), x.ms.map (fun q => Ad.mk q.2.2.1), x.fs.map (fun r => Ad.mk r.1)] (wy - 2) = some L ∧ ∀ r ∈ L, RowG kf x r := by
        rcases (by omega : wy = 2 ∨ wy = 3 ∨ wy = 4) with e | e | e
        · subst e; exact ⟨_, rfl, row_rs hf⟩
        · subst e; exact ⟨_, rfl, row_ms hf⟩
        · subst e; exact ⟨_, rfl, row_fs hf⟩
      refine sna_seq (sna_setH (a := L) 8 rfl rfl (Ex.to (ex_ix (eo_lst (el_cons (ex_adL (n := true) (x := x) (j := 0) (as := x.rs.map fun r : Addr × List Mx => Ad.mk r.1) rfl rfl cA) (el_cons (eo_mk1 (n := true) (x := x) rfl rfl (by omega)).ex (el_cons (ex_adL (n := true) (x := x) (j := 0) (as := x.fs.map fun r : Addr × List Mx => Ad.mk r.1) rfl rfl cF) el_nil))) (fun a h => Nat.le_trans ((el_len (el_len (el_len el_len0))) a h) (by decide))).ex (ex_sub (ex_varS 1 rfl) (ex_int 2))) hL)) fun _ _ => ?_
      refine sna_seq (L := spL K wy q c x) (P := SpI x kf wy 5) (sna_if (b := !L.isEmpty) (et_test (md := .hp) (ex_nilC (neg := true) (ex_varH 8 rfl))) (fun hb => ?_) (fun hb => sna_nil x (.same hf) lea)) fun y hy => sna_nil y hy (.refl _)
      have ne : L ≠ [] := by rintro rfl; cases hb
      obtain ⟨jj, r, ej, er, ea⟩ := at_mod (q := q) ne
      obtain ⟨hrow, xs, hc, xl, xf⟩ := hrw r (List.mem_of_getElem? er)
      have lL : 0 < (L.length : Int) := by have := List.length_pos_iff.mpr ne; omega
      refine sna_seq (P := fun z : Ad => z = r) ((sn_set true 9 rfl rfl (Ex.sc (md := .hp) (Ex.to (ex_ix (ex_varH 8 rfl) (ex_mod (ex_varS 2 rfl) (ex_len (ex_varH 8 rfl)))) (by show (modM q (L.length : Int)).bind (fun i => atI L i) = _; rw [mod_eq lL]; exact ea)))).sna rfl rfl) fun z hz => ?_
      subst hz
      refine sna_pre (sl2 := [.ob true x, .fz false wy, .fz false q, .fz false c, .fz true (Ad.mk x.a), .fz true (Ad.mk x.b), .fz true (Ad.mk x.c), .fz true (((x.rs.map fun r => Ad.mk r.1).length : Nat) : Int), .un, .fz true (Ad.mk z.a), .un, .un]) lea ?_
      obtain ⟨y0, ey, fy⟩ := badNum (c / 7) (((x.rs.map fun r => Ad.mk r.1).length : Nat) : Int) xs (by omega) (by omega) xf
      have j0 := Int.emod_nonneg c (show (xs.length : Int) + 1 ≠ 0 by omega)
      have j1 := Int.emod_lt_of_pos c (show 0 < (xs.length : Int) + 1 by omega)
      refine sna_seq (sna_ins (n := true) (x := x) (r := z.a) (xs := xs) (j := c % ((xs.length : Int) + 1)) (y := y0) rfl rfl rfl hrow hc (Ex.to (ex_mod (ex_varS 3 rfl) (ex_add (ex_len (ex_adR (n := true) (x := x) (j := 0) rfl rfl hc)) (ex_int 1))) (mod_eq (by omega))) j0 (by omega) (by omega) (Ex.to (ex_call (ea_cons (Ex.sc (md := .hp) (ex_div (ex_varS 3 rfl) (ex_int 7))) (ea_cons (Ex.sc (md := .hp) (ex_varS 7 rfl)) (ea_cons (ex_adR (n := true) (x := x) (j := 0) rfl rfl hc) ea_nil)))) ey)) fun y hy => sna_nil y ?_ lea
      subst hy
      refine ⟨⟨rfl, rfl, rfl, rfl⟩, fine_upd hf _ (by rw [insL_len (by omega)]; omega) (fun v hv => ?_), .inr (by omega)⟩
      unfold insL at hv
      rcases List.mem_append.mp hv with z | z
      · exact xf v (List.take_subset _ _ z)
      · rcases List.mem_cons.mp z with e | z
        · rw [e]; exact fy
        · exact xf v (List.drop_subset _ _ z)
    refine sna_seq (L := spL K wy q c x) (P := SpI x kf wy 6) (sna_if (Et.to (et_and (et_test (md := .hp) (ex_eqv (ex_varS 1 rfl) (ex_int 5))) (et_test (md := .hp) (ex_gt (ex_varS 7 rfl) (ex_int 0)))) (and2 _ _)) (fun hb => ?_) (fun hb => sna_nil y (hy.up (by decide)) (.refl _))) fun y hy => ?_
    · simp only [Bool.and_eq_true, decide_eq_true_eq] at hb
      obtain ⟨b1, b2⟩ := hb
      rw [hy.2.2.resolve_right (by omega)]
      have ne : x.rs ≠ [] := fun e => by rw [lA, e] at b2; cases b2
      obtain ⟨jj, r, ej, er, ea⟩ := at_mod (q := q) ne
      refine sna_seq (sna_clrR (n := true) (x := x) (k := jj) rfl rfl rfl er (Ex.to (ex_mod (ex_varS 2 rfl) (ex_varS 7 rfl)) ((mod_eq b2).trans (by rw [lA, ej])))) fun y hy => sna_nil y ?_ (.refl _)
      subst hy
      exact ⟨⟨rfl, rfl, rfl, rfl⟩, fine_upd hf _ (Nat.zero_le _) (fun v hv => by cases hv), .inr (by omega)⟩
    refine sna_seq (L := spL K wy q c x) (P := SpI x kf wy 7) (sna_if (Et.to (et_and (et_test (md := .hp) (ex_eqv (ex_varS 1 rfl) (ex_int 6))) (et_test (md := .hp) (ex_nilC (neg := true) (ex_adM (n := true) (x := y) (j := 0) (m := true) rfl (by rw [hy.1.2.2.1]; rfl))))) (and2 _ _)) (fun hb => ?_) (fun hb => sna_nil y (hy.up (by decide)) (.refl _))) fun y hy => sna_nil y hy (.refl _)
    rw [Bool.and_eq_true, decide_eq_true_eq] at hb
    obtain ⟨b1, b2⟩ := hb
    have yx := hy.2.2.resolve_right (by omega)
    rw [yx] at b2 ⊢
    have ne : (x.ms.map fun q => (q.2.1, Ad.mk q.2.2.1)) ≠ [] := fun e => by rw [e] at b2; cases b2
    have lm : (x.ms.map fun q => (q.2.1, Ad.mk q.2.2.1)).length = x.ms.length := List.length_map _
    have lL : 0 < ((x.ms.map fun q => (q.2.1, Ad.mk q.2.2.1)).length : Int) := by have := List.length_pos_iff.mpr ne; omega
    obtain ⟨jj, r, ej, er, ea⟩ := at_mod (q := q) ne
    obtain ⟨j2, r2, ej2, er2, ea2⟩ := at_mod (q := c / 2) ne
    refine sna_seq (P := fun z : Int => z = (jj : Int)) ((sn_set true 10 rfl rfl (Ex.sc (md := .hp) (Ex.to (ex_mod (ex_varS 2 rfl) (ex_len (ex_adM (n := true) (x := x) (j := 0) rfl rfl))) ((mod_eq lL).trans (by rw [ej]))))).sna rfl rfl) fun z hz => ?_
    subst hz
    obtain ⟨nm, en, fn⟩ := badName (c / 2)
    refine sna_seq (P := fun z : Str => z = nm) ((sn_set true 11 rfl rfl (Ex.sc (md := .hp) (Ex.to (ex_call (as := fun a : Int × Unit => ([.fz false a.1] : List (Slot K))) (f := fun a => p_l_bad_name a.1) (ea_cons (Ex.sc (md := .hp) (ex_div (ex_varS (a := c) 3 rfl) (ex_int 2))) ea_nil)) en))).sna rfl rfl) fun z hz => ?_
    subst hz
    refine sna_seq (L := fun u : Str => ([.ob true x, .fz false wy, .fz false q, .fz false c, .fz true (Ad.mk x.a), .fz true (Ad.mk x.b), .fz true (Ad.mk x.c), .fz true (((x.rs.map fun r => Ad.mk r.1).length : Nat) : Int), .un, .un, .fz true (jj : Int), .fz true u] : List (Slot K))) (P := NmF) (sna_if (b := decide (c % 2 = 1)) (et_test (md := .hp) (ex_eqv (ex_mod (ex_varS 3 rfl) (ex_int 2)) (ex_int 1))) (fun hb => ?_) (fun hb => sna_nil z fn (.refl _))) fun u hu => ?_
    · refine sna_seq (P := NmF) ((sn_set true 11 rfl rfl (Ex.sc (md := .hp) (Ex.to (ex_fst (ex_ix (ex_adM (n := true) (x := x) (j := 0) rfl rfl) (ex_mod (ex_div (ex_varS 3 rfl) (ex_int 2)) (ex_len (ex_adM (n := true) (x := x) (j := 0) rfl rfl)))) (ex_int 0)) (b := r2.1) ?_))).sna rfl ?_) fun u hu => sna_nil u hu (.refl _)
      · show ((modM (c / 2) _).bind fun i => atI _ i).bind _ = _
        rw [mod_eq lL]
        show (atI _ _).bind _ = _
        rw [ea2]
        rfl
      · obtain ⟨u, hu, rfl⟩ := List.mem_map.mp (List.mem_of_getElem? er2)
        exact (hf.rb (u.2.1, u.2.2.2) (List.mem_map.mpr ⟨u, hu, rfl⟩)).1
    rw [List.getElem?_map] at er
    cases em : x.ms[jj]? with
    | none => rw [em] at er; cases er
    | some m =>
      rw [em] at er
      have er : some (m.2.1, Ad.mk m.2.2.1) = some r := er
      cases er
      refine sna_seq (sna_mk (n := true) (x := x) (q := m) (w := u) rfl rfl rfl rfl em (ex_varS 11 rfl) (Ex.sc (md := .hp) (Ex.to (ex_snd (ex_ix (ex_adM (n := true) (x := x) (j := 0) rfl rfl) (ex_varS 10 rfl)) (ex_int 1)) (by show (atI _ (jj : Int)).bind _ = _; rw [ej, ea]; rfl)))) fun y hy => sna_nil y ?_ lea
      obtain ⟨a, rfl⟩ := hy
      refine ⟨⟨rfl, rfl, rfl, rfl⟩, ⟨hf.up.la, ?_, hf.up.lc, hf.up.ra, fun p hp => ?_, hf.up.rc⟩, .inr (by omega)⟩
      · show ((x.ms.set jj (a, u, m.2.2)).map _).length ≤ 4
        rw [List.length_map, List.length_set]
        omega
      · obtain ⟨v, hv, rfl⟩ := List.mem_map.mp hp
        rcases List.mem_or_eq_of_mem_set hv with z | z
        · exact hf.up.rb (v.2.1, v.2.2.2) (List.mem_map.mpr ⟨v, z, rfl⟩)
        · subst z
          exact ⟨hu, (hf.up.rb (m.2.1, m.2.2.2) (List.mem_map.mpr ⟨m, List.mem_of_getElem? em, rfl⟩)).2⟩
  · show H b = some o
    have e : (if b ∈ x.cells.map (·.1) then none else H b) = some o := e
    split at e
    · cases e
    · exact e
  · show (if y.1 ∈ x.cells.map (·.1) then none else H y.1) = none
    rw [List.append_nil] at hy
    rw [if_pos (List.mem_map.mpr ⟨y, hy, rfl⟩)]
  · rw [List.append_nil] at hy
    exact hx y hy
  · rw [List.append_nil]
    exact nd0
  · rintro y ⟨⟨p1, _⟩, hy, _⟩ σ' H' ⟨F', O', g, z⟩
    obtain ⟨_, cs, ndy⟩ := z.cell (i := 0) (n := true) (x := y) rfl
    refine kk y H' hy ⟨p1, ndy, fun b o e off => z.1.h0 b o ?_, fun v hv => ⟨cs v hv, ?_⟩⟩
    · show (if b ∈ x.cells.map (·.1) then none else H b) = some o
      rw [if_neg fun m => ?_]
      · exact e
      · obtain ⟨v, hv, ev⟩ := List.mem_map.mp m
        exact off v hv ev
    · obtain ⟨O1, Oc, O2, v', e, h1, ⟨r1, rfl⟩, _⟩ := z.2.ob_at (i := 0) (n := true) (a := y) rfl
      have h0 := (z.1.fo v (by rw [e]; exact List.mem_append_right _ (List.mem_append_left _ hv))).2.1
      have h0 : (if v.1 ∈ x.cells.map (·.1) then none else H v.1) = none := h0
      split at h0
      · rename_i m
        obtain ⟨u, hu, eu⟩ := List.mem_map.mp m
        exact .inl ⟨u, hu, eu⟩
      · exact .inr h0
end
end Ts
set_option maxHeartbeats 40000000
namespace Ts
open PySem L2
section
variable {K : PySem.W.Frag} {B : Bs} {sl : List (Slot K)} {p : Addr} {md : Md} {t : TE}
theorem eyn_lst3 {n : Bool} {L : List Int → List (Slot K)} {f : List Int → Option (Int × List Int)} {ws : List Int} (hL : ∀ s, ∃ (i : Nat) (ws : List Int), (L s)[i]? = some (.nu (RL.mk (p := p) ws)) ∧ ((L s).set i .un).all (fun s => !isHs s && !isNu s) = true)
    (h : ∀ ws, EyN B p (L ws) md t L (f ws)) (e : sl = L ws := by rfl) : EyN B p sl (mdb n) (tLst (tCons t (tCons t (tCons t tNil)))) L ((f ws).bind fun a => (f a.2).bind fun b => (f b.2).bind fun c => some ([a.1, b.1, c.1], c.2)) := fun c s hc F O H σ Q z k => by
  subst e
  obtain ⟨⟨a, s1⟩, e1, hc⟩ := opt_get hc
  obtain ⟨⟨b, s2⟩, e2, hc⟩ := opt_get hc
  obtain ⟨⟨d, s3⟩, e3, hc⟩ := opt_get hc
  obtain ⟨rfl, rfl⟩ := Prod.mk.inj (Option.some.inj (show some ([a, b, d], s3) = some (c, s) from hc))
  refine h ws a s1 e1 F O H σ _ z fun v F1 H1 f1 z1 r1 => ?_
  refine h s1 b s2 e2 F1 O H1 σ _ z1 fun u F2 H2 f2 z2 r2 => ?_
  refine h s2 d s3 e3 F2 O H2 σ _ z2 fun x F3 H3 f3 z3 r3 => ?_
  obtain ⟨i1, w1, j1, j2⟩ := hL s1
  obtain ⟨_, hp1, _⟩ := z1.chgN j1 j2
  obtain ⟨i2, w2, k1, k2⟩ := hL s2
  obtain ⟨_, hp2, _⟩ := z2.chgN k1 k2
  obtain ⟨i3, w3, l1, l2⟩ := hL s3
  obtain ⟨_, hp3, _⟩ := z3.chgN l1 l2
  have r1 : v = .int a := r1
  have r2 : u = .int b := r2
  have r3 : x = .int d := r3
  subst r1 r2 r3
  refine ⟨by show 3 ≤ sizeLine; decide, fun q hq => ?_⟩
  have g3 := Grow.new z3.1 hq (.lst [.int a, .int b, .int d])
  have fr3 := f3.trans (.of g3) (by rw [hp3]; intro q; cases q)
  exact k _ _ _ (f1.trans (f2.trans fr3 (by rw [hp2]; intro q; cases q)) (by rw [hp1]; intro q; cases q)) (z3.grow g3) ⟨q, _, rfl, reg_upd z3.1 hq _, ⟨rfl, rfl, rfl, trivial⟩⟩
end
end Ts
namespace Ts
open PySem L2
theorem w_cellR (ws : List Int) : W (p_l_cell ws) fun _ => True := by
  unfold p_l_cell
  rw [W_ite]
  refine ⟨fun _ => W_some.mpr trivial, fun h => ?_⟩
  cases ws with
  | nil => exact absurd rfl h
  | cons x r =>
    rw [List.getLast?_cons]
    exact W_some.mpr trivial
theorem W_mapY {α β : Type} {f : List Int → α → Option (β × List Int)} {R : β → Prop} : ∀ (xs : List α) (ws : List Int), (∀ ws, ∀ x ∈ xs, W (f ws x) fun r => R r.1) → W (mapY f ws xs) fun r => r.1.length = xs.length ∧ ∀ y ∈ r.1, R y
  | [], ws, _ => W_some.mpr ⟨rfl, fun y h => by cases h⟩
  | x :: xs, ws, h => by
    unfold mapY
    rw [W_bind]
    refine W_le (h ws x List.mem_cons_self) fun r hr => ?_
    rw [W_bind]
    refine W_le (W_mapY xs r.2 fun w y hy => h w y (List.mem_cons_of_mem _ hy)) fun q hq => ?_
    rw [W_some]
    refine ⟨by rw [List.length_cons, List.length_cons, hq.1], fun y hy => ?_⟩
    rcases List.mem_cons.mp hy with rfl | hy
    · exact hr
    · exact hq.2 y hy
theorem cut40 (xs : List Int) : (cutL xs none (some (40 : Int))).length ≤ 40 := by
  unfold cutL
  rw [List.length_take, show (40 : Int) = ((40 : Nat) : Int) from rfl, HT.sIx_nat]
  omega
theorem cutL_le {α : Type} (xs : List α) (lo hi : Option Int) : (cutL xs lo hi).length ≤ xs.length := by
  unfold cutL
  rw [List.length_take, List.length_drop]
  omega
theorem cutL_mem {α : Type} {xs : List α} {lo hi : Option Int} {x : α} (h : x ∈ cutL xs lo hi) : x ∈ xs := List.drop_subset _ _ (List.take_subset _ _ h)
theorem W_catS {α : Type} {xs ys : List α} {Q : List α → Prop} (h : xs.length + ys.length ≤ 1000) (q : Q (xs ++ ys)) : W (catM xs ys) Q := ⟨_, if_pos (Nat.le_of_lt (Nat.lt_of_le_of_lt h cap1k)), q⟩
def RwI (r : List Int) : Prop := r.length ≤ 2 ∧ ∀ z ∈ r, 0 ≤ z ∧ z < 60
theorem w_row (c x m : Int) (h1 : 1 ≤ m) (h2 : m ≤ 60) : W ((((modM c m).bind fun a22 => some (a22 :: []))).bind fun a28 => (((((divM c (64 : Int)).bind fun a23 => some (a23 + x)).bind fun a24 => modM a24 m).bind fun a25 => some (a25 :: [])).bind fun xs => compL (fun (x26 : Int) => (modM c m).bind fun b27 => some (!decide (x26 = b27))) (fun (x26 : Int) => some x26) xs).bind fun b29 => catM a28 b29) RwI := by
  have hm : 0 < m := by omega
  rw [W_bind, W_bind, W_mod]
  refine ⟨hm, ?_⟩
  rw [W_some, W_bind, W_bind, W_bind, W_bind, W_bind, W_div]
  refine ⟨by decide, ?_⟩
  rw [W_some, W_mod]
  refine ⟨hm, ?_⟩
  rw [W_some, show (fun (x26 : Int) => (modM c m).bind fun b27 => some (!decide (x26 = b27))) = fun x26 => some (!decide (x26 = c % m)) from funext fun x => by rw [mod_eq hm]; rfl, W_comp]
  refine ⟨Nat.lt_of_le_of_lt (show 1 ≤ 1000 by decide) cap1k, ?_⟩
  have z0 := Int.emod_nonneg c (show m ≠ 0 by omega)
  have z1 := Int.emod_lt_of_pos c hm
  have u0 := Int.emod_nonneg (c / 64 + x) (show m ≠ 0 by omega)
  have u1 := Int.emod_lt_of_pos (c / 64 + x) hm
  have lf : (([(c / 64 + x) % m].filter fun x26 => !decide (x26 = c % m)).map fun x26 => x26).length ≤ 1 := by
    rw [List.length_map]
    exact List.length_filter_le _ _
  refine W_catS (by rw [List.length_singleton]; omega) ⟨by rw [List.length_append, List.length_singleton]; omega, fun z hz => ?_⟩
  rcases List.mem_append.mp hz with q | q
  · rw [List.mem_singleton.mp q]
    omega
  · obtain ⟨v, hv, rfl⟩ := List.mem_map.mp q
    rw [List.mem_singleton.mp (List.mem_filter.mp hv).1]
    omega
theorem nm3_sm : ∀ x ∈ (["wet", "a", "darkdark"] : List Str), x.length ≤ 50 ∧ ∀ c ∈ x.cps.toList, c < 1000 := by decide +kernel
theorem w_mrow (x m : Int) (h1 : 1 ≤ m) (h2 : m ≤ 60) : W ((((divM m (3 : Int)).bind fun b2 => some ((1 : Int) + b2)).bind fun b3 => some (cutL [(0 : Int), m - (1 : Int)] none (some b3))).bind fun xs => compL (fun (_ : Int) => some (decide (x < (2 : Int)))) (fun (x4 : Int) => some x4) xs) RwI := by
  rw [W_bind, W_bind, W_bind, W_div]
  refine ⟨by decide, ?_⟩
  rw [W_some, W_some]
  have l2 := cutL_le [(0 : Int), m - (1 : Int)] none (some (1 + m / 3))
  have l2 : (cutL [(0 : Int), m - (1 : Int)] none (some (1 + m / 3))).length ≤ 2 := l2
  rw [W_comp (fun _ => decide (x < 2)) (fun x => x)]
  refine ⟨Nat.lt_of_le_of_lt (show _ ≤ 1000 by omega) cap1k, ?_, fun z hz => ?_⟩
  · rw [List.length_map]
    exact Nat.le_trans (List.length_filter_le _ _) l2
  · obtain ⟨v, hv, rfl⟩ := List.mem_map.mp hz
    have := cutL_mem (List.mem_filter.mp hv).1
    simp only [List.mem_cons, List.not_mem_nil, or_false] at this
    rcases this with e | e <;> omega
theorem RwI.mx {r : List Int} (h : RwI r) : (r.map Mx.mi).length ≤ 5 + 0 ∧ ∀ x ∈ r.map Mx.mi, MxF x := ⟨by rw [List.length_map]; have := h.1; omega, fun x hx => by
  obtain ⟨z, hz, rfl⟩ := List.mem_map.mp hx
  have := h.2 z hz
  exact big_mx (by omega)⟩
theorem fine0 {s : List (List Int)} {m : List (Str × List Int)} {f : List (List Int)} (h1 : s.length ≤ 60) (h2 : ∀ r ∈ s, RwI r) (h3 : m.length ≤ 3) (h4 : ∀ q ∈ m, NmF q.1 ∧ RwI q.2) (h5 : f.length ≤ 3) (h6 : ∀ r ∈ f, RwI r) : FineK 0 (prtOf s m f) := by
  refine ⟨?_, ?_, ?_, fun r hr => ?_, fun q hq => ?_, fun r hr => ?_⟩
  · show (s.map _).length ≤ 60 + 65 * 0
    rw [List.length_map]
    omega
  · show (m.map _).length ≤ 4
    rw [List.length_map]
    omega
  · show (f.map _).length ≤ 4
    rw [List.length_map]
    omega
  · obtain ⟨v, hv, rfl⟩ := List.mem_map.mp hr
    exact (h2 v hv).mx
  · obtain ⟨v, hv, rfl⟩ := List.mem_map.mp hq
    exact ⟨(h4 v hv).1, (h4 v hv).2.mx⟩
  · obtain ⟨v, hv, rfl⟩ := List.mem_map.mp hr
    exact (h6 v hv).mx
theorem FineK.fine {k : Nat} {a : Prt} (h : FineK k a) (hk : k ≤ 5) : Fine a := ⟨by have := h.la; omega, by have := h.lb; omega, by have := h.lc; omega, fun r hr => ⟨by have := (h.ra r hr).1; omega, (h.ra r hr).2⟩, fun m hm => ⟨(h.rb m hm).1, by have := (h.rb m hm).2.1; omega, (h.rb m hm).2.2⟩, fun r hr => ⟨by have := (h.rc r hr).1; omega, (h.rc r hr).2⟩⟩
section
variable {K : PySem.W.Frag} {B : Bs} {sl sl2 : List (Slot K)} {t u : TS} {al : Bool} {β S : Type} [Rp K β] {r : Option β}
theorem sbW {L : S → List (Slot K)} {m : Option S} {P : S → Prop} (h1 : Sn B sl t L m) (w : W m P) (h2 : ∀ s, P s → SB B (L s) u al r) : SB B sl (tSeq t u) al r := fun c hc G D σ H q k => by
  obtain ⟨s, e, p⟩ := w
  exact h1 s e G _ σ H q fun σ' H' q' => h2 s p c hc G D σ' H' q' k
theorem sbN {L : S → List (Slot K)} {P : S → Prop} (h1 : SnA B sl t L P) (h2 : ∀ s, P s → SB B (L s) u al r) : SB B sl (tSeq t u) al r := fun c hc G D σ H q k => h1 G _ σ H q fun s hs σ' H' q' => h2 s hs c hc G D σ' H' q' k
theorem sbLe (le : Le sl sl2) (h : SB B sl2 t al r) : SB B sl t al r := fun c hc G D σ H q k => h c hc G D σ H (q.le le) k
end
section
variable {P : Program} {w : World} {K : PySem.W.Frag} {mg : Str → Option Value} {base : Heap}
seal L2.PE L2.PT L2.PW L2.PA L2.PS L2.PSs L2.PC L2.PG L2.PGs L2.PI L2.PIfs L2.PO
theorem sc_law : FnScope ["_law_script", "_law_rest", "_law_cell_here", "_law_many", "_law_spoils", "_law_steps", "_law_k", "_law_step", "_law_marks", "_law_fair", "_law_parts", "_law_spoil_here", "_law_due_here"] ["_law_script"] (defScope s_law) := fsc
abbrev S_law (K : PySem.W.Frag) : Sp := spF K false (fun a : Scr × Unit => ([.fz false a.1] : List (Slot K))) (fun _ => some true)
theorem ok_law {k : Nat} {f C : Addr} {cx : Fin 3 → Addr} {fd : FuncData} (F : Fun K "law" "law" s_law f fd) (B : Bl K mg) (zreversed : mg "reversed" = none) (C_l_cell : Cal P w K mg base k "_law_cell" ["_law_rest"] (S_l_cell K)) (C_l_spoil : Cal P w K mg base k "_law_spoil" ["_law_parts", "_law_way", "_law_place", "_law_cell_here"] spSp)
    (C_l_due : Cal P w K mg base k "_law_due" ["_law_parts"] (S_l_due K)) (C_l_got : Cal P w K mg base k "_law_got" ["_law_parts"] (S_l_got K C cx)) (C_l_caught : Cal P w K mg base k "_law_caught" ["_law_parts"] (S_l_got K C cx)) : FnOk P w K mg base CX0 (k + 1) f fd ["_law_script"] (S_law K) := by
  refine def_ok F sc_law (fun _ => rfl) (fun _ => rfl) fun cdv A outer s H E hr => ?_
  have nd := sc_law.nd
  refine ⟨_, (pss_cons (ps_st 1 nd (pe_comp (own := ["_law_cell_here"]) (ix := []) rfl rfl rfl (i_revK K zreversed (pa_cons (pe_slice (slLK K) (pv 0) po_none (po_some pe_int)) pa_nil)) (fun C s H fp => pg_name (i := 0) (show (["_law_cell_here"] : List Str).Nodup from by decide +kernel) rfl (Or.inl rfl)) (fun C s H fp => pif_nil) (fun C s H fp => pv 0)))
    (pss_cons (ps_st 2 nd (p_cal C_l_cell hr (pa_cons (pv 1) pa_nil)))
    (pss_cons (ps_st 3 nd (pe_op op_add pe_int (pe_op op_mod (pe_op op_fdiv (pv 2) pe_int) pe_int)))
    (pss_cons (ps_if (pt_cmpR (op_eqv K (Int) hr) (pe_op op_mod (pv 2) pe_int) pe_int (nomark _)) (pss_cons (ps_st 3 nd (pe_op op_add pe_int (pe_op op_mod (pe_op op_fdiv (pv 2) pe_int) pe_int))) pss_nil) pss_nil)
    (pss_cons (ps_comp (i := 4) (own := ["_law_k"]) (ix := [1]) nd rfl rfl rfl rfl rfl (pi_range1 rfl B.range (pa_cons pe_int pa_nil)) (fun C s H fp => pg_name (i := 0) (show (["_law_k", "_law_rest"] : List Str).Nodup from by decide +kernel) rfl (Or.inl rfl)) (fun C s H fp => pif_nil) (fun C s H fp => (pe_lst (pa_cons (p_cal C_l_cell hr (pa_cons (pv 1) pa_nil)) (pa_cons (p_cal C_l_cell hr (pa_cons (pv 1) pa_nil)) (pa_cons (p_cal C_l_cell hr (pa_cons (pv 1) pa_nil)) pa_nil))))))
    (pss_cons (ps_st 5 nd (pe_lst pa_nil))
    (pss_cons (ps_for PassesOwn.never rfl (pi_range1 rfl B.range (pa_cons (pv 3) pa_nil)) (pg_n 6 nd) (pss_cons (ps_st 7 nd (p_cal C_l_cell hr (pa_cons (pv 1) pa_nil))) (pss_cons (ps_expr (p_bmK K PySem.F.plainAttrs_list PySem.F.slot_list_append PySem.F.type_list_append mt_append (pv 5) (pa_cons (pe_op op_cat (pe_lst (pa_cons (pe_op op_mod (pv 7) (pv 3)) pa_nil)) (pe_comp (own := ["_law_other"]) (ix := [7, 3]) rfl rfl rfl (i_listK K (pe_lst (pa_cons (pe_op op_mod (pe_op op_add (pe_op op_fdiv (pv 7) pe_int) (pv 6)) (pv 3)) pa_nil))) (fun C s H fp => pg_name (i := 0) (show (["_law_other", "_law_step", "_law_many"] : List Str).Nodup from by decide +kernel) rfl (Or.inl rfl)) (fun C s H fp => pif_one (pt_cmpR (op_nev K (Int) hr) (pv 0) (pe_op op_mod (pv 1) (pv 2)) (nomark _))) (fun C s H fp => (pv 0)))) pa_nil))) pss_nil)))
    (pss_cons (ps_st 8 nd (pe_lst pa_nil))
    (pss_cons (ps_for PassesOwn.never rfl (pi_range1 rfl B.range (pa_cons (pe_op op_mod (pe_op op_fdiv (pv 2) pe_int) pe_int) pa_nil)) (pg_n 6 nd) (pss_cons (ps_expr (p_bmK K PySem.F.plainAttrs_list PySem.F.slot_list_append PySem.F.type_list_append mt_append (pv 8) (pa_cons (pe_tup (pa_cons (pe_ix (ixLK K) (pe_lst (pa_cons pe_str (pa_cons pe_str (pa_cons pe_str pa_nil)))) (pv 6) (fun _ _ => rfl)) (pa_cons (pe_comp (own := ["_law_other"]) (ix := [6]) rfl rfl rfl (i_listK K (pe_slice (slLK K) (pe_lst (pa_cons pe_int (pa_cons (pe_op op_sub (pv 3) pe_int) pa_nil))) po_none (po_some (pe_op op_add pe_int (pe_op op_fdiv (pv 3) pe_int))))) (fun C s H fp => pg_name (i := 0) (show (["_law_other", "_law_k"] : List Str).Nodup from by decide +kernel) rfl (Or.inl rfl)) (fun C s H fp => pif_one (pt_cmpR op_lt (pv 1) pe_int (nomark _))) (fun C s H fp => (pv 0))) pa_nil))) pa_nil))) pss_nil))
    (pss_cons (ps_comp (i := 9) (own := ["_law_step"]) (ix := [3]) nd rfl rfl rfl rfl rfl (i_listK K (pe_slice (slLK K) (pe_ix (ixLK K) (pv 4) pe_int (fun _ _ => rfl)) po_none (po_some (pe_op op_mod (pe_op op_fdiv (pv 2) pe_int) pe_int)))) (fun C s H fp => pg_name (i := 0) (show (["_law_step", "_law_many"] : List Str).Nodup from by decide +kernel) rfl (Or.inl rfl)) (fun C s H fp => pif_nil) (fun C s H fp => (pe_lst (pa_cons (pe_op op_mod (pv 0) (pv 1)) pa_nil))))
    (pss_cons (ps_st 10 nd (pe_tup (pa_cons (pv 5) (pa_cons (pv 8) (pa_cons (pv 9) pa_nil)))))
    (pss_cons (ps_for PassesOwn.never rfl (i_listK K (pv 4)) (pg_n 11 nd) (pss_cons (ps_expr (p_cal C_l_spoil hr (pa_cons (pv 10) (pa_cons (pe_op op_mod (pe_ix (ixLK K) (pv 11) pe_int (fun _ _ => rfl)) pe_int) (pa_cons (pe_ix (ixLK K) (pv 11) pe_int (fun _ _ => rfl)) (pa_cons (pe_ix (ixLK K) (pv 11) pe_int (fun _ _ => rfl)) pa_nil)))))) pss_nil))
    (pss_cons (ps_st 12 nd (p_cal C_l_due hr (pa_cons (pv 10) pa_nil)))
    (pss_cons (ps_ret (pe_and (pe_cmpR (op_eqv K (Str) hr) (p_cal C_l_got hr (pa_cons (pv 10) pa_nil)) (pv 12) (nomark _)) (pe_one (pe_cmpR (op_eqv K (Str) hr) (p_cal C_l_caught hr (pa_cons (pv 10) pa_nil)) (pv 12) (nomark _))))) pss_nil)))))))))))))), ?_⟩
  rintro Fa ⟨q0, ⟨⟩⟩
  refine sbW (P := fun _ : List Int => True) (sn_own true 1 rfl rfl (eo_revM (eo_cutSc (ex_varF 0 rfl) (ex_int 40)).ex)) (show W (revM (cutL q0.ns none (some (40 : Int)))) _ from ⟨_, if_pos (Nat.lt_of_le_of_lt (Nat.le_trans (cut40 _) (by decide)) cap1k), trivial⟩) fun ws _ => sb_at [.fz false q0, .ow true ws, .un, .un, .un, .un, .un, .un, .un, .un, .un, .un, .un] (sb_openR 1 rfl rfl fun p => ?_)
  refine sbW (sn_setY true 2 (fun _ => ⟨_, rfl, rfl⟩) (EyN.ey (eyn_callN 1 rfl rfl ea_nil))) (w_cellR ws) fun ce _ => sb_at [.fz false q0, .nu (RL.mk (p := p) ce.2), .fz true ce.1, .un, .un, .un, .un, .un, .un, .un, .un, .un, .un] ?_
  refine sbW (P := fun z : Int => 1 ≤ z ∧ z ≤ 60) (sn_set true 3 rfl rfl (Ex.sc (md := .hp) (ex_add (ex_int 1) (ex_mod (ex_div (ex_varS 2 rfl) (ex_int 8)) (ex_int 6))))) ?_ fun m3 h3 => sb_at [.fz false q0, .nu (RL.mk (p := p) ce.2), .fz true ce.1, .fz true m3, .un, .un, .un, .un, .un, .un, .un, .un, .un] ?_
  · show W (((divM ce.1 (8 : Int)).bind fun a => modM a (6 : Int)).bind fun b => some ((1 : Int) + b)) _
    rw [div_eq (by decide)]
    show W ((modM (ce.1 / 8) (6 : Int)).bind _) _
    rw [mod_eq (by decide)]
    exact W_some.mpr (by omega)
  refine sbW (P := fun z : Int => 1 ≤ z ∧ z ≤ 60) (sn_if (et_test (md := .hp) (ex_eqv (ex_mod (ex_varS 2 rfl) (ex_int 8)) (ex_int 1))) (sn_cons (sn_set true 3 rfl rfl (Ex.sc (md := .hp) (ex_add (ex_int 58) (ex_mod (ex_div (ex_varS 2 rfl) (ex_int 8)) (ex_int 3))))) (fun many9 => (sn_nil (fun s8 : Int => ([.fz false q0, .nu (RL.mk (p := p) ce.2), .fz true ce.1, .fz true s8, .un, .un, .un, .un, .un, .un, .un, .un, .un] : List (Slot K))) many9 lea))) (sn_nil (fun s8 : Int => ([.fz false q0, .nu (RL.mk (p := p) ce.2), .fz true ce.1, .fz true s8, .un, .un, .un, .un, .un, .un, .un, .un, .un] : List (Slot K))) m3 lea)) ?_ fun m hm => sb_at [.fz false q0, .nu (RL.mk (p := p) ce.2), .fz true ce.1, .fz true m, .un, .un, .un, .un, .un, .un, .un, .un, .un] ?_
  · show W (((modM ce.1 (8 : Int)).bind fun a => some (decide (a = (1 : Int)))).bind fun b => if b = true then (((divM ce.1 (8 : Int)).bind fun a => modM a (3 : Int)).bind fun b => some ((58 : Int) + b)).bind fun z => some z else some m3) _
    rw [mod_eq (by decide)]
    show W (if decide (ce.1 % 8 = 1) = true then _ else _) _
    rw [W_ite]
    refine ⟨fun _ => ?_, fun _ => W_some.mpr h3⟩
    rw [div_eq (by decide)]
    show W (((modM (ce.1 / 8) (3 : Int)).bind _).bind _) _
    rw [mod_eq (by decide)]
    exact W_some.mpr (by omega)
  obtain ⟨m1, m60⟩ := hm
  refine sbW (P := fun r : List (List Int) × List Int => r.1.length = 2 ∧ ∀ y ∈ r.1, y.length = 3) (sn_setY true 4 (fun _ => ⟨_, rfl, rfl⟩) (EyN.ey (EoN.eyn (fun _ => ⟨1, _, rfl, rfl⟩) (eo_compY (n := true) (n' := true) (slI := fun w14 : List Int => ([.un, .nu (RL.mk (p := p) w14)] : List (Slot K))) (no := 1) (ix := [1]) 1 rfl rfl (compY0 rfl rfl) (ei_range (ex_int 2)) (fun w14 => tg_name 0 rfl rfl) (fun w14 x13 => et_if0) (fun w14 x13 => (eyn_lst3 (n := true) (md := .hp) (L := fun w15 => ([.fz true x13, .nu (RL.mk (p := p) w15)] : List (Slot K))) (f := fun w15 => p_l_cell w15) (ws := w14) (fun _ => ⟨1, _, rfl, rfl⟩) (fun w15 => (eyn_callN 1 rfl rfl ea_nil)))) (fun w14 x13 => (Le0.un (Le0.eq Le0.nil))) (fun w14 x13 => ⟨1, rfl, rfl⟩))))) ?_ fun sp hsp => sb_at [.fz false q0, .nu (RL.mk (p := p) sp.2), .fz true ce.1, .fz true m, .fz true sp.1, .un, .un, .un, .un, .un, .un, .un, .un] ?_
  · show W ((rangeM (2 : Int)).bind fun xs => compY (fun (w14 : List Int) (x13 : Int) => (p_l_cell w14).bind fun a => (p_l_cell a.2).bind fun b => (p_l_cell b.2).bind fun c => some ([a.1, b.1, c.1], c.2)) ce.2 xs) _
    rw [W_bind, W_range]
    refine ⟨by decide, ?_⟩
    unfold compY
    rw [if_pos (show (rng 2).length < cap from Nat.lt_of_le_of_lt (show (rng 2).length ≤ 1000 by decide) cap1k)]
    refine W_le (W_mapY (R := fun y : List Int => y.length = 3) _ _ fun ws x _ => ?_) fun r hr => hr
    rw [W_bind]
    refine W_le (w_cellR _) fun a _ => ?_
    rw [W_bind]
    refine W_le (w_cellR _) fun b _ => ?_
    rw [W_bind]
    exact W_le (w_cellR _) fun c _ => W_some.mpr rfl
  refine sbW (P := fun x : Rws Int => x = Rws.mk []) (sn_obNil 5 rfl rfl) (W_some.mpr rfl) fun st0 hst0 => ?_
  subst hst0
  refine sbW (P := fun z : List Int × Rws Int => (z.2.xss.length : Int) = m ∧ ∀ r ∈ z.2.xss, RwI r) (sn_for (n := true) (L := (fun s17 : (List Int) × (Rws Int) => ([.fz false q0, .nu (RL.mk (p := p) s17.1), .fz true ce.1, .fz true m, .fz true sp.1, .ob true (s17.2 : Rws Int), .un, .un, .un, .un, .un, .un, .un] : List (Slot K)))) (sp.2, Rws.mk []) lea (ei_range (ex_varS 3 rfl)) (fun s17 => (tg_name 6 rfl rfl)) (fun s17 x19 => (sn_cons (sn_setY true 7 (fun _ => ⟨_, rfl, rfl⟩) (EyN.ey (eyn_callN 1 rfl rfl ea_nil))) (fun step20 => (sn_cons (sn_obApp 5 rfl rfl (eo_cat (eo_lst (el_cons (Ex.sc (md := .hp) (ex_mod (ex_varS 7 rfl) (ex_varS 3 rfl))) el_nil) (fun a h => Nat.le_trans ((el_len el_len0) a h) (by decide))).ex (eo_comp (n := true) (slI := [.un, .fz true step20.1, .fz true m]) (no := 1) (ix := [7, 3]) rfl rfl (ei_list (eo_lst (el_cons (Ex.sc (md := .hp) (ex_mod (ex_add (ex_div (ex_varS 7 rfl) (ex_int 64)) (ex_varS 6 rfl)) (ex_varS 3 rfl))) el_nil) (fun a h => Nat.le_trans ((el_len el_len0) a h) (by decide))).ex) (tg_name 0 rfl rfl) (fun x26 => (et_test (md := .hp) (ex_nev (ex_varS 0 rfl) (ex_mod (ex_varS 1 rfl) (ex_varS 2 rfl))))) (fun x26 => (Ex.sc (md := .hp) (ex_varS 0 rfl))) (fun x26 => lea0)).ex)) (fun steps21 => (sn_nil (fun s17 : (List Int) × (Rws Int) => ([.fz false q0, .nu (RL.mk (p := p) s17.1), .fz true ce.1, .fz true m, .fz true sp.1, .ob true (s17.2 : Rws Int), .un, .un, .un, .un, .un, .un, .un] : List (Slot K))) (step20.2, steps21) lea))))))) ?_ fun st hst => sb_at [.fz false q0, .nu (RL.mk (p := p) st.1), .fz true ce.1, .fz true m, .fz true sp.1, .ob true (st.2 : Rws Int), .un, .un, .un, .un, .un, .un, .un] (sbLe (sl2 := [.fz false q0, .un, .fz true ce.1, .fz true m, .fz true sp.1, .ob true (st.2 : Rws Int), .un, .un, .un, .un, .un, .un, .un]) lea ?_)
  · show W ((rangeM m).bind fun xs => foldM _ xs _) _
    rw [W_bind, W_range]
    refine ⟨by omega, ?_⟩
    have rl := rng_len (n := m) (by omega)
    refine W_fold (fun i z => z.2.xss.length = i ∧ ∀ r ∈ z.2.xss, RwI r) ⟨rfl, fun r hr => by cases hr⟩ (fun i x z hx hI => ?_) fun z hI => ⟨by omega, hI.2⟩
    have hi : i < (rng m).length := (List.getElem?_eq_some_iff.mp hx).1
    refine W_bind.mpr (W_le (w_cellR z.1) fun sc _ => W_bind.mpr (W_bind.mpr (W_le (w_row sc.1 x m m1 m60) fun y hy => ?_)))
    refine ⟨_, if_pos (Nat.lt_of_le_of_lt (show z.2.xss.length ≤ 1000 by omega) cap1k), W_some.mpr ⟨by show (z.2.xss ++ [y]).length = _; rw [List.length_append, List.length_singleton, hI.1], fun r hr => ?_⟩⟩
    rcases List.mem_append.mp hr with q | q
    · exact hI.2 r q
    · rw [List.mem_singleton.mp q]
      exact hy
  refine sbW (P := fun x : Mks => x = Mks.mk []) (sn_mkNil 8 rfl rfl) (W_some.mpr rfl) fun mk0 hmk0 => ?_
  subst hmk0
  refine sbW (P := fun z : Mks => z.ms.length ≤ 3 ∧ ∀ q ∈ z.ms, NmF q.1 ∧ RwI q.2) (sn_for (n := true) (L := fun ms : Mks => ([.fz false q0, .un, .fz true ce.1, .fz true m, .fz true sp.1, .ob true (st.2 : Rws Int), .un, .un, .ob true ms, .un, .un, .un, .un] : List (Slot K))) (Mks.mk []) lea (ei_range (ex_mod (ex_div (ex_varS 2 rfl) (ex_int 50)) (ex_int 4))) (fun s => tg_name 6 rfl rfl) (fun s x => sn_cons (sn_mkApp 8 rfl rfl (Ex.sc (md := .hp) (ex_ix (eo_lst (el_cons (Ex.sc (md := .hp) (ex_str "wet")) (el_cons (Ex.sc (md := .hp) (ex_str "a")) (el_cons (Ex.sc (md := .hp) (ex_str "darkdark")) el_nil))) (fun a h => Nat.le_trans ((el_len (el_len (el_len el_len0))) a h) (by decide))).ex (ex_varS 6 rfl))) (eo_comp (n := true) (slI := [.un, .fz true x]) (no := 1) (ix := [6]) rfl rfl (ei_list (eo_cutHi (eo_lst (el_cons (Ex.sc (md := .hp) (ex_int 0)) (el_cons (Ex.sc (md := .hp) (ex_sub (ex_varS 3 rfl) (ex_int 1))) el_nil)) (fun a h => Nat.le_trans ((el_len (el_len el_len0)) a h) (by decide))).ex (ex_add (ex_int 1) (ex_div (ex_varS 3 rfl) (ex_int 3)))).ex) (tg_name 0 rfl rfl) (fun x4 => (et_test (md := .hp) (ex_lt (ex_varS 1 rfl) (ex_int 2)))) (fun x4 => (Ex.sc (md := .hp) (ex_varS 0 rfl))) (fun x4 => lea0))) (fun ms' => sn_nil (fun ms : Mks => ([.fz false q0, .un, .fz true ce.1, .fz true m, .fz true sp.1, .ob true (st.2 : Rws Int), .un, .un, .ob true ms, .un, .un, .un, .un] : List (Slot K))) ms' lea))) ?_ fun mk hmk => sb_at [.fz false q0, .un, .fz true ce.1, .fz true m, .fz true sp.1, .ob true (st.2 : Rws Int), .un, .un, .ob true mk, .un, .un, .un, .un] ?_
  · show W ((((divM ce.1 (50 : Int)).bind fun a => modM a (4 : Int)).bind fun a => rangeM a).bind fun xs => foldM _ xs _) _
    rw [W_bind, W_bind, W_bind, W_div]
    refine ⟨by decide, ?_⟩
    rw [W_mod]
    refine ⟨by decide, ?_⟩
    rw [W_range]
    refine ⟨by omega, ?_⟩
    have rl := rng_len (n := ce.1 / 50 % 4) (by omega)
    refine W_fold (fun i z => z.ms.length = i ∧ ∀ q ∈ z.ms, NmF q.1 ∧ RwI q.2) ⟨rfl, fun r hr => by cases hr⟩ (fun i x z hx hI => ?_) fun z hI => ⟨by omega, hI.2⟩
    have hx' := (rng_at hx).1
    have hi : i < (rng (ce.1 / 50 % 4)).length := (List.getElem?_eq_some_iff.mp hx).1
    refine W_bind.mpr ?_
    show W ((atI [("wet" : Str), "a", "darkdark"] x).bind fun w => (_ : Option (List Int)).bind fun ys => mksAdd z w ys) _
    rw [W_bind, W_at (by omega)]
    refine ⟨_, List.getElem?_eq_getElem (show x.toNat < 3 by omega), W_bind.mpr (W_le (w_mrow x m m1 m60) fun ys hys => ⟨_, if_pos (Nat.lt_of_le_of_lt (show z.ms.length ≤ 1000 by omega) cap1k), W_some.mpr ⟨?_, fun q hq => ?_⟩⟩)⟩
    · show (z.ms ++ [(_, ys)]).length = _
      rw [List.length_append, List.length_singleton, hI.1]
    · rcases List.mem_append.mp hq with h | h
      · exact hI.2 q h
      · rw [List.mem_singleton.mp h]
        exact ⟨Sm.nm (nm3_sm _ (List.getElem_mem _)), hys⟩
  obtain ⟨sp1, sp2⟩ := sp
  obtain ⟨sl2, sl3⟩ := hsp
  have sl2 : sp1.length = 2 := sl2
  have sl3 : ∀ y ∈ sp1, y.length = 3 := sl3
  refine sbW (P := fun z : Rws Int => z.xss.length ≤ 3 ∧ ∀ r ∈ z.xss, RwI r) (sn_obOf 9 rfl rfl rfl (en_fair 3 rfl (eo_cutHi (ex_ix (ex_varF 4 rfl) (ex_int 0)) (ex_mod (ex_div (ex_varS 2 rfl) (ex_int 200)) (ex_int 4))).ex)) ?_ fun fa hfa => ?_
  · show W (((atI sp1 (0 : Int)).bind fun a6 => ((divM ce.1 (200 : Int)).bind fun a5 => modM a5 (4 : Int)).bind fun b7 => some (cutL a6 none (some b7))).bind fun xs => frowM m xs) _
    rw [W_bind, W_bind, W_at (by decide)]
    refine ⟨_, List.getElem?_eq_getElem (show (0 : Int).toNat < sp1.length by rw [sl2]; decide), ?_⟩
    have l3 := sl3 _ (List.getElem_mem (show (0 : Int).toNat < sp1.length by rw [sl2]; decide))
    rw [W_bind, W_bind, W_div]
    refine ⟨by decide, ?_⟩
    rw [W_mod]
    refine ⟨by decide, ?_⟩
    rw [W_some]
    have lc := cutL_le (sp1[(0 : Int).toNat]'(by rw [sl2]; decide)) none (some (ce.1 / 200 % 4))
    refine ⟨_, if_pos ⟨by omega, by omega⟩, ?_, fun r hr => ?_⟩
    · show (List.map _ _).length ≤ 3
      rw [List.length_map]
      omega
    · obtain ⟨v, hv, rfl⟩ := List.mem_map.mp hr
      refine ⟨by show 1 ≤ 2; decide, fun z hz => ?_⟩
      rw [List.mem_singleton.mp hz]
      have := Int.emod_nonneg v (show m ≠ 0 by omega)
      have := Int.emod_lt_of_pos v (show 0 < m by omega)
      omega
  refine sbN (sna_parts 5 8 9 10 (by decide) (by decide) (by decide) rfl rfl rfl rfl rfl rfl) fun x hx => ?_
  refine sbN (sna_for (n := true) (xs := sp1) (L := fun x : Pr => ([.fz false q0, .un, .fz true ce.1, .fz true m, .fz true sp1, .un, .un, .un, .un, .un, .ob true x, .un, .un] : List (Slot K))) (fun i x => FineK i x.val) x ?_ lea (ei_list (ex_var 4 rfl)) (fun s => tg_name 11 rfl rfl) (fun i s y hy hj => ?_)) fun x hx => ?_
  · show FineK 0 x.val
    rw [hx]
    exact fine0 (by have := hst.1; omega) hst.2 hmk.1 hmk.2 hfa.1 hfa.2
  · have hi := (List.getElem?_eq_some_iff.mp hy).1
    obtain ⟨a, b, c, rfl⟩ : ∃ a b c, y = [a, b, c] := by
      match y, sl3 y (List.mem_of_getElem? hy) with
      | [a, b, c], _ => exact ⟨a, b, c, rfl⟩
    refine sna_seq (sna_spoil (n := true) (x := s) (k := i) (w := a % 9) (q := b) (c := c) 10 rfl rfl hj (by omega) (ea_cons (Ex.to (ex_mod (Ex.sc (md := .hp) (ex_ix (ex_varF 11 rfl) (ex_int 0))) (ex_int 9)) rfl) (ea_cons (Ex.to (Ex.sc (md := .hp) (ex_ix (ex_varF 11 rfl) (ex_int 1))) rfl) (ea_cons (Ex.to (Ex.sc (md := .hp) (ex_ix (ex_varF 11 rfl) (ex_int 2))) rfl) ea_nil)))) fun y hy => sna_nil y hy lea
  have hf : Fine x.val := FineK.fine hx (by omega)
  refine sbLe (sl2 := [.fz false q0, .un, .fz true ce.1, .fz true m, .fz true sp1, .un, .un, .un, .un, .un, .fz true (x.val : Prt), .un, .un]) (.eq (.eq (.eq (.eq (.eq (.eq (.eq (.eq (.eq (.eq (.fo (.eq (.eq .nil))))))))))))) ?_
  refine sbW (P := fun z : Str => z = ((refusal x.val).map nmE).getD "by") (sn_set true 12 rfl rfl (Ex.sc (md := .hp) (ex_call (as := fun a : Prt × Unit => ([.fz false a.1] : List (Slot K))) (f := fun a => p_l_due a.1) (ea_cons (ex_varF (a := x.val) 10 rfl) ea_nil)))) ⟨_, due_ok hf, rfl⟩ fun d hd => ?_
  subst hd
  have eg := got_ok C cx hf
  refine sb_ret (Ex.sc (md := .hp) (Ex.to (ex_and (ex_eqv (ex_call (as := fun a : Prt × Unit => ([.fz false a.1] : List (Slot K))) (f := fun a => p_got C cx a.1) (ea_cons (ex_varF (a := x.val) 10 rfl) ea_nil)) (ex_varS 12 rfl)) (ex_eqv (ex_call (as := fun a : Prt × Unit => ([.fz false a.1] : List (Slot K))) (f := fun a => p_got C cx a.1) (ea_cons (ex_varF (a := x.val) 10 rfl) ea_nil)) (ex_varS 12 rfl))) ?_))
  show ((p_got C cx x.val).bind fun a => some (decide (a = ((refusal x.val).map nmE).getD "by"))).bind (fun c => if c = true then (p_got C cx x.val).bind fun a => some (decide (a = ((refusal x.val).map nmE).getD "by")) else some false) = some true
  rw [eg]
  show (if decide (((refusal x.val).map nmE).getD "by" = ((refusal x.val).map nmE).getD "by") = true then some (decide (((refusal x.val).map nmE).getD "by" = ((refusal x.val).map nmE).getD "by")) else some false) = some true
  rw [decide_eq_true rfl]
  rfl
end
end Ts
namespace Ts
open PySem L2
def spLaw (K : PySem.W.Frag) : Sp := fun vs H Q _ => ∃ (a : Addr) (ns : List Int), vs = [.ref a] ∧ SqL K H a (ns.map V.int) ∧ ns.length ≤ 63 ∧ ∀ H', Q (.bl true) H'
section
variable {P : Program} {w : World} {K : PySem.W.Frag} {mg : Str → Option Value} {base h : Heap} {j k : Nat} {f C : Addr} {fd : FuncData} {ps : List Str} {sp : Sp} {x y : Str} {st : Stmt}
abbrev FP (K : PySem.W.Frag) (x : Str) (st : Stmt) : Prop := ∃ f fd, PySem.W.nsIn K mainGlobals x = some (some (.ref f)) ∧ Fun K x x st f fd
def nbAll (K : PySem.W.Frag) : List Str → Prop
  | [] => True
  | x :: r => PySem.W.nsIn K mainGlobals x = some none ∧ nbAll K r
theorem fP_mk (a : PySem.W.nsIn K mainGlobals x = some (some (.ref f))) (F : Fun K x x st f fd) : FP K x st := ⟨f, fd, a, F⟩
theorem funD_mk {dV oc kV doc pm cdv ct : Value} {od an : Option Addr} {osl : Array (Option Value)} (l : K.lookup f = some ⟨oc, od, .func (PySem.W.fnOf x y (defArgs st) (defBody st) (defScope st) dV kV doc pm an cdv ct), osl⟩) (c : PySem.W.codeIn K cdv y = true) (k : PySem.W.keepIn K (.ref f) = true) : FunD K x y st dV f (PySem.W.fnOf x y (defArgs st) (defBody st) (defScope st) dV kV doc pm an cdv ct) := ⟨⟨oc, od, kV, doc, pm, an, cdv, ct, osl, rfl, l, c⟩, k⟩
theorem cal_of (X : K.In h) (G : h.Ns mainGlobals mg) (p : FP K x st) (t : ∀ f fd, Fun K x x st f fd → FnOk P w K mg base CX0 k f fd ps sp ∧ Binds K fd ps []) : Cal P w K mg base k x ps sp := by
  obtain ⟨f, fd, a, F⟩ := p
  exact ⟨f, fd, (t f fd F).1, (t f fd F).2, F.kp, PySem.W.mg_of X G a⟩
theorem Cal.m (c : Cal P w K mg base j x ps sp) (h : j ≤ k := by decide) : Cal P w K mg base k x ps sp := c.mono h
end
structure ErK (K : PySem.W.Frag) (cS cT cF c0 c1 c2 c : Addr) (b0 b1 b2 : Bool) : Prop where
  ex : PySem.W.excIn K c [.type "ValueError", .type "Exception", .type "BaseException", .type "object"] "ValueError.__new__" = true
  ga : PySem.W.findIn K (.ref c) "__getattribute__" = some (some (.builtin "BaseException.__getattribute__"))
  no : PySem.W.findIn K (.ref c) "__getattr__" = some none
  cl : PySem.W.findIn K (.ref c) "__class__" = some (some (.builtin "object.__class__"))
  gt : PySem.W.specialIn K (.builtin "object.__class__") "__get__" = some (some (.builtin "getset_descriptor.__get__"))
  tk : PySem.W.takesIn K (.builtin "object.__class__") = some true
  ob : PySem.W.mroIn K c (.type "object") = some true
  be : PySem.W.mroIn K c (.type "BaseException") = some true
  ty : (PySem.W.clsIn K c).isSome = true
  hex : PySem.W.exmOne K (.ref c) (.ref cS) = some true
  nn : PySem.W.kitAny K (.ref c) [.ref cT, .ref cF] = some false
  ve : PySem.W.kitOne K (.ref c) (.type "ValueError") = some true
  x0 : PySem.W.exmOne K (.ref c) (.ref c0) = some b0
  x1 : PySem.W.exmOne K (.ref c) (.ref c1) = some b1
  x2 : PySem.W.exmOne K (.ref c) (.ref c2) = some b2
  k0 : PySem.W.kitOne K (.ref c) (.ref c0) = some b0
  k1 : PySem.W.kitOne K (.ref c) (.ref c1) = some b1
  k2 : PySem.W.kitOne K (.ref c) (.ref c2) = some b2
theorem erK_mk {K : PySem.W.Frag} {cS cT cF c0 c1 c2 c : Addr} {b0 b1 b2 : Bool} (ex : PySem.W.excIn K c [.type "ValueError", .type "Exception", .type "BaseException", .type "object"] "ValueError.__new__" = true) (ga : PySem.W.findIn K (.ref c) "__getattribute__" = some (some (.builtin "BaseException.__getattribute__"))) (no : PySem.W.findIn K (.ref c) "__getattr__" = some none) (cl : PySem.W.findIn K (.ref c) "__class__" = some (some (.builtin "object.__class__"))) (gt : PySem.W.specialIn K (.builtin "object.__class__") "__get__" = some (some (.builtin "getset_descriptor.__get__"))) (tk : PySem.W.takesIn K (.builtin "object.__class__") = some true) (ob : PySem.W.mroIn K c (.type "object") = some true) (be : PySem.W.mroIn K c (.type "BaseException") = some true) (ty : (PySem.W.clsIn K c).isSome = true) (hex : PySem.W.exmOne K (.ref c) (.ref cS) = some true) (nn : PySem.W.kitAny K (.ref c) [.ref cT, .ref cF] = some false) (ve : PySem.W.kitOne K (.ref c) (.type "ValueError") = some true) (x0 : PySem.W.exmOne K (.ref c) (.ref c0) = some b0) (x1 : PySem.W.exmOne K (.ref c) (.ref c1) = some b1) (x2 : PySem.W.exmOne K (.ref c) (.ref c2) = some b2) (k0 : PySem.W.kitOne K (.ref c) (.ref c0) = some b0) (k1 : PySem.W.kitOne K (.ref c) (.ref c1) = some b1) (k2 : PySem.W.kitOne K (.ref c) (.ref c2) = some b2) : ErK K cS cT cF c0 c1 c2 c b0 b1 b2 := ⟨ex, ga, no, cl, gt, tk, ob, be, ty, hex, nn, ve, x0, x1, x2, k0, k1, k2⟩
theorem fin3 : ∀ i : Fin 3, i = 0 ∨ i = 1 ∨ i = 2 := by decide
theorem calE_of {P : Program} {w : World} {K : PySem.W.Frag} {mg : Str → Option Value} {base h : Heap} {k : Nat} {ps : List Str} {sp : Sp} {x : Str} {st : Stmt} (X : K.In h) (G : h.Ns mainGlobals mg) (p : FP K x st) (t : ∀ f fd, Fun K x x st f fd → FnOk P w K mg base (CXX P w) k f fd ps sp ∧ Binds K fd ps []) : CalE P w K mg base k x ps sp := by
  obtain ⟨f, fd, a, F⟩ := p
  exact ⟨f, fd, (t f fd F).1, (t f fd F).2, F.kp, PySem.W.mg_of X G a⟩
theorem err_mk {K : PySem.W.Frag} {mg : Str → Option Value} {cS cT cF c0 c1 c2 : Addr} (m0 : mg "NoStand" = some (.ref c0)) (m1 : mg "NoStep" = some (.ref c1)) (m2 : mg "NoMark" = some (.ref c2)) (mS : mg "SayError" = some (.ref cS)) (mT : mg "NoText" = some (.ref cT)) (mF : mg "NoFold" = some (.ref cF)) (mV : mg "ValueError" = none)
    (e0 : ErK K cS cT cF c0 c1 c2 c0 true false false) (e1 : ErK K cS cT cF c0 c1 c2 c1 false true false) (e2 : ErK K cS cT cF c0 c1 c2 c2 false false true) : ∃ cx, ErrT K mg cx cS cT cF := by
  have all : ∀ i : Fin 3, ∃ b0 b1 b2, ErK K cS cT cF c0 c1 c2 (([c0, c1, c2] : List Addr).getD i.val 0) b0 b1 b2 := fun i => by
    rcases fin3 i with rfl | rfl | rfl
    · exact ⟨_, _, _, e0⟩
    · exact ⟨_, _, _, e1⟩
    · exact ⟨_, _, _, e2⟩
  refine ⟨fun i => ([c0, c1, c2] : List Addr).getD i.val 0, ⟨m0, m1, m2, fun i => ?_⟩, mS, mT, mF, mV, fun i => ?_, fun i => ?_, fun i j => ?_, fun i j => ?_, fun i => ?_, fun i => ?_⟩
  · obtain ⟨_, _, _, e⟩ := all i
    exact ⟨_, _, _, _, _, _, _, _, e.ex, PySem.F.excBase_ValueError, rfl, PySem.F.excBase_ValueError⟩
  · obtain ⟨_, _, _, e⟩ := all i
    exact ⟨e.ga, e.no, e.cl, e.gt, e.tk, e.ob, e.be, e.ty⟩
  · obtain ⟨_, _, _, e⟩ := all i
    exact e.hex
  · rcases fin3 i with rfl | rfl | rfl <;> rcases fin3 j with rfl | rfl | rfl <;> first | exact e0.x0 | exact e0.x1 | exact e0.x2 | exact e1.x0 | exact e1.x1 | exact e1.x2 | exact e2.x0 | exact e2.x1 | exact e2.x2
  · rcases fin3 i with rfl | rfl | rfl <;> rcases fin3 j with rfl | rfl | rfl <;> first | exact e0.k0 | exact e0.k1 | exact e0.k2 | exact e1.k0 | exact e1.k1 | exact e1.k2 | exact e2.k0 | exact e2.k1 | exact e2.k2
  · obtain ⟨_, _, _, e⟩ := all i
    exact e.nn
  · obtain ⟨_, _, _, e⟩ := all i
    exact e.ve
set_option maxHeartbeats 8000000 in
theorem all_mk {l : PySem.W.OpenLaw} {w : World} {K : PySem.W.Frag} {h : Heap} {mg : Str → Option Value} {fa C fI TD cS cT cF c0 c1 c2 aW : Addr} {ocT : Value} {odT : Option Addr} {nT nW : Nat} {slT slW : Array (Option Value)} {fdI : FuncData} (X : K.In h) (G : h.Ns mainGlobals mg) (hfa : mg "law" = some (.ref fa))
    {tM tL tN k0 k1 k2 k3 k4 k5 k6 k7 k8 k9 : Tok}
    (h1 : FP K "sources_of" sSources)
    (h2 : FP K "is_stand" s_is_stand)
    (h3 : FP K "check_stands" s_check_stands)
    (h4 : FP K "check_steps" s_check_steps)
    (h5 : FP K "is_name" s_is_name)
    (h6 : FP K "check_marks" s_check_marks)
    (h7 : FP K "check_fair" s_check_fair)
    (h8 : FP K "copied" s_copied)
    (h9 : FP K "_law_named" s_l_named)
    (h10 : FP K "_law_stands" s_l_stands)
    (h11 : FP K "_law_due" s_l_due)
    (h12 : FP K "_law_bad_name" s_l_bad_name)
    (h13 : FP K "_law_bad_number" s_l_bad_number)
    (h14 : FP K "_law_cell" s_l_cell)
    (h15 : FP K "_law_spoil" s_l_spoil)
    (h16 : FP K "_law_got" s_l_got)
    (h17 : FP K "_law_caught" s_l_caught)
    (h18 : FP K "law" s_law)
    (aC : PySem.W.nsIn K mainGlobals "Machine" = some (some (.ref C)))
    (mk : Mk K C fI) (FI : FunD K "__init__" "Machine.__init__" sInit (.ref TD) fI fdI) (lT : K.lookup TD = some ⟨ocT, odT, .seq #[.none, .none] nT, slT⟩)
    (cC : Cls K C) (nC : PySem.W.findIn K (.ref C) "steps" = some none ∧ PySem.W.findIn K (.ref C) "marks" = some none ∧ PySem.W.findIn K (.ref C) "fair" = some none ∧ PySem.W.findIn K (.ref C) "sources" = some none)
    (vM : PySem.W.nsIn K mainGlobals "MOST_STANDS" = some (some (.int 60 tM))) (vL : PySem.W.nsIn K mainGlobals "LETTERS" = some (some (.str "abcdefghijklmnopqrstuvwxyz" tL))) (vN : PySem.W.nsIn K mainGlobals "LONGEST_NAME" = some (some (.int 8 tN)))
    (vW : PySem.W.nsIn K mainGlobals "SAYING_WORDS" = some (some (.ref aW))) (uW : K.lookup aW = some ⟨.type "tuple", none, .seq #[.str "all" k0, .str "not" k1, .str "both" k2, .str "either" k3, .str "somenext" k4, .str "eachnext" k5, .str "sometill" k6, .str "eachtill" k7, .str "someever" k8, .str "eachever" k9] nW, slW⟩)
    (ec0 : PySem.W.nsIn K mainGlobals "NoStand" = some (some (.ref c0))) (ec1 : PySem.W.nsIn K mainGlobals "NoStep" = some (some (.ref c1))) (ec2 : PySem.W.nsIn K mainGlobals "NoMark" = some (some (.ref c2))) (ecS : PySem.W.nsIn K mainGlobals "SayError" = some (some (.ref cS))) (ecT : PySem.W.nsIn K mainGlobals "NoText" = some (some (.ref cT))) (ecF : PySem.W.nsIn K mainGlobals "NoFold" = some (some (.ref cF)))
    (k0K : ErK K cS cT cF c0 c1 c2 c0 true false false) (k1K : ErK K cS cT cF c0 c1 c2 c1 false true false) (k2K : ErK K cS cT cF c0 c1 c2 c2 false false true)
    (z : nbAll K ["len", "range", "isinstance", "int", "bool", "list", "enumerate", "min", "all", "str", "reversed", "ValueError"]) :
    ∃ fd : FuncData, (∀ (s : Shared) (v : Value), BindsTo s fd ⟨[v], []⟩ [("_law_script", v)]) ∧ ∀ base : Heap, K.In base → base.Ns mainGlobals mg → FnOk l.prog w K mg base CX0 7 fa fd ["_law_script"] (spLaw K) := by
  obtain ⟨f, fd, a, ⟨oc, od, kV, dc, pm, an, cd, ct, sl, rfl, lk, ck⟩, kp⟩ := h18
  have e := hfa.symm.trans (PySem.W.mg_of X G a)
  cases e
  obtain ⟨zlen, zrange, zisinstance, zint, zbool, zlist, zenumerate, zmin, zall, zstr, zreversed, zValueError, _⟩ := z
  obtain ⟨nS, nM, nF, nB⟩ := nC
  have N : ∀ {x : Str}, PySem.W.nsIn K mainGlobals x = some none → mg x = none := fun e => PySem.W.mg_none_of X G e
  have B : Bl K mg := ⟨N zlen, N zrange, N zisinstance, N zint, N zbool, N zlist, N zenumerate, ki_ii, ki_ib, ki_ll⟩
  have T : Cl K mg C := ⟨cC, nS, nM, nF, nB, PySem.W.mg_of X G aC⟩
  obtain ⟨cx, XT⟩ := err_mk (PySem.W.mg_of X G ec0) (PySem.W.mg_of X G ec1) (PySem.W.mg_of X G ec2) (PySem.W.mg_of X G ecS) (PySem.W.mg_of X G ecT) (PySem.W.mg_of X G ecF) (N zValueError) k0K k1K k2K
  have bI : Binds K fdI ["self", "steps", "marks", "fair"] [] := fun s us KX hl => by
    obtain ⟨_, _, _, _, _, _, _, _, _, rfl, _⟩ := FI.ex
    have h2 : us.length = 4 := by
      rw [List.append_nil] at hl
      exact hl
    match us, h2 with
    | [u0, u1, u2, u3], _ => exact BindsTo.of_defaults rfl (KX _ _ lT) rfl rfl rfl
  refine ⟨PySem.W.fnOf "law" "law" (defArgs s_law) (defBody s_law) (defScope s_law) .none kV dc pm an cd ct, fun s v => .of_eq rfl, fun base _ _ => ?_⟩
  have cal : ∀ {k : Nat} {x : Str} {st : Stmt} {ps : List Str} {sp : Sp}, FP K x st → (∀ f fd, Fun K x x st f fd → FnOk l.prog w K mg base CX0 k f fd ps sp ∧ Binds K fd ps []) → Cal l.prog w K mg base k x ps sp := fun h t => cal_of X G h t
  have calE : ∀ {k : Nat} {x : Str} {st : Stmt} {ps : List Str} {sp : Sp}, FP K x st → (∀ f fd, Fun K x x st f fd → FnOk l.prog w K mg base (CXX l.prog w) k f fd ps sp ∧ Binds K fd ps []) → CalE l.prog w K mg base k x ps sp := fun h t => calE_of X G h t
  have hW : ∀ H : Hp, SqT K H aW ((["all", "not", "both", "either", "somenext", "eachnext", "sometill", "eachtill", "someever", "eachever"] : List Str).map V.str) := fun H => .inr ⟨_, _, _, uW, rfl, rfl, (by show 10 ≤ sizeLine; decide), by repeat (first | exact Paired.nil | refine Paired.cons ⟨_, rfl⟩ ?_)⟩
  have C1 := cal h2 fun _ _ F => ⟨ok_is_stand (k := 0) F B, bi2 F⟩
  have C2 := cal h3 fun _ _ F => ⟨ok_check_stands (k := 1) F B C1.m, bi3 F⟩
  have C3 := cal h4 fun _ _ F => ⟨ok_check_steps (k := 2) F B (PySem.W.mg_of X G vM) C2.m, bi1 F⟩
  have C4 := cal h5 fun _ _ F => ⟨ok_is_name (k := 0) F B (PySem.W.mg_of X G vL) (PySem.W.mg_of X G vN) (PySem.W.mg_of X G vW) hW (N zall) (N zstr), bi1 F⟩
  have C5 := cal h6 fun _ _ F => ⟨ok_check_marks (k := 2) F B C2.m C4.m, bi2 F⟩
  have C6 := cal h7 fun _ _ F => ⟨ok_check_fair (k := 2) F B C2.m, bi2 F⟩
  have C7 := cal h8 fun _ _ F => ⟨ok_copied (k := 2) F B, bi1 F⟩
  have C8 := cal h1 fun _ _ F => ⟨ok_soG F B, bi1 F⟩
  have OI : FnOk l.prog w K mg base CX0 4 fI fdI ["self", "steps", "marks", "fair"] (spInG K C (mkK C)) := ok_inG (k := 3) FI T B C3.m C5.m C6.m C7.m C8.m
  have D1 := cal h2 fun _ _ F => ⟨ok_is_standM (k := 0) F B, bi2 F⟩
  have D2 := calE h3 fun _ _ F => ⟨ok_check_standsM (k := 1) F B XT.toErrM D1.m, bi3 F⟩
  have D3 := calE h4 fun _ _ F => ⟨ok_check_stepsM (k := 2) F B XT.toErrM (PySem.W.mg_of X G vM) D2, bi1 F⟩
  have D5 := calE h6 fun _ _ F => ⟨ok_check_marksM (k := 2) F B XT.toErrM C4.m D2, bi2 F⟩
  have D6 := calE h7 fun _ _ F => ⟨ok_check_fairM (k := 2) F B D2, bi2 F⟩
  have OX : FnOk l.prog w K mg base (CXX l.prog w) 4 fI fdI ["self", "steps", "marks", "fair"] (spInX K C cx) := ok_inX (k := 3) FI B D3 D5 D6
  have G1 := cal h16 fun _ _ F => ⟨ok_got (k := 4) F B XT (PySem.W.mg_of X G aC) mk OI OX bI, bi1 F⟩
  have G2 := cal h17 fun _ _ F => ⟨ok_caught (k := 4) F B XT (PySem.W.mg_of X G aC) mk OI OX bI, bi1 F⟩
  have L1 := cal h9 fun _ _ F => ⟨ok_l_named (k := 0) F B, bi1 F⟩
  have L2 := cal h10 fun _ _ F => ⟨ok_l_stands (k := 0) F B, bi2 F⟩
  have L3 := cal h11 fun _ _ F => ⟨ok_l_due (k := 1) F B L1.m L2.m, bi1 F⟩
  have L4 := cal h12 fun _ _ F => ⟨ok_l_bad_name (k := 0) F B, bi1 F⟩
  have L5 := cal h13 fun _ _ F => ⟨ok_l_bad_number (k := 0) F B, bi3 F⟩
  have L6 := cal h14 fun _ _ F => ⟨ok_l_cell (k := 0) F B, bi1 F⟩
  have L7 := cal h15 fun _ _ F => ⟨ok_spoil (k := 1) F B (N zmin) L4.m L5.m, bi4 F⟩
  refine FnOk.imp (ok_law (k := 6) (fun_mk lk ck kp) B (N zreversed) L6.m L7.m L3.m G1.m G2.m) fun vs H Q E h => ?_
  obtain ⟨a, ns, rfl, hS, h63, hQ⟩ := h
  exact ⟨(⟨ns⟩, ()), true, H, .refl _, rfl, .cons ⟨a, rfl, hS⟩ .nil, fun v H' _ r => by cases r; exact hQ H'⟩
theorem walk {l : PySem.W.OpenLaw} {q : Program} {loose : List Str} {XP : (Str → Option Value) → Heap → Prop} {YP : World → Heap → Prop} {d : DefRec} {K : Params → PySem.W.Frag} (hn : l.most = some 63) (hdf : d.params.defaults = [])
    (hY : ∀ (w : World) (h : Heap), YP w h → (K w.params).In h)
    (F : ∀ (w : World) (mg : Str → Option Value) (fa : Addr) (h : Heap), (K w.params).In h → h.Ns mainGlobals mg → mg d.name = some (.ref fa) →
      ∃ fd : FuncData, (∀ (s : Shared) (u : Value), BindsTo s fd ⟨[u], []⟩ [("_law_script", u)]) ∧ ∀ base : Heap, (K w.params).In base → base.Ns mainGlobals mg → FnOk l.prog w (K w.params) mg base CX0 7 fa fd ["_law_script"] (spLaw (K w.params))) :
    PySem.W.WalkO q loose XP YP l.row.toRowW d [] (fun f vs => PySem.call f vs) :=
  L2.walk_of (n := 63) (k := 7) (x := "_law_script") (CX := fun _ => CX0) (sp := fun w => spLaw (K w.params)) hn (by decide) hdf ⟨rfl, by decide, by decide⟩ hY F (fun _ _ a ns hl _ hS => ⟨a, ns, rfl, hS, hl, fun _ => rfl⟩) fun _ _ _ _ _ z => z
end Ts
namespace PySem.W.Fast
def tw14653121367461947918:=0
def tw13987278197834089344:=0
def tw3756238257024109555:=0
def tw12527746162960025362:=0
def tw10077832250717716354:=0
def tw3481880710074554988:=0
def tw8962958470127982257:=0
def tw16776906860439370900:=0
end PySem.W.Fast
open PySem PySem.W PyProof.Rows
set_option maxRecDepth 100000 in
set_option maxHeartbeats 0 in
theorem PySem.Challenge.cw_treesay_k03_machines_refused_holds : PySem.Challenge.rw_treesay_k03_machines_refused.Holds := by
  w_on; o_law; k_head; (case hw => w_witness2)
  k_fill
  refine Ts.walk (l := PySem.Challenge.rw_treesay_k03_machines_refused) rfl rfl (fun w h Y => by first | exact PySem.W.kIn_of Y | exact PySem.W.km_in_of Y) ?F
  case F =>
    intro w mg fa h KX G hmg
    refine' Ts.all_mk KX G hmg ?_ ?_ ?_ ?_ ?_ ?_ ?_ ?_ ?_ ?_ ?_ ?_ ?_ ?_ ?_ ?_ ?_ ?_ ?_ ?_ ?_ ?_ ?_ ?_ ?_ ?_ ?_ ?_ ?_ ?_ ?_ ?_ ?_ ?_ ?_ ?_ ?_ ?_ ?_
    all_goals first | refine' Ts.fP_mk ?_ (L2.fun_mk ?_ ?_ ?_) | refine' Ts.funD_mk ?_ ?_ ?_ | refine' Ts.erK_mk ?_ ?_ ?_ ?_ ?_ ?_ ?_ ?_ ?_ ?_ ?_ ?_ ?_ ?_ ?_ ?_ ?_ ?_ | refine' ⟨?_, ?_, ?_, ?_⟩ | skip
    all_goals repeat' first | refine' And.intro ?_ ?_ | exact True.intro
    all_goals first | k_is | skip
    all_goals first | exact ⟨_, _, rfl, rfl⟩ | k_is | decide | skip
    all_goals first | k_is | kernel_rfl

#print axioms PySem.Challenge.cw_treesay_k03_machines_refused_holds
