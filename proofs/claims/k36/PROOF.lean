import PyProof.Rows.All
import Wide.All
import OpenK.AllK
import Wide.FinOn
import Lean
import PyProof.EqAt
import PyProof.EqKinds
import PyProof.TupleCall
import PyProof.NeKinds
import PyProof.EnumStmt
import PyProof.EnumMake
import PyProof.CompFree
import PyProof.Rows.FStr
import PySem.Challenge.RW_treesay_k36_the_core_by_closure
open PySem.W (instObj methodObj lookIn plainGet hasDictIn findIn plainGet_of isFn plainOver takerIn makesIn emptyDict keepIn kitOne kia_one callWith_K cellsFrom_some fnOf codeIn nsIn mg_of mg_none_of)
set_option Elab.async false
set_option linter.all false
set_option maxRecDepth 100000
namespace L2
open PySem PySem.Spec PyProof.Rows
abbrev Key := Sum Int Str
def keyIs : Key -> Value -> Bool
  | .inl k, v => Value.isInt k v
  | .inr x, v => Value.isStrOf x v
def keyH (w : World) : Key -> Int
  | .inl k => hashInt k
  | .inr x => hashStr w x
theorem xC : ∀ {k : Key} {v : Value}, keyIs k v = true -> (∃ i t, k = Sum.inl i /\ v = Value.int i t) \/ (∃ x t, k = Sum.inr x /\ v = Value.str x t)
  | .inl i, v, h => by
    obtain ⟨t, e⟩ := Value.isInt_shape (k := i) (v := v) h
    exact .inl ⟨i, t, rfl, e⟩
  | .inr x, v, h => by
    obtain ⟨t, e⟩ := Value.isStrOf_shape (x := x) (v := v) h
    exact .inr ⟨x, t, rfl, e⟩
theorem keyIs_int (i : Int) (t : Tok) : keyIs (.inl i) (.int i t) = true := by simp [keyIs, Value.isInt]
theorem keyIs_str (x : Str) (t : Tok) : keyIs (.inr x) (.str x t) = true := by simp [keyIs, Value.isStrOf]
theorem key_ll (a b : Int) : decide ((Sum.inl a : Key) = Sum.inl b) = (a == b) := by
  by_cases e : a = b
  · subst e; simp
  · have h : ¬ (Sum.inl a : Key) = Sum.inl b := fun q => e (Sum.inl.inj q)
    rw [decide_eq_false h]
    exact (beq_eq_false_iff_ne.mpr e).symm
theorem key_rr (a b : Str) : decide ((Sum.inr a : Key) = Sum.inr b) = decide (a = b) := by
  by_cases e : a = b
  · subst e; simp
  · have h : ¬ (Sum.inr a : Key) = Sum.inr b := fun q => e (Sum.inr.inj q)
    rw [decide_eq_false h, decide_eq_false e]
theorem key_lr (a : Int) (b : Str) : decide ((Sum.inl a : Key) = Sum.inr b) = false := decide_eq_false (fun q => nomatch q)
theorem key_rl (a : Str) (b : Int) : decide ((Sum.inr a : Key) = Sum.inl b) = false := decide_eq_false (fun q => nomatch q)
def mixKind (prog : Program) (w : World) : PySem.KeyKind prog w Key where
  is := keyIs
  hash := keyH w
  inj := fun v a b ha hb => by
    rcases xC ha with ⟨i, t, rfl, rfl⟩ | ⟨x, t, rfl, rfl⟩
    · rcases xC hb with ⟨j, u, rfl, e⟩ | ⟨y, u, rfl, e⟩
      · injection e with e1 _; rw [e1]
      · exact nomatch e
    · rcases xC hb with ⟨j, u, rfl, e⟩ | ⟨y, u, rfl, e⟩
      · exact nomatch e
      · injection e with e1 _; rw [e1]
  byValue := fun k v h => by
    rcases xC h with ⟨i, t, rfl, rfl⟩ | ⟨x, t, rfl, rfl⟩ <;> rfl
  pyHash := fun hv h => by
    rcases xC hv with ⟨i, t, rfl, rfl⟩ | ⟨x, t, rfl, rfl⟩
    · exact wpAny_pyHash_int h
    · exact wpAny_pyHash_str h
  eqBool := fun hu hv h => by
    rcases xC hu with ⟨i, t, rfl, rfl⟩ | ⟨x, t, rfl, rfl⟩
    · rcases xC hv with ⟨j, u, rfl, rfl⟩ | ⟨y, u, rfl, rfl⟩
      · rw [key_ll] at h; exact wpAny_eqBool_int h
      · rw [key_lr] at h; exact SeqAt.EqAt.int_str i t y u _ _ _ _ h
    · rcases xC hv with ⟨j, u, rfl, rfl⟩ | ⟨y, u, rfl, rfl⟩
      · rw [key_rl] at h; exact SeqAt.EqAt.str_int x t j u _ _ _ _ h
      · rw [key_rr] at h; exact wpAny_eqBool_str h
  «strs» := fun k x t v h => by
    rcases xC h with ⟨i, u, rfl, e⟩ | ⟨y, u, rfl, e⟩
    · exact nomatch e
    · injection e with e1 _
      subst e1
      cases v <;> rfl
theorem mixKind_int (prog : Program) (w : World) (i : Int) (t : Tok) : (mixKind prog w).is (.inl i) (.int i t) = true := keyIs_int i t
theorem mixKind_str (prog : Program) (w : World) (x : Str) (t : Tok) : (mixKind prog w).is (.inr x) (.str x t) = true := keyIs_str x t
end L2
namespace L2
open PySem PySem.Spec PyProof.Rows
inductive V where
  | non | bl (b : Bool) | int (i : Int) | str (x : Str) | byt (b : Array UInt8) | flt (b : UInt64) | ref (a : Addr) | ty (n : String)
  deriving DecidableEq
def RelV : V -> Value -> Prop
  | .non, u => u = Value.none
  | .bl b, u => u = Value.bool b
  | .int i, u => ∃ t, u = Value.int i t
  | .str x, u => ∃ t, u = Value.str x t
  | .byt b, u => ∃ t, u = Value.bytes b t
  | .flt b, u => ∃ t, u = Value.float b t
  | .ref a, u => u = Value.ref a
  | .ty n, u => u = Value.type n
abbrev Vals : List V -> List Value -> Prop := Paired RelV
theorem Vals.length {xs : List V} {us : List Value} (r : Vals xs us) : xs.length = us.length := Paired.length r
theorem Vals.get : ∀ {xs : List V} {us : List Value} {i : Nat} {x : V}, Vals xs us -> xs[i]? = some x -> ∃ u, us[i]? = some u /\ RelV x u
  | _, _, _, _, .nil, e => by simp at e
  | _, _, 0, _, .cons r _, e => by simp at e; subst e; exact ⟨_, rfl, r⟩
  | _, _, i + 1, x, .cons _ t, e => by
    obtain ⟨u, h1, h2⟩ := Vals.get (i := i) (x := x) t (by simpa using e)
    exact ⟨u, by simpa using h1, h2⟩
theorem Vals.set {x : V} {u : Value} (r : RelV x u) : ∀ {xs : List V} {us : List Value} (i : Nat), Vals xs us -> Vals (xs.set i x) (us.set i u)
  | _, _, _, .nil => .nil
  | _, _, 0, .cons _ t => .cons r t
  | _, _, i + 1, .cons q t => .cons q (Vals.set r i t)
theorem Vals.append : ∀ {xs ys : List V} {us ws : List Value}, Vals xs us -> Vals ys ws -> Vals (xs ++ ys) (us ++ ws)
  | _, _, _, _, .nil, s => s
  | _, _, _, _, .cons r t, s => .cons r (Vals.append t s)
theorem Vals.none_of : ∀ {xs : List V} {us : List Value} {i : Nat}, Vals xs us -> xs[i]? = none -> us[i]? = none := fun {xs us i} r e => by
  have h1 := r.length
  have h2 : xs.length <= i := List.getElem?_eq_none_iff.mp e
  exact List.getElem?_eq_none_iff.mpr (by omega)
def RelO : Option V -> Option Value -> Prop
  | some v, some u => RelV v u
  | none, none => True
  | _, _ => False
def KV {κ : Type} : List (κ × V) -> List (κ × Value) -> Prop := Paired fun (p : κ × V) (q : κ × Value) => p.1 = q.1 /\ RelV p.2 q.2
def kV : Key -> V
  | .inl i => .int i
  | .inr x => .str x
inductive HO where
  | lst (xs : List V)
  | tup (xs : List V)
  | dK (kvs : List (Key × V)) | dT (kvs : List (List Key × V))
  | set (S : Int -> Bool) (n : Nat)
  | ins (C dx : Addr) (fs : List (Str × V))
  | own (x : Addr)
  | xd (fs : List (Str × V))
  | met (f x : Addr)
  | rng (lo hi : Int)
  | frz (o : Obj) (u : HO)
  | tbl (ps : Array Value)
  | ext (φ : Heap -> Prop)
abbrev Hp := Addr -> Option HO
def upd (H : Hp) (a : Addr) (o : HO) : Hp := fun b => if b = a then some o else H b
theorem zR {H : Hp} {a : Addr} {o : HO} : upd H a o a = some o := by unfold upd; rw [if_pos rfl]
theorem zQ {H : Hp} {a b : Addr} {o : HO} (h : b ≠ a) : upd H a o b = H b := by unfold upd; rw [if_neg h]
theorem upd_upd {H : Hp} {a : Addr} {o u : HO} : upd (upd H a o) a u = upd H a u := by
  funext b; unfold upd; split <;> rfl
theorem ne_of {H : Hp} {a b : Addr} {o u : HO} (h : H a = some o) (h' : H b = some u) (d : o ≠ u) : a ≠ b := by
  intro e; subst e; rw [h] at h'; exact d (Option.some.inj h')
theorem zP {H : Hp} {a b : Addr} {o : HO} (h : H a = some o) (h' : H b = none) : a ≠ b := by
  intro e; subst e; rw [h] at h'; cases h'
section
variable (P : Program) (w : World)
def ObjOk (H : Hp) (h : Heap) (a : Addr) : HO -> Prop
  | .lst xs => xs.length <= sizeLine /\ ∃ (its : List Value) (n : Nat), Vals xs its /\ h.get? a = some { cls := .type "list", data := .seq its.toArray n }
  | .tup xs => xs.length <= sizeLine /\ ∃ its : List Value, Vals xs its /\ IsTup h a its.toArray
  | .dK kvs => kvs.length <= sizeLine /\ (a == sysModules) = false /\ ∃ vs, KV kvs vs /\ h.DictOf (mixKind P w) a vs
  | .dT kvs => kvs.length <= sizeLine /\ (a == sysModules) = false /\ ∃ xs : List (List Key × Addr × Value),
      Paired (fun (p : List Key × V) (q : List Key × Addr × Value) => p.1 = q.1 /\ H q.2.1 = some (.tup (p.1.map kV)) /\ RelV p.2 q.2.2) kvs xs /\
      ∃ o es ep, h.get? a = some o /\ o.ExactDict /\ o.data = .dict es ep /\ es.toList = xs.map (entryOfKey (tupleKind (mixKind P w))) /\ (xs.map (·.1)).Nodup
  | .set S n => h.SetOf (intKind P w) a S n
  | .ins C dx fs => H dx = some (.own a) /\ fs.length <= 1000 /\ dx ≠ a /\ h.get? a = some (instObj C dx) /\
      ∃ mA, h.Ns1 dx mA /\ (∀ f, RelO (fs.lookup f) (mA f)) /\ PySem.Within mA (fs.map (·.1))
  | .own _ => ∃ o, h.get? a = some o
  | .xd fs => ∃ mA, h.Ns1 a mA /\ ∀ f, RelO (fs.lookup f) (mA f)
  | .rng lo hi => ∃ t u v, h.get? a = some { cls := .type "range", data := .fields #[.int lo t, .int hi u, .int 1 v] }
  | .frz o u => h.get? a = some o /\ ObjOk H h a u
  | .tbl ps => h.get? a = some { cls := .none, data := .fields ps }
  | .met f x => h.get? a = some (methodObj (.ref f) (.ref x))
  | .ext φ => φ h /\ (∃ o, h.get? a = some o) /\ ∀ h1 h2 : Heap, φ h1 -> (∀ o, h1.get? a = some o -> h2.get? a = some o) -> φ h2
def HOk (H : Hp) (h : Heap) : Prop := ∀ a o, H a = some o -> ObjOk P w H h a o
end
section
variable {P : Program} {w : World} {H H' : Hp} {h h' : Heap} {a : Addr} {o : HO}
theorem ObjOk.lt (x : ObjOk P w H h a o) : a < h.objs.size := by
  cases o with
  | lst xs => obtain ⟨_, _, _, _, e⟩ := x; exact Heap.lt_size e
  | tup xs => obtain ⟨_, _, _, p⟩ := x; exact p.lt
  | dK kvs => obtain ⟨_, _, _, _, o, _, _, e, _⟩ := x; exact Heap.lt_size e
  | dT kvs => obtain ⟨_, _, _, _, o, _, _, e, _⟩ := x; exact Heap.lt_size e
  | set S n => obtain ⟨o, _, _, _, e, _⟩ := x; exact Heap.lt_size e
  | ins C dx fs => obtain ⟨_, _, _, e, _⟩ := x; exact Heap.lt_size e
  | own y => obtain ⟨_, e⟩ := x; exact Heap.lt_size e
  | xd fs => obtain ⟨_, ⟨_, _, _, e, _⟩, _⟩ := x; exact Heap.lt_size e
  | rng lo hi => obtain ⟨_, _, _, e⟩ := x; exact Heap.lt_size e
  | frz ob u => obtain ⟨e, _⟩ := x; exact Heap.lt_size e
  | tbl ps => exact Heap.lt_size (show h.get? a = some _ from x)
  | met f y => exact Heap.lt_size (show h.get? a = some _ from x)
  | ext φ => obtain ⟨_, ⟨_, e⟩, _⟩ := x; exact Heap.lt_size e
theorem Paired.mapP {α β : Type} {F G : α -> β -> Prop} : ∀ {l₁ : List α} {l₂ : List β}, Paired F l₁ l₂ -> (∀ a b, F a b -> G a b) -> Paired G l₁ l₂
  | _, _, .nil, _ => .nil
  | _, _, .cons r t, f => .cons (f _ _ r) (Paired.mapP t f)
theorem ObjOk.stay (x : ObjOk P w H h a o) (k : ∀ b u, (b = a \/ H b = some (.own a)) -> h.get? b = some u -> h'.get? b = some u)
    (ho : ∀ b, H b = some (.own a) -> H' b = some (.own a)) (ht : ∀ b xs, H b = some (.tup xs) -> H' b = some (.tup xs)) : ObjOk P w H' h' a o := by
  induction o with
  | lst xs => obtain ⟨z, its, n, r, e⟩ := x; exact ⟨z, its, n, r, k _ _ (.inl rfl) e⟩
  | tup xs => obtain ⟨z, its, r, ob, e, c⟩ := x; exact ⟨z, its, r, ob, k _ _ (.inl rfl) e, c⟩
  | dK kvs => obtain ⟨z, y, vs, r, ob, es, ep, e, c⟩ := x; exact ⟨z, y, vs, r, ob, es, ep, k _ _ (.inl rfl) e, c⟩
  | dT kvs =>
    obtain ⟨z, y, xs, r, ob, es, ep, e, c⟩ := x
    exact ⟨z, y, xs, Paired.mapP r fun p q z => ⟨z.1, ht _ _ z.2.1, z.2.2⟩, ob, es, ep, k _ _ (.inl rfl) e, c⟩
  | set S n => obtain ⟨ob, es, ep, t, e, c⟩ := x; exact ⟨ob, es, ep, t, k _ _ (.inl rfl) e, c⟩
  | ins C dx fs =>
    obtain ⟨d, z, ne, e, mA, ⟨od, es, ep, e2, c⟩, r⟩ := x
    exact ⟨ho _ d, z, ne, k _ _ (.inl rfl) e, mA, ⟨od, es, ep, k _ _ (.inr d) e2, c⟩, r⟩
  | own y => obtain ⟨ob, e⟩ := x; exact ⟨ob, k _ _ (.inl rfl) e⟩
  | xd fs => obtain ⟨mA, ⟨od, es, ep, e, c⟩, r⟩ := x; exact ⟨mA, ⟨od, es, ep, k _ _ (.inl rfl) e, c⟩, r⟩
  | rng lo hi => obtain ⟨t, u, v, e⟩ := x; exact ⟨t, u, v, k _ _ (.inl rfl) e⟩
  | frz ob u ih => obtain ⟨e, q⟩ := x; exact ⟨k _ _ (.inl rfl) e, ih q⟩
  | tbl ps =>
    have e : h.get? a = some { cls := .none, data := .fields ps } := x
    show h'.get? a = some { cls := .none, data := .fields ps }
    exact k a _ (.inl rfl) e
  | met f y =>
    have e : h.get? a = some (methodObj (.ref f) (.ref y)) := x
    show h'.get? a = some (methodObj (.ref f) (.ref y))
    exact k a _ (.inl rfl) e
  | ext φ => obtain ⟨p, ⟨o, e⟩, st⟩ := x; exact ⟨st _ _ p fun o q => k _ _ (.inl rfl) q, ⟨o, k _ _ (.inl rfl) e⟩, st⟩
theorem HOk.lt (x : HOk P w H h) (e : H a = some o) : a < h.objs.size := (x a o e).lt
theorem HOk.fresh (x : HOk P w H h) (e : h.objs.size <= a) : H a = none := by
  cases q : H a with
  | none => rfl
  | some u => exact absurd (Nat.lt_of_lt_of_le (x.lt q) e) (Nat.lt_irrefl _)
theorem HOk.kept (x : HOk P w H h) (k : ∀ b u, h.get? b = some u -> h'.get? b = some u) : HOk P w H h' := fun a o e =>
  (x a o e).stay (fun b u _ q => k b u q) (fun _ q => q) fun _ _ q => q
theorem HOk.laid (x : HOk P w H h) (k : ∀ b u, h.get? b = some u -> h'.get? b = some u) (hp : h.objs.size <= a) (new : ObjOk P w (upd H a o) h' a o) : HOk P w (upd H a o) h' := fun b u e => by
  have hn := x.fresh hp
  by_cases hb : b = a
  · subst hb; rw [zR] at e; cases e; exact new
  · rw [zQ hb] at e
    exact (x b u e).stay (fun c v _ q => k c v q) (fun c q => by rw [zQ (zP q hn)]; exact q) fun c xs q => by rw [zQ (zP q hn)]; exact q
end
def Rd (H : Hp) (a : Addr) (u : HO) : Prop := H a = some u \/ ∃ o, H a = some (.frz o u)
theorem Rd.ok {P : Program} {w : World} {H : Hp} {h : Heap} {a : Addr} {u : HO} (r : Rd H a u) (x : HOk P w H h) : ObjOk P w H h a u := by
  rcases r with r | ⟨o, r⟩
  · exact x a u r
  · obtain ⟨_, q⟩ := x a _ r
    exact q
def Mut : Option HO -> Prop
  | some (.lst _) => True
  | some (.dK _) => True
  | some (.dT _) => True
  | some (.set _ _) => True
  | some (.ins _ _ _) => True
  | some (.ext _) => True
  | _ => False
section
variable {P : Program} {w : World} {H : Hp} {h h' : Heap} {x e : Addr} {o' : HO}
theorem HOk.write (ok : HOk P w H h) (mu : Mut (H x)) (he : e = x \/ H e = some (.own x)) (k : ∀ b u, b ≠ e -> h.get? b = some u -> h'.get? b = some u) (heo : ∃ u, h'.get? e = some u)
    (new : ObjOk P w (upd H x o') h' x o') : HOk P w (upd H x o') h' := fun b u q => by
  have nown : ∀ c y, H c = some (.own y) -> c ≠ x := fun c y r z => by subst z; rw [r] at mu; exact mu
  have ntup : ∀ c xs, H c = some (.tup xs) -> c ≠ x := fun c xs r z => by subst z; rw [r] at mu; exact mu
  by_cases hb : b = x
  · subst hb; rw [zR] at q; cases q; exact new
  · rw [zQ hb] at q
    by_cases hbe : b = e
    · have q' : H b = some (.own x) := by
        rcases he with z | z
        · exact absurd (hbe.trans z) hb
        · rw [hbe]; exact z
      rw [q] at q'; cases q'
      obtain ⟨v, hv⟩ := heo
      exact ⟨v, by rw [hbe]; exact hv⟩
    · refine (ok b u q).stay (fun c v hc r => k c v ?_ r) (fun c r => by rw [zQ (nown c b r)]; exact r) fun c xs r => by rw [zQ (ntup c xs r)]; exact r
      rcases hc with rfl | hc
      · exact hbe
      · rintro rfl
        rcases he with z | z
        · exact nown c b hc z
        · rw [hc] at z; cases z; exact hb rfl
end
structure Un (fs ex : List Addr) (H H' : Hp) (h h' : Heap) : Prop where
  keep : ∀ b o, h.get? b = some o -> H b = none -> b ∉ fs -> b ∉ ex -> h'.get? b = some o
  slot : ∀ b o, h.get? b = some o -> H b = none -> b ∈ fs -> b ∉ ex -> ∃ sl, h'.get? b = some { o with slots := sl }
  free : ∀ b o, h.get? b = some o -> H b = none -> b ∉ ex -> H' b = none
  there : ∀ b o, h.get? b = some o -> b ∉ ex -> ∃ o', h'.get? b = some o'
  tups : ∀ b xs, H b = some (.tup xs) -> H' b = some (.tup xs)
  frzs : ∀ b o u, H b = some (.frz o u) -> H' b = some (.frz o u)
  tbls : ∀ b ps, H b = some (.tbl ps) -> ∃ more, H' b = some (.tbl (ps ++ more))
section
variable {fs fs' ex ex' : List Addr} {H H1 H2 : Hp} {h h1 h2 h' : Heap} {a x e : Addr} {o : HO}
theorem Un.any (u : Un fs ex H H1 h h1) {b : Addr} {ob : Obj} (q : h.get? b = some ob) (n : H b = none) (hx : b ∉ ex) : ∃ sl, h1.get? b = some { ob with slots := sl } := by
  by_cases hb : b ∈ fs
  · exact u.slot b ob q n hb hx
  · exact ⟨ob.slots, u.keep b ob q n hb hx⟩
theorem Un.kept (k : ∀ b u, h.get? b = some u -> h'.get? b = some u) : Un fs ex H H h h' :=
  ⟨fun b ob q _ _ _ => k b ob q, fun b ob q _ _ _ => ⟨ob.slots, k b ob q⟩, fun _ _ _ n _ => n, fun b ob q _ => ⟨ob, k b ob q⟩, fun _ _ q => q, fun _ _ _ q => q, fun _ ps q => ⟨#[], by rw [q]; simp⟩⟩
theorem Un.refl : Un fs ex H H h h := Un.kept fun _ _ q => q
theorem Un.laid (k : ∀ b u, h.get? b = some u -> h'.get? b = some u) (hp : h.objs.size <= a) (hn : H a = none) : Un fs ex H (upd H a o) h h' where
  keep := fun b u q _ _ _ => k b u q
  slot := fun b u q _ _ _ => ⟨u.slots, k b u q⟩
  free := fun b u q n _ => by rw [zQ (Nat.ne_of_lt (Nat.lt_of_lt_of_le (Heap.lt_size q) hp))]; exact n
  there := fun b u q _ => ⟨u, k b u q⟩
  tups := fun b xs q => by rw [zQ (zP q hn)]; exact q
  frzs := fun b u xs q => by rw [zQ (zP q hn)]; exact q
  tbls := fun b ps q => ⟨#[], by rw [zQ (zP q hn), q]; simp⟩
theorem Un.write (mu : Mut (H x)) (he : e = x \/ H e = some (.own x)) (k : ∀ b u, b ≠ e -> h.get? b = some u -> h'.get? b = some u) (heo : ∃ u, h'.get? e = some u) : Un fs ex H (upd H x o) h h' := by
  have hx : ∀ b, H b = none -> b ≠ x := fun b n z => by subst z; rw [n] at mu; exact mu
  have hb : ∀ b, H b = none -> b ≠ e := fun b n z => by
    subst z
    rcases he with r | r
    · exact hx b n r
    · rw [n] at r; cases r
  have hm : ∀ b u, H b = some u -> ¬ Mut (some u) -> b ≠ x := fun b u q nm z => by subst z; rw [q] at mu; exact nm mu
  refine ⟨fun b u q n _ _ => k b u (hb b n) q, fun b u q n _ _ => ⟨u.slots, k b u (hb b n) q⟩, fun b u q n _ => by rw [zQ (hx b n)]; exact n, fun b u q _ => ?_,
    fun b xs q => by rw [zQ (hm b _ q fun z => z)]; exact q, fun b u xs q => by rw [zQ (hm b _ q fun z => z)]; exact q, fun b ps q => ⟨#[], by rw [zQ (hm b _ q fun z => z), q]; simp⟩⟩
  by_cases hbe : b = e
  · subst hbe; exact heo
  · exact ⟨u, k b u hbe q⟩
end
def trk (h : Heap) (H : Hp) : List Addr := (List.range h.objs.size).filter fun a => (H a).isSome
def hidT (h : Heap) (H : Hp) : Heap := PySem.W.hideAll h (trk h H)
theorem hidT_size (h : Heap) (H : Hp) : (hidT h H).objs.size = h.objs.size := PySem.W.hideAll_size _ _
theorem hidT_get {h : Heap} {H : Hp} {b : Addr} {o : Obj} (e : h.get? b = some o) (n : H b = none) : (hidT h H).get? b = some o :=
  PySem.W.hideAll_get _ e fun hm => by
    have q : (H b).isSome = true := (List.mem_filter.mp hm).2
    rw [n] at q; simp at q
theorem of_hidT {h : Heap} {H : Hp} {b : Addr} {o : Obj} (e : (hidT h H).get? b = some o) : h.get? b = some o /\ H b = none := by
  have e' : h.get? b = some o := PySem.W.of_hideAll (trk h H) e
  refine ⟨e', ?_⟩
  cases q : H b with
  | none => rfl
  | some x =>
    have hm : b ∈ trk h H := List.mem_filter.mpr ⟨List.mem_range.mpr (Heap.lt_size e'), by simp [q]⟩
    have z : (hidT h H).get? b = none := PySem.W.hideAll_none (trk h H) hm
    rw [z] at e; cases e
def allNews (g h : Heap) (L : Addr) : List (Addr × Obj) := (List.range h.objs.size).filterMap fun a => if a = L \/ (g.get? a).isSome = true then none else (h.get? a).map fun o => (a, o)
def rest (g h : Heap) (L d : Addr) : List (Addr × Obj) := (allNews g h L).filter fun p => decide (p.1 ≠ d)
end L2
namespace L2
open PySem PySem.Spec PyProof.Rows
structure Mod (K : PySem.W.Frag) (mg : Str -> Option Value) (base : Heap) : Prop where
  kin : K.In base
  glob : base.Ns mainGlobals mg
  blt : ∃ mb, base.Ns builtinsNs mb /\ ∀ x : Str, x ≠ "__name__" -> mb x = bootBuiltins x
  nolimit : base.NoLimit
structure Cx where
  prog : Program
  w : World
  K : PySem.W.Frag
  mg : Str -> Option Value
  base : Heap
  A : Around
  N : List Str
  s₀ : Shared
  H₀ : Hp
  env : Env
  outer : List Env
  stack : List Env
  ex : List Addr
  fn : Str -> Bool
  calm : Bool
  pn : List (Addr × Obj)
  xe : Value -> Shared -> Prop
def frs (l : List Env) : List Addr := l.filterMap (·.frame)
abbrev Cx.fs (X : Cx) : List Addr := frs X.outer
def Vis (sc : Scope) (x : Str) : Prop := sc.names.lookup x = some .local \/ sc.names.lookup x = some .cell \/ sc.names.lookup x = some .free
def Loc (sc : Scope) (x : Str) : Prop := sc.names.lookup x = some .local \/ sc.names.lookup x = some .cell
def Look (env : Env) (h : Heap) (m : Str -> Option Value) (x : Str) (u : Value) : Prop :=
  (env.kindOf x = some .local /\ m x = some u) \/ ((env.kindOf x = some .cell \/ env.kindOf x = some .free) /\ ∃ c, env.cells.lookup x = some c /\ h.IsCell c (some u))
structure Cx.Ok (X : Cx) : Prop where
  mod : Mod X.K X.mg X.base
  kind : X.env.scope.kind = .function
  glob : X.env.globals = mainGlobals
  blt : X.env.builtins = builtinsNs
  above : X.s₀.heap.objs.size <= X.env.locals
  inj : ∀ x y c, X.env.cells.lookup x = some c -> X.env.cells.lookup y = some c -> x = y
  has : ∀ x, (X.env.kindOf x = some .cell \/ X.env.kindOf x = some .free) -> ∃ c, X.env.cells.lookup x = some c
  cab : ∀ x c, X.fn x = true -> X.env.cells.lookup x = some c -> X.s₀.heap.objs.size <= c
  hd : X.calm = true -> X.A.handled = none
  frames : X.A.frames = some X.stack
  stk : X.stack = X.outer \/ (X.stack = X.env :: X.outer /\ X.env.frame = some X.env.locals)
  exf : ∀ b ∈ X.ex, b ≠ X.env.locals /\ ∀ x c, X.env.cells.lookup x = some c -> c ≠ b
  bs : ∀ b o, X.base.get? b = some o -> X.s₀.heap.get? b = some o /\ X.H₀ b = none
  bsz : X.base.objs.size <= X.s₀.heap.objs.size
  noex : ∀ b o, X.base.get? b = some o -> b ∉ X.ex
  exfs : ∀ b ∈ X.ex, b ∉ X.fs
  funs : X.s₀.heap.FunFrames X.base X.outer
  frf : ∀ b ∈ X.fs, X.H₀ b = none
structure Inv (X : Cx) (pins : List (Addr × Obj)) (σ : List (Option V)) (H : Hp) (s : Shared) : Prop where
  ok : X.Ok
  os : s.os = X.s₀.os
  bare : AllBare s.gens
  base : Un X.fs X.ex X.H₀ H X.s₀.heap s.heap
  loc : ∃ m, s.heap.Ns X.env.locals m /\ ∀ (i : Nat) (x : Str) (v : V), X.N[i]? = some x -> σ[i]? = some (some v) -> Vis X.env.scope x -> ∃ u, RelV v u /\ Look X.env s.heap m x u
  cell : ∀ x c, X.env.cells.lookup x = some c -> ∃ v, s.heap.IsCell c v
  free : H X.env.locals = none
  freeC : ∀ x c, X.env.cells.lookup x = some c -> H c = none
  pin : ∀ p ∈ X.pn ++ pins, s.heap.get? p.1 = some p.2 /\ H p.1 = none /\ p.1 ≠ X.env.locals /\ p.1 ∉ X.fs /\ ∀ v, p.2.data ≠ .cell v
  hok : HOk X.prog X.w H s.heap
  len : σ.length = X.N.length
section
variable {X : Cx} {pins : List (Addr × Obj)} {σ : List (Option V)} {H H' : Hp} {s : Shared} {h' : Heap}
theorem Cx.Ok.nofr (ok : X.Ok) {b : Addr} {o : Obj} (e : X.base.get? b = some o) : b ∉ X.fs := fun hb => by
  have := (ok.funs.mem hb).1
  rw [e] at this; cases this
theorem Inv.bs (I : Inv X pins σ H s) : ∀ b o, X.base.get? b = some o -> s.heap.get? b = some o /\ H b = none := fun b o e =>
  ⟨I.base.keep b o (I.ok.bs b o e).1 (I.ok.bs b o e).2 (I.ok.nofr e) (I.ok.noex b o e), I.base.free b o (I.ok.bs b o e).1 (I.ok.bs b o e).2 (I.ok.noex b o e)⟩
theorem Inv.bk (I : Inv X pins σ H s) : ∀ b o, X.base.get? b = some o -> s.heap.get? b = some o := fun b o e => (I.bs b o e).1
theorem Inv.mod (I : Inv X pins σ H s) : Mod X.K X.mg X.base := I.ok.mod
theorem Inv.kIn (I : Inv X pins σ H s) : X.K.In s.heap := I.ok.mod.kin.keeps I.bk
theorem Inv.nolimit (I : Inv X pins σ H s) : s.heap.NoLimit := I.ok.mod.nolimit.keeps I.bk
theorem Inv.lt (I : Inv X pins σ H s) : X.env.locals < s.heap.objs.size := let ⟨_, hn, _⟩ := I.loc; hn.lt
theorem Inv.sz (I : Inv X pins σ H s) : X.s₀.heap.objs.size <= s.heap.objs.size := Nat.le_trans I.ok.above (Nat.le_of_lt I.lt)
theorem Inv.nofs (I : Inv X pins σ H s) {a : Addr} (h : s.heap.objs.size <= a) : a ∉ X.fs := fun hb => by
  obtain ⟨_, o, ho, _⟩ := I.ok.funs.mem hb
  exact absurd (Nat.lt_of_lt_of_le (Heap.lt_size ho) (Nat.le_trans I.sz h)) (Nat.lt_irrefl _)
theorem Inv.cne (I : Inv X pins σ H s) : ∀ x c, X.env.cells.lookup x = some c -> c ≠ X.env.locals := fun x c e z => by
  obtain ⟨v, o, ho, hd⟩ := I.cell x c e
  obtain ⟨m, ⟨o', es, ep, ho', hd', _⟩, _⟩ := I.loc
  rw [z, ho'] at ho; cases ho; rw [hd'] at hd; cases hd
theorem Inv.funs (I : Inv X pins σ H s) : s.heap.FunFrames X.base X.outer := by
  have all : ∀ (l : List Env), (∀ b ∈ frs l, b ∈ X.fs) -> X.s₀.heap.FunFrames X.base l -> s.heap.FunFrames X.base l := by
    intro l
    induction l with
    | nil => intro _ _; trivial
    | cons env r ih =>
      intro hs hl
      obtain ⟨hk, ⟨L, o, hf, hn, ho, hd⟩, hr⟩ := hl
      have hL : L ∈ X.fs := hs L (by unfold frs; rw [List.filterMap_cons, hf]; exact List.mem_cons_self)
      obtain ⟨sl, e⟩ := I.base.slot L o ho (I.ok.frf L hL) hL fun z => I.ok.exfs L z hL
      exact ⟨hk, ⟨L, _, hf, hn, e, hd⟩, ih (fun b hb => hs b (by unfold frs; rw [List.filterMap_cons, hf]; exact List.mem_cons_of_mem _ hb)) hr⟩
  exact all X.outer (fun _ hb => hb) I.ok.funs
theorem Inv.stack (I : Inv X pins σ H s) : s.heap.FunFrames X.base X.stack := by
  rcases I.ok.stk with e | ⟨e, hf⟩
  · rw [e]; exact I.funs
  · rw [e]
    obtain ⟨m, hn, _⟩ := I.loc
    refine .cons (by rw [I.ok.kind]; decide) hf hn ?_ I.funs
    exact Heap.get?_none_of_le (Nat.le_trans I.ok.bsz I.ok.above)
theorem Inv.stkSub (I : Inv X pins σ H s) : ∀ b ∈ frs X.stack, b ∈ X.env.locals :: X.fs := fun b hb => by
  rcases I.ok.stk with e | ⟨e, hf⟩
  · rw [e] at hb; exact List.mem_cons_of_mem _ hb
  · rw [e] at hb
    unfold frs at hb
    rw [List.filterMap_cons, hf] at hb
    exact hb
theorem Inv.stkFree (I : Inv X pins σ H s) : ∀ b ∈ frs X.stack, H b = none := fun b hb => by
  rcases List.mem_cons.mp (I.stkSub b hb) with e | hb
  · rw [e]; exact I.free
  · obtain ⟨_, o, ho, _⟩ := I.ok.funs.mem hb
    exact I.base.free b o ho (I.ok.frf b hb) fun z => I.ok.exfs b z hb
theorem Inv.step {g' : Array GenState} {t' : Nat} {d' : Drawn} {ch : List Addr} (I : Inv X pins σ H s)
    (hch : ∀ b ∈ ch, (b ∈ X.ex \/ X.s₀.heap.objs.size <= b) /\ b ≠ X.env.locals /\ (∀ x c, X.env.cells.lookup x = some c -> c ≠ b) /\ ∀ p ∈ X.pn ++ pins, p.1 ≠ b)
    (keep : ∀ b o, b ≠ X.env.locals -> b ∉ X.fs -> b ∉ ch -> s.heap.get? b = some o -> H b = none -> h'.get? b = some o)
    (slot : ∀ b o, b ≠ X.env.locals -> b ∈ X.fs -> b ∉ ch -> s.heap.get? b = some o -> H b = none -> ∃ sl, h'.get? b = some { o with slots := sl }) (free : ∀ b o, b ∉ ch -> s.heap.get? b = some o -> H b = none -> H' b = none)
    (there : ∀ b o, b ∉ ch -> s.heap.get? b = some o -> ∃ o', h'.get? b = some o')
    (tups : ∀ b xs, H b = some (.tup xs) -> H' b = some (.tup xs)) (frzs : ∀ b o u, H b = some (.frz o u) -> H' b = some (.frz o u)) (tbls : ∀ b ps, H b = some (.tbl ps) -> ∃ more, H' b = some (.tbl (ps ++ more)))
    (ns : ∀ m, s.heap.Ns X.env.locals m -> h'.Ns X.env.locals m) (hok : HOk X.prog X.w H' h') (hg : AllBare g') :
    Inv X pins σ H' { s with heap := h', gens := g', drawn := d', toks := t' } := by
  have neL : ∀ b o, X.s₀.heap.get? b = some o -> b ≠ X.env.locals := fun b o e => Nat.ne_of_lt (Nat.lt_of_lt_of_le (Heap.lt_size e) I.ok.above)
  have neC : ∀ b o, X.s₀.heap.get? b = some o -> b ∉ X.ex -> b ∉ ch := fun b o e hx hb => by
    rcases (hch b hb).1 with z | z
    · exact hx z
    · exact absurd (Nat.lt_of_lt_of_le (Heap.lt_size e) z) (Nat.lt_irrefl _)
  have cellK : ∀ x c, X.env.cells.lookup x = some c -> ∀ v, s.heap.IsCell c v -> h'.IsCell c v := fun x c e v ⟨o, ho, hd⟩ => by
    have nch : c ∉ ch := fun z => (hch c z).2.2.1 x c e rfl
    by_cases hc : c ∈ X.fs
    · obtain ⟨sl, q⟩ := slot c o (I.cne x c e) hc nch ho (I.freeC x c e)
      exact ⟨_, q, hd⟩
    · exact ⟨o, keep c o (I.cne x c e) hc nch ho (I.freeC x c e), hd⟩
  refine ⟨I.ok, I.os, hg, ⟨fun b o e n hb hx => ?_, fun b o e n hb hx => ?_, fun b o e n hx => ?_, fun b o e hx => ?_, fun b xs e => tups b xs (I.base.tups b xs e), fun b o xs e => frzs b o xs (I.base.frzs b o xs e), fun b ps e => ?_⟩, ?_, fun x c e => ?_, ?_, fun x c e => ?_, fun p hp => ?_, hok, I.len⟩
  · exact keep b o (neL b o e) hb (neC b o e hx) (I.base.keep b o e n hb hx) (I.base.free b o e n hx)
  · obtain ⟨sl, e1⟩ := I.base.slot b o e n hb hx
    obtain ⟨sl', e2⟩ := slot b _ (neL b o e) hb (neC b o e hx) e1 (I.base.free b o e n hx)
    exact ⟨sl', e2⟩
  · obtain ⟨o', e1⟩ := I.base.there b o e hx
    exact free b o' (neC b o e hx) e1 (I.base.free b o e n hx)
  · obtain ⟨o', e1⟩ := I.base.there b o e hx
    exact there b o' (neC b o e hx) e1
  · obtain ⟨m1, e1⟩ := I.base.tbls b ps e
    obtain ⟨m2, e2⟩ := tbls b _ e1
    exact ⟨m1 ++ m2, by rw [e2, Array.append_assoc]⟩
  · obtain ⟨m, hn, hl⟩ := I.loc
    refine ⟨m, ns m hn, fun i x v e1 e2 e3 => ?_⟩
    obtain ⟨u, r, l⟩ := hl i x v e1 e2 e3
    refine ⟨u, r, ?_⟩
    rcases l with l | ⟨k, c, e, z⟩
    · exact .inl l
    · exact .inr ⟨k, c, e, cellK x c e _ z⟩
  · obtain ⟨v, z⟩ := I.cell x c e
    exact ⟨v, cellK x c e v z⟩
  · obtain ⟨m, ⟨o, _, _, ho, _⟩, _⟩ := I.loc
    exact free _ o (fun z => (hch _ z).2.1 rfl) ho I.free
  · obtain ⟨v, o, ho, hd⟩ := I.cell x c e
    exact free c o (fun z => (hch c z).2.2.1 x c e rfl) ho (I.freeC x c e)
  · obtain ⟨e, n, ne, nf, d⟩ := I.pin p hp
    have nch : p.1 ∉ ch := fun z => (hch p.1 z).2.2.2 p hp rfl
    exact ⟨keep p.1 p.2 ne nf nch e n, free p.1 p.2 nch e n, ne, nf, d⟩
theorem Inv.un {t' : Nat} (I : Inv X pins σ H s) (u : Un X.fs [] H H' s.heap h') (hok : HOk X.prog X.w H' h') : Inv X pins σ H' { s with heap := h', toks := t' } := by
  obtain ⟨m, ⟨o, es, ep, ho, r⟩, _⟩ := id I.loc
  obtain ⟨sl, hL⟩ := u.any ho I.free (by simp)
  exact I.step (g' := s.gens) (d' := s.drawn) (ch := []) (fun _ z => nomatch z) (fun b o _ hb _ e n => u.keep b o e n hb (by simp)) (fun b o _ hb _ e n => u.slot b o e n hb (by simp)) (fun b o _ e n => u.free b o e n (by simp)) (fun b o _ e => u.there b o e (by simp)) u.tups u.frzs u.tbls (fun m' hm => by
    obtain ⟨o', es', ep', ho', r'⟩ := hm
    rw [ho] at ho'; cases ho'
    exact ⟨_, es', ep', hL, r'⟩) hok I.bare
theorem Inv.call {g' : Array GenState} {t' : Nat} {d' : Drawn} {ch : List Addr} (I : Inv X pins σ H s) (u : Un (frs X.stack) ch H H' s.heap h') (hok : HOk X.prog X.w H' h') (hg : AllBare g')
    (hch : ∀ b ∈ ch, (b ∈ X.ex \/ X.s₀.heap.objs.size <= b) /\ b ≠ X.env.locals /\ (∀ x c, X.env.cells.lookup x = some c -> c ≠ b) /\ ∀ p ∈ X.pn ++ pins, p.1 ≠ b) :
    Inv X pins σ H' { s with heap := h', gens := g', drawn := d', toks := t' } := by
  obtain ⟨m, ⟨o, es, ep, ho, r⟩, _⟩ := id I.loc
  obtain ⟨sl, hL⟩ := u.any ho I.free fun z => (hch _ z).2.1 rfl
  exact I.step (ch := ch) hch (fun b o hL hb hc e n => u.keep b o e n (fun z => (List.mem_cons.mp (I.stkSub b z)).elim hL hb) hc) (fun b o _ _ hc e n => u.any e n hc) (fun b o hc e n => u.free b o e n hc) (fun b o hc e => u.there b o e hc) u.tups u.frzs u.tbls (fun m' hm => by
    obtain ⟨o', es', ep', ho', r'⟩ := hm
    rw [ho] at ho'; cases ho'
    exact ⟨_, es', ep', hL, r'⟩) hok hg
theorem Inv.turned {t' : Nat} {it : Addr} (I : Inv X pins σ H s) (k : ∀ b o, b ≠ it -> s.heap.get? b = some o -> h'.get? b = some o) (hn : H it = none) (hL : it ≠ X.env.locals)
    (h1 : it ∈ X.ex \/ X.s₀.heap.objs.size <= it) (h2 : ∀ x c, X.env.cells.lookup x = some c -> c ≠ it) (h3 : ∀ p ∈ X.pn ++ pins, p.1 ≠ it) : Inv X pins σ H { s with heap := h', toks := t' } := by
  have nit : ∀ b u, H b = some u -> b ≠ it := fun b u e z => by rw [z, hn] at e; cases e
  refine I.step (g' := s.gens) (d' := s.drawn) (ch := [it]) (fun b hb => ?_) (fun b o _ _ hc e _ => k b o (fun z => hc (by simp [z])) e) (fun b o _ _ hc e _ => ⟨o.slots, k b o (fun z => hc (by simp [z])) e⟩) (fun _ _ _ _ n => n)
    (fun b o hc e => ⟨o, k b o (fun z => hc (by simp [z])) e⟩) (fun _ _ e => e) (fun _ _ _ e => e) (fun b ps e => ⟨#[], by rw [e]; simp⟩) (fun m hm => ?_) (fun b u e => ?_) I.bare
  · have e : b = it := by simpa using hb
    subst e
    exact ⟨h1, hL, h2, h3⟩
  · obtain ⟨o, es, ep, ho, r⟩ := hm
    exact ⟨o, es, ep, k _ o (Ne.symm hL) ho, r⟩
  · refine (I.hok b u e).stay (fun c v hc q => k c v ?_ q) (fun _ q => q) fun _ _ q => q
    rcases hc with z | z
    · rw [z]; exact nit b u e
    · exact nit c _ z
theorem Inv.tok (I : Inv X pins σ H s) (t : Nat) : Inv X pins σ H { s with toks := t } := I.un (h' := s.heap) (t' := t) Un.refl I.hok
theorem Inv.kept {t' : Nat} (I : Inv X pins σ H s) (k : ∀ b u, s.heap.get? b = some u -> h'.get? b = some u) : Inv X pins σ H { s with heap := h', toks := t' } := I.un (Un.kept k) (I.hok.kept k)
theorem Inv.laid {a : Addr} {o : HO} {t' : Nat} (I : Inv X pins σ H s) (k : ∀ b u, s.heap.get? b = some u -> h'.get? b = some u) (hp : s.heap.objs.size <= a) (new : ObjOk X.prog X.w (upd H a o) h' a o) :
    Inv X pins σ (upd H a o) { s with heap := h', toks := t' } := I.un (Un.laid k hp (I.hok.fresh hp)) (I.hok.laid k hp new)
theorem Inv.write {x e : Addr} {o : HO} {t' : Nat} (I : Inv X pins σ H s) (mu : Mut (H x)) (he : e = x \/ H e = some (.own x)) (k : ∀ b u, b ≠ e -> s.heap.get? b = some u -> h'.get? b = some u) (heo : ∃ u, h'.get? e = some u)
    (new : ObjOk X.prog X.w (upd H x o) h' x o) : Inv X pins σ (upd H x o) { s with heap := h', toks := t' } := I.un (Un.write mu he k heo) (I.hok.write mu he k heo new)
theorem Inv.pins_of {pins' : List (Addr × Obj)} (I : Inv X pins σ H s) (h : ∀ p ∈ pins', s.heap.get? p.1 = some p.2 /\ H p.1 = none /\ p.1 ≠ X.env.locals /\ p.1 ∉ X.fs /\ ∀ v, p.2.data ≠ .cell v) : Inv X pins' σ H s :=
  ⟨I.ok, I.os, I.bare, I.base, I.loc, I.cell, I.free, I.freeC, fun p hp => (List.mem_append.mp hp).elim (fun z => I.pin p (List.mem_append_left _ z)) (h p), I.hok, I.len⟩
theorem nodup_ix {N : List Str} (hN : N.Nodup) {i j : Nat} {x : Str} (a : N[i]? = some x) (b : N[j]? = some x) : i = j := by
  obtain ⟨h1, e1⟩ := List.getElem?_eq_some_iff.mp a
  obtain ⟨h2, e2⟩ := List.getElem?_eq_some_iff.mp b
  exact (List.getElem_inj hN).mp (e1.trans e2.symm)
theorem store_ok2 {M : Model} {A : Around} {E : Value -> Shared -> Prop} {i : Nat} {x : Str} {v : V} {u : Value} {Q : Unit -> Shared -> Prop} (I : Inv X pins σ H s) (hN : X.N.Nodup) (hi : X.N[i]? = some x) (hx : Loc X.env.scope x) (r : RelV v u)
    (h : ∀ s', Inv X pins (σ.set i (some v)) H s' -> (∃ a, Heap.SameBut a s.heap s'.heap /\ (a = X.env.locals \/ X.env.cells.lookup x = some a)) -> Q () s') (hf : X.fn x = true \/ X.env.scope.names.lookup x = some .local := by first | exact .inl rfl | exact .inr rfl | assumption) : wpAny M A (storeName X.env x u) Q E s := by
  obtain ⟨m, hn, hl⟩ := id I.loc
  have hcls : (X.env.scope.kind == .class || (X.env.scope.kind == .module && X.env.locals != X.env.globals)) = false := by rw [I.ok.kind]; rfl
  have hiσ : i < σ.length := by rw [I.len]; exact (List.getElem?_eq_some_iff.mp hi).1
  have cne := I.cne
  have tracked : ∀ {a : Addr} {h' : Heap}, (∃ o, s.heap.get? a = some o /\ H a = none) -> Heap.SameBut a s.heap h' -> HOk X.prog X.w H h' := fun {a h'} ha hs b ob e => by
    obtain ⟨_, _, hfree⟩ := ha
    refine (I.hok b ob e).stay (fun c w' hc q => (hs.2 c ?_).trans q) (fun _ q => q) fun _ _ q => q
    rintro rfl
    rcases hc with rfl | hc
    · rw [hfree] at e; cases e
    · rw [hfree] at hc; cases hc
  rcases hx with hk | hk
  · refine wpAny_storeName_local hk hn (fun h' hn' hs => ?_) hcls
    obtain ⟨oL, _, _, hoL, _⟩ := id hn
    refine h _ ⟨I.ok, I.os, I.bare, ⟨fun b o e n hb hx => ?_, fun b o e n hb hx => ?_, I.base.free, fun b o e hx => ?_, I.base.tups, I.base.frzs, I.base.tbls⟩, ⟨_, hn', fun j y v' e1 e2 e3 => ?_⟩, fun y c e => ?_, I.free, I.freeC, fun p hp => ?_, tracked ⟨oL, hoL, I.free⟩ hs, by simpa using I.len⟩ ⟨_, hs, .inl rfl⟩
    · exact (hs.2 b (Nat.ne_of_lt (Nat.lt_of_lt_of_le (Heap.lt_size e) I.ok.above))).trans (I.base.keep b o e n hb hx)
    · obtain ⟨sl, e1⟩ := I.base.slot b o e n hb hx
      exact ⟨sl, (hs.2 b (Nat.ne_of_lt (Nat.lt_of_lt_of_le (Heap.lt_size e) I.ok.above))).trans e1⟩
    · obtain ⟨o', e1⟩ := I.base.there b o e hx
      exact ⟨o', (hs.2 b (Nat.ne_of_lt (Nat.lt_of_lt_of_le (Heap.lt_size e) I.ok.above))).trans e1⟩
    · by_cases hj : j = i
      · subst hj
        rw [hi] at e1; cases e1
        rw [List.getElem?_set_self hiσ] at e2
        cases e2
        exact ⟨u, r, .inl ⟨hk, by simp⟩⟩
      · rw [List.getElem?_set_ne (Ne.symm hj)] at e2
        obtain ⟨u', r', q⟩ := hl j y v' e1 e2 e3
        refine ⟨u', r', ?_⟩
        rcases q with ⟨k, e⟩ | ⟨k, c, e, z⟩
        · refine .inl ⟨k, ?_⟩
          have : y ≠ x := fun e => hj (nodup_ix hN e1 (e ▸ hi))
          simp [this, e]
        · exact .inr ⟨k, c, e, z.sameBut hs (cne y c e)⟩
    · obtain ⟨w', z⟩ := I.cell y c e
      exact ⟨w', z.sameBut hs (cne y c e)⟩
    · obtain ⟨e, n, ne, nf, d⟩ := I.pin p hp
      exact ⟨(hs.2 p.1 ne).trans e, n, ne, nf, d⟩
  · have hfn : X.fn x = true := by
      rcases hf with z | z
      · exact z
      · rw [z] at hk; cases hk
    obtain ⟨c, hc⟩ := I.ok.has x (.inl hk)
    obtain ⟨w', z⟩ := I.cell x c hc
    refine wpAny_storeName_cell I.ok.kind hk hc z (fun h' hc' hs => ?_)
    obtain ⟨oc, hoc, hocd⟩ := id z
    refine h { s with heap := h' } ⟨I.ok, I.os, I.bare, ⟨fun b o e n hb hx => ?_, fun b o e n hb hx => ?_, I.base.free, fun b o e hx => ?_, I.base.tups, I.base.frzs, I.base.tbls⟩, ⟨m, hn.sameBut hs (Ne.symm (cne x c hc)), fun j y v' e1 e2 e3 => ?_⟩, fun y c' e => ?_, I.free, I.freeC, fun p hp => ?_, tracked ⟨oc, hoc, I.freeC x c hc⟩ hs, by simpa using I.len⟩ ⟨c, hs, .inr hc⟩
    · exact (hs.2 b (Nat.ne_of_lt (Nat.lt_of_lt_of_le (Heap.lt_size e) (I.ok.cab x c hfn hc)))).trans (I.base.keep b o e n hb hx)
    · obtain ⟨sl, e1⟩ := I.base.slot b o e n hb hx
      exact ⟨sl, (hs.2 b (Nat.ne_of_lt (Nat.lt_of_lt_of_le (Heap.lt_size e) (I.ok.cab x c hfn hc)))).trans e1⟩
    · obtain ⟨o', e1⟩ := I.base.there b o e hx
      exact ⟨o', (hs.2 b (Nat.ne_of_lt (Nat.lt_of_lt_of_le (Heap.lt_size e) (I.ok.cab x c hfn hc)))).trans e1⟩
    · by_cases hj : j = i
      · subst hj
        rw [hi] at e1; cases e1
        rw [List.getElem?_set_self hiσ] at e2
        cases e2
        exact ⟨u, r, .inr ⟨.inl hk, c, hc, hc'⟩⟩
      · rw [List.getElem?_set_ne (Ne.symm hj)] at e2
        obtain ⟨u', r', q⟩ := hl j y v' e1 e2 e3
        refine ⟨u', r', ?_⟩
        rcases q with q | ⟨k, c', e, z'⟩
        · exact .inl q
        · refine .inr ⟨k, c', e, z'.sameBut hs ?_⟩
          rintro rfl
          exact hj (nodup_ix hN e1 (I.ok.inj _ _ _ e hc ▸ hi))
    · by_cases hcc : c' = c
      · subst hcc; exact ⟨_, hc'⟩
      · obtain ⟨w2, z2⟩ := I.cell y c' e
        exact ⟨w2, z2.sameBut hs hcc⟩
    · obtain ⟨e, n, ne, nf, d⟩ := I.pin p hp
      refine ⟨(hs.2 p.1 ?_).trans e, n, ne, nf, d⟩
      intro q
      rw [q, hoc] at e
      have q' : oc = p.2 := Option.some.inj e
      exact d w' (by rw [<- q']; exact hocd)
theorem store_ok {M : Model} {A : Around} {E : Value -> Shared -> Prop} {i : Nat} {x : Str} {v : V} {u : Value} {Q : Unit -> Shared -> Prop} (I : Inv X pins σ H s) (hN : X.N.Nodup) (hi : X.N[i]? = some x) (hx : Loc X.env.scope x) (r : RelV v u)
    (h : ∀ s', Inv X pins (σ.set i (some v)) H s' -> Q () s') (hf : X.fn x = true \/ X.env.scope.names.lookup x = some .local := by first | exact .inl rfl | exact .inr rfl | assumption) : wpAny M A (storeName X.env x u) Q E s :=
  store_ok2 I hN hi hx r (fun s' I' _ => h s' I') hf
theorem Inv.call' {s' : Shared} {ch : List Addr} (I : Inv X pins σ H s) (ho : s'.os = s.os) (u : Un (frs X.stack) ch H H' s.heap s'.heap) (hok : HOk X.prog X.w H' s'.heap) (hg : AllBare s'.gens)
    (hch : ∀ b ∈ ch, (b ∈ X.ex \/ X.s₀.heap.objs.size <= b) /\ b ≠ X.env.locals /\ (∀ x c, X.env.cells.lookup x = some c -> c ≠ b) /\ ∀ p ∈ X.pn ++ pins, p.1 ≠ b) : Inv X pins σ H' s' := by
  obtain ⟨h', g', d', t', o'⟩ := s'
  have e : o' = s.os := ho
  subst e
  exact I.call (g' := g') (t' := t') (d' := d') u hok hg hch
end
abbrev XK := Value -> Option Addr -> Hp -> Prop
abbrev St := List (Option V)
abbrev VK := V -> Hp -> Prop
abbrev TE := St -> Hp -> VK -> Prop
abbrev TT := St -> Hp -> (Bool -> Hp -> Prop) -> Prop
abbrev TA := St -> Hp -> (List V -> Hp -> Prop) -> Prop
structure Ends where
  nx : St -> Hp -> Prop
  rt : VK
  bk : St -> Hp -> Prop := fun _ _ => False
  ct : St -> Hp -> Prop := fun _ _ => False
abbrev TS := Ends -> St -> Hp -> Prop
def EP (X : Cx) (pins : List (Addr × Obj)) (σ : St) (Q : VK) (u : Value) (s' : Shared) : Prop := ∃ v H', Inv X pins σ H' s' /\ RelV v u /\ Q v H'
def TP (X : Cx) (pins : List (Addr × Obj)) (σ : St) (Q : Bool -> Hp -> Prop) (b : Bool) (s' : Shared) : Prop := ∃ H', Inv X pins σ H' s' /\ Q b H'
def AP (X : Cx) (pins : List (Addr × Obj)) (σ : St) (Q : List V -> Hp -> Prop) (us : List Value) (s' : Shared) : Prop := ∃ vs H', Inv X pins σ H' s' /\ Vals vs us /\ Q vs H'
def SP (X : Cx) (pins : List (Addr × Obj)) (D : Ends) (f : Flow) (s' : Shared) : Prop :=
  match f with
  | .next => ∃ σ' H', Inv X pins σ' H' s' /\ D.nx σ' H'
  | .brk => ∃ σ' H', Inv X pins σ' H' s' /\ D.bk σ' H'
  | .cont => ∃ σ' H', Inv X pins σ' H' s' /\ D.ct σ' H'
  | .ret u => ∃ v σ' H', Inv X pins σ' H' s' /\ RelV v u /\ D.rt v H'
def PE (X : Cx) (e : Expr) (t : TE) : Prop :=
  ∀ (pins : List (Addr × Obj)) (s : Shared) (σ : St) (H : Hp) (Q : VK), Inv X pins σ H s -> t σ H Q -> wpAny (model X.prog X.w) X.A (eval e X.env) (EP X pins σ Q) X.xe s
def PT (X : Cx) (e : Expr) (t : TT) : Prop :=
  ∀ (pins : List (Addr × Obj)) (s : Shared) (σ : St) (H : Hp) (Q : Bool -> Hp -> Prop), Inv X pins σ H s -> t σ H Q -> wpAny (model X.prog X.w) X.A (isTrue e X.env (eval e X.env)) (TP X pins σ Q) X.xe s
def PW (X : Cx) (e : Expr) (t : TT) : Prop :=
  ∀ (whole : Sem Value) (pins : List (Addr × Obj)) (s : Shared) (σ : St) (H : Hp) (Q : Bool -> Hp -> Prop), Inv X pins σ H s -> t σ H Q -> wpAny (model X.prog X.w) X.A (isTrue e X.env whole) (TP X pins σ Q) X.xe s
theorem PW.pt {X : Cx} {e : Expr} {t : TT} (h : PW X e t) : PT X e t := h _
def PA (X : Cx) (es : List Expr) (t : TA) : Prop :=
  ∀ (pos : Pos) (pins : List (Addr × Obj)) (s : Shared) (σ : St) (H : Hp) (Q : List V -> Hp -> Prop), Inv X pins σ H s -> t σ H Q -> wpAny (model X.prog X.w) X.A (spliced (backTo pos (starEach es X.env))) (AP X pins σ Q) X.xe s
def PS (X : Cx) (st : Stmt) (t : TS) : Prop :=
  ∀ (pins : List (Addr × Obj)) (s : Shared) (σ : St) (H : Hp) (D : Ends), Inv X pins σ H s -> t D σ H -> wpAny (model X.prog X.w) X.A (exec st X.env) (SP X pins D) X.xe s
def PSs (X : Cx) (st : List Stmt) (t : TS) : Prop :=
  ∀ (pins : List (Addr × Obj)) (s : Shared) (σ : St) (H : Hp) (D : Ends), Inv X pins σ H s -> t D σ H -> wpAny (model X.prog X.w) X.A (execs st X.env) (SP X pins D) X.xe s
theorem thn {α : Type} {t : Sem α} {Q Q' : α -> Shared -> Prop} {M : Model} {A : Around} {E : Value -> Shared -> Prop} {s : Shared} (h : wpAny M A t Q E s) (hQ : ∀ a s, Q a s -> Q' a s) : wpAny M A t Q' E s := wpAny_mono h hQ fun _ _ x => x
end L2
namespace L2
open PySem PySem.Spec PyProof.Rows
section
variable {X : Cx}
def tVar (i : Nat) : TE := fun σ H Q => ∃ v, σ[i]? = some (some v) /\ Q v H
def tC (v : V) : TE := fun _ H Q => Q v H
theorem pe_var {i : Nat} {x : Str} {pos : Pos} (hN : X.N[i]? = some x) (hv : Vis X.env.scope x) (hd : (x == ("__debug__" : Str)) = false := by decide) (hcd : (x == ("__classdict__" : Str)) = false := by decide) : PE X (.Name x pos) (tVar i) := by
  intro pins s σ H Q I h
  obtain ⟨v, e, h⟩ := h
  obtain ⟨m, hn, hl⟩ := I.loc
  obtain ⟨u, r, l⟩ := hl i x v hN e hv
  have fin : EP X pins σ Q u s := ⟨v, H, I, r, h⟩
  rcases l with ⟨hk, hm⟩ | ⟨hk, c, hc, hcell⟩
  · exact wpAny_Name (wpAny_loadName_local I.ok.kind hk hn hm fin) hd
  · rcases hk with hk | hk
    · exact wpAny_Name (wpAny_loadName_cell I.ok.kind hk hc hcell fin) hd
    · exact wpAny_Name (wpAny_loadName_free I.ok.kind hk hc hcell fin hcd) hd
theorem zK {i j pos} : PE X (.Constant (.int i) j pos) (tC (.int i)) := fun _ _ _ H _ I h => wpAny_Constant_int ⟨.int i, H, I.tok _, ⟨_, rfl⟩, h⟩
theorem uV {b j pos} : PE X (.Constant (.bool b) j pos) (tC (.bl b)) := fun _ _ _ H _ I h => Constant_bool ⟨.bl b, H, I, rfl, h⟩
theorem pe_non {j pos} : PE X (.Constant .none j pos) (tC .non) := fun _ _ _ H _ I h => Constant_none ⟨.non, H, I, rfl, h⟩
def Gl (X : Cx) (x : Str) : Prop := X.env.kindOf x = some .globalImplicit
theorem ld_glob {E : Value -> Shared -> Prop} {pins : List (Addr × Obj)} {s : Shared} {σ : St} {H : Hp} {x : Str} {u : Value} {pos : Pos} {Q : Value -> Shared -> Prop} (I : Inv X pins σ H s) (hg : Gl X x) (hm : X.mg x = some u) (h : Q u s)
    (hd : (x == ("__debug__" : Str)) = false := by decide) : wpAny (model X.prog X.w) X.A (eval (.Name x pos) X.env) Q E s :=
  Calls.Name_function_global I.ok.kind hg (Calls.loadGlobal_global (by rw [I.ok.glob]; exact I.mod.glob.keeps I.bk) hm h) hd
theorem ld_blt {E : Value -> Shared -> Prop} {pins : List (Addr × Obj)} {s : Shared} {σ : St} {H : Hp} {x : Str} {u : Value} {pos : Pos} {Q : Value -> Shared -> Prop} (I : Inv X pins σ H s) (hg : Gl X x) (hm : X.mg x = none) (hv : bootBuiltins x = some u) (h : Q u s)
    (hn : x ≠ "__name__" := by decide) (hd : (x == ("__debug__" : Str)) = false := by decide) : wpAny (model X.prog X.w) X.A (eval (.Name x pos) X.env) Q E s := by
  obtain ⟨mb, h1, h2⟩ := I.mod.blt
  exact Calls.Name_function_global I.ok.kind hg (Calls.loadGlobal_builtin (by rw [I.ok.glob]; exact I.mod.glob.keeps I.bk) hm (by rw [I.ok.blt]; exact h1.keeps I.bk) ((h2 x hn).trans hv) h) hd
theorem pe_glob {x : Str} {v : V} {u : Value} {pos : Pos} (hg : Gl X x) (hm : X.mg x = some u) (r : RelV v u) (hd : (x == ("__debug__" : Str)) = false := by decide) : PE X (.Name x pos) (tC v) :=
  fun _ _ _ H _ I h => ld_glob I hg hm ⟨v, H, I, r, h⟩ hd
theorem pe_bltn {x : Str} {v : V} {u : Value} {pos : Pos} (hg : Gl X x) (hm : X.mg x = none) (hv : bootBuiltins x = some u) (r : RelV v u) (hn : x ≠ "__name__" := by decide) (hd : (x == ("__debug__" : Str)) = false := by decide) : PE X (.Name x pos) (tC v) :=
  fun _ _ _ H _ I h => ld_blt I hg hm hv ⟨v, H, I, r, h⟩ hn hd
variable {a b : Expr} {ta tb : TE} {pos : Pos}
def PC (X : Cx) (op : CmpOp) (a b : Expr) (t : TE) : Prop :=
  ∀ (pins : List (Addr × Obj)) (s : Shared) (σ : St) (H : Hp) (Q : VK), Inv X pins σ H s -> t σ H Q ->
    wpAny (model X.prog X.w) X.A (eval a X.env) (fun v s₁ => wpAny (model X.prog X.w) X.A (eval b X.env) (fun u s₂ => wpAny (model X.prog X.w) X.A (compareOp op v u) (EP X pins σ Q) X.xe s₂) X.xe s₁) X.xe s
theorem nobehind (b : Expr) {op : CmpOp} (h : op ≠ .In) (h2 : op ≠ .NotIn) : behindInMarks op b = false := by
  have e1 : (op == CmpOp.In) = false := by cases op <;> first | rfl | exact absurd rfl h
  have e2 : (op == CmpOp.NotIn) = false := by cases op <;> first | rfl | exact absurd rfl h2
  cases b <;> simp [behindInMarks, e1, e2]
def tIsN (ta : TE) : TE := fun σ H Q => ta σ H fun x H1 => Q (.bl (decide (x = .non))) H1
def tNotN (ta : TE) : TE := fun σ H Q => ta σ H fun x H1 => Q (.bl (!decide (x = .non))) H1
theorem RelV.none_iff {x : V} {v : Value} (r : RelV x v) : (v == Value.none) = decide (x = .non) := by
  cases x with
  | non => cases r; rfl
  | bl _ => cases r; rfl
  | int _ => obtain ⟨t, rfl⟩ := r; rfl
  | str _ => obtain ⟨t, rfl⟩ := r; rfl
  | byt _ => obtain ⟨t, rfl⟩ := r; rfl
  | flt _ => obtain ⟨t, rfl⟩ := r; rfl
  | ref _ => cases r; rfl
  | ty _ => cases r; rfl
theorem pc_isN {j pos'} (ha : PE X a ta) : PC X .Is a (.Constant .none j pos') (tIsN ta) := by
  intro pins s σ H Q I h
  refine thn (ha pins s σ H _ I h) fun v s1 ⟨x, H1, I1, r1, q1⟩ => ?_
  exact Constant_none (is_none_gen ⟨.bl _, H1, I1, by rw [r1.none_iff]; rfl, q1⟩)
theorem pc_notN {j pos'} (ha : PE X a ta) : PC X .IsNot a (.Constant .none j pos') (tNotN ta) := by
  intro pins s σ H Q I h
  refine thn (ha pins s σ H _ I h) fun v s1 ⟨x, H1, I1, r1, q1⟩ => ?_
  exact Constant_none (isnot_none_gen ⟨.bl _, H1, I1, by rw [r1.none_iff]; rfl, q1⟩)
def tB (t : TE) : TT := fun σ H Q => t σ H fun x H1 => ∃ c, x = .bl c /\ Q c H1
theorem vI {op : CmpOp} {t : TE} (h : PC X op a b t) (h1 : behindInMarks op b = false := by first | exact nobehind _ (by decide) (by decide) | rfl) : PT X (.Compare a [op] [b] pos) (tB t) := by
  intro pins s σ H Q I hw
  refine wpAny_isTrue_Compare1 (thn (h pins s σ H _ I hw) fun v s1 h1 => thn h1 fun u s2 h2 => thn h2 fun c s3 ⟨x, H1, I1, r1, q1⟩ => ?_) h1
  obtain ⟨d, rfl, q⟩ := q1
  cases r1
  exact wpAny_truthy_bool ⟨H1, I1, q⟩
theorem pt_val {e : Expr} {t : TE} (h : PE X e t) (he : ∀ whole, isTrue e X.env whole = (do let v <- whole; standAt e.pos; holding [v] (truthy v)) := by intro _; rfl) : PT X e (tB t) := by
  intro pins s σ H Q I hw
  refine isTrue_plain (thn (h pins s σ H _ I hw) fun v s1 ⟨x, H1, I1, r1, q1⟩ => ?_) (he _)
  obtain ⟨d, rfl, q⟩ := q1
  cases r1
  exact wpAny_truthy_bool ⟨H1, I1, q⟩
variable {tA tB' : TT} {rest : List Expr}
def tAnd (t u : TT) : TT := fun σ H Q => t σ H fun c H1 => if c = true then u σ H1 Q else Q false H1
def tOr (t u : TT) : TT := fun σ H Q => t σ H fun c H1 => if c = true then Q true H1 else u σ H1 Q
def tNot (t : TT) : TT := fun σ H Q => t σ H fun c H1 => Q (!c) H1
theorem pw_and1 (ha : PT X a tA) : PW X (.BoolOp .And [a] pos) tA := by
  intro wh pins s σ H Q I h
  refine isTrue_and (thn (ha pins s σ H Q I h) fun c s1 e => ?_)
  cases c with
  | true => exact isTrue_and_nil e
  | false => exact e
theorem pw_or1 (ha : PT X a tA) : PW X (.BoolOp .Or [a] pos) tA := by
  intro wh pins s σ H Q I h
  refine isTrue_or (thn (ha pins s σ H Q I h) fun c s1 e => ?_)
  cases c with
  | false => exact isTrue_or_nil e
  | true => exact e
theorem pw_and (ha : PT X a tA) (hb : PW X (.BoolOp .And (b :: rest) pos) tB') : PW X (.BoolOp .And (a :: b :: rest) pos) (tAnd tA tB') := by
  intro wh pins s σ H Q I h
  refine isTrue_and (thn (ha pins s σ H _ I h) fun c s1 ⟨H1, I1, q1⟩ => ?_)
  cases c with
  | true => exact hb wh pins s1 σ H1 Q I1 q1
  | false => exact ⟨H1, I1, q1⟩
theorem pw_or (ha : PT X a tA) (hb : PW X (.BoolOp .Or (b :: rest) pos) tB') : PW X (.BoolOp .Or (a :: b :: rest) pos) (tOr tA tB') := by
  intro wh pins s σ H Q I h
  refine isTrue_or (thn (ha pins s σ H _ I h) fun c s1 ⟨H1, I1, q1⟩ => ?_)
  cases c with
  | true => exact ⟨H1, I1, q1⟩
  | false => exact hb wh pins s1 σ H1 Q I1 q1
theorem pt_not (ha : PT X a tA) : PT X (.UnaryOp .Not a pos) (tNot tA) := by
  intro pins s σ H Q I h
  exact isTrue_not (ha pins s σ H (fun c H1 => Q (!c) H1) I h)
def tAndV (ta tb : TE) : TE := fun σ H Q => ta σ H fun x H1 => ∃ c, x = .bl c /\ if c = true then tb σ H1 Q else Q (.bl false) H1
def tNotV (ta : TE) : TE := fun σ H Q => ta σ H fun x H1 => ∃ c, x = .bl c /\ Q (.bl (!c)) H1
theorem pe_one {op} {t : TE} (h : PE X a t) : PE X (.BoolOp op [a] pos) t := fun pins s σ H Q I hw => BoolOp_one (h pins s σ H Q I hw)
theorem pe_and (ha : PE X a ta) (hb : PE X (.BoolOp .And (b :: rest) pos) tb) : PE X (.BoolOp .And (a :: b :: rest) pos) (tAndV ta tb) := by
  intro pins s σ H Q I h
  refine BoolOp_and (thn (ha pins s σ H _ I h) fun v s1 ⟨x, H1, I1, r1, q1⟩ => ?_)
  obtain ⟨c, rfl, q1⟩ := q1
  cases r1
  refine wpAny_truthy_bool ?_
  cases c with
  | true => exact hb pins s1 σ H1 Q I1 q1
  | false => exact ⟨.bl false, H1, I1, rfl, q1⟩
theorem pe_not (ha : PE X a ta) : PE X (.UnaryOp .Not a pos) (tNotV ta) := by
  intro pins s σ H Q I h
  refine UnaryOp_ (thn (ha pins s σ H _ I h) fun v s1 ⟨x, H1, I1, r1, q1⟩ => ?_)
  obtain ⟨c, rfl, q1⟩ := q1
  cases r1
  exact not_of (wpAny_truthy_bool ⟨.bl (!c), H1, I1, rfl, q1⟩)
def tIf (t : TT) (ta tb : TE) : TE := fun σ H Q => t σ H fun c H1 => if c = true then ta σ H1 Q else tb σ H1 Q
theorem pe_ifExp {c : Expr} (hc : PT X c tA) (ha : PE X a ta) (hb : PE X b tb) : PE X (.IfExp c a b pos) (tIf tA ta tb) := by
  intro pins s σ H Q I h
  refine wpAny_IfExp (thn (hc pins s σ H _ I h) fun d s1 ⟨H1, I1, q1⟩ => ?_)
  cases d with
  | true => exact ha pins s1 σ H1 Q I1 q1
  | false => exact hb pins s1 σ H1 Q I1 q1
end
end L2
namespace L2
open PySem PySem.Spec PyProof.Rows
def SqL (K : PySem.W.Frag) (H : Hp) (a : Addr) (xs : List V) : Prop :=
  Rd H a (.lst xs) \/
    ∃ (o : Obj) (its : Array Value) (n : Nat), K.lookup a = some o /\ o.cls = .type "list" /\ o.dict = none /\ o.data = .seq its n /\ its.size <= sizeLine /\ Vals xs its.toList
def SqT (K : PySem.W.Frag) (H : Hp) (a : Addr) (xs : List V) : Prop :=
  Rd H a (.tup xs) \/
    ∃ (o : Obj) (its : Array Value) (n : Nat), K.lookup a = some o /\ o.cls = .type "tuple" /\ o.data = .seq its n /\ its.size <= sizeLine /\ Vals xs its.toList
def absV : Value -> Option V
  | .none => some .non
  | .bool b => some (.bl b)
  | .int i _ => some (.int i)
  | .str x _ => some (.str x)
  | .bytes b _ => some (.byt b)
  | .float b _ => some (.flt b)
  | .ref a => some (.ref a)
  | .type n => some (.ty n)
  | _ => none
theorem RelV.abs {x : V} {u : Value} (r : RelV x u) : absV u = some x := by
  cases x with
  | non => cases r; rfl
  | bl _ => cases r; rfl
  | int _ => obtain ⟨t, rfl⟩ := r; rfl
  | str _ => obtain ⟨t, rfl⟩ := r; rfl
  | byt _ => obtain ⟨t, rfl⟩ := r; rfl
  | flt _ => obtain ⟨t, rfl⟩ := r; rfl
  | ref _ => cases r; rfl
  | ty _ => cases r; rfl
theorem RelV.inj {x y : V} {u : Value} (r : RelV x u) (q : RelV y u) : x = y := Option.some.inj (r.abs.symm.trans q.abs)
theorem Vals.inj : ∀ {xs ys : List V} {us : List Value}, Vals xs us -> Vals ys us -> xs = ys
  | _, _, _, .nil, .nil => rfl
  | _, _, _, .cons r t, .cons r' t' => by rw [r.inj r', Vals.inj t t']
section
variable {X : Cx} {pins : List (Addr × Obj)} {σ : St} {H : Hp} {s : Shared} {a : Addr} {xs ys : List V}
theorem SqL.of {K : PySem.W.Frag} (h : H a = some (.lst xs)) : SqL K H a xs := .inl (.inl h)
theorem SqT.of {K : PySem.W.Frag} (h : H a = some (.tup xs)) : SqT K H a xs := .inl (.inl h)
theorem Inv.list (I : Inv X pins σ H s) (h : SqL X.K H a xs) : ∃ its : List Value, Vals xs its /\ PlainL s.heap a its.toArray /\ xs.length <= sizeLine := by
  rcases h with h | ⟨o, its, n, hk, hc, hd, hs, hz, r⟩
  · obtain ⟨z, its, n, r, e⟩ := h.ok I.hok
    exact ⟨its, r, ⟨_, n, e, rfl, rfl, rfl⟩, z⟩
  · refine ⟨its.toList, r, ⟨o, n, I.kIn a o hk, hc, hd, by simpa using hs⟩, ?_⟩
    have e := r.length
    simp only [Array.length_toList] at e
    omega
theorem Inv.tuple (I : Inv X pins σ H s) (h : SqT X.K H a xs) : ∃ its : List Value, Vals xs its /\ IsTup s.heap a its.toArray /\ xs.length <= sizeLine := by
  rcases h with h | ⟨o, its, n, hk, hc, hs, hz, r⟩
  · obtain ⟨z, its, r, p⟩ := h.ok I.hok
    exact ⟨its, r, p, z⟩
  · refine ⟨its.toList, r, ⟨o, I.kIn a o hk, hc, n, by simpa using hs⟩, ?_⟩
    have e := r.length
    simp only [Array.length_toList] at e
    omega
theorem Inv.list_inj (I : Inv X pins σ H s) (h : SqL X.K H a xs) (h' : SqL X.K H a ys) : xs = ys := by
  obtain ⟨its, r, ⟨o, n, e, _, _, d⟩, _⟩ := I.list h
  obtain ⟨its', r', ⟨o', n', e', _, _, d'⟩, _⟩ := I.list h'
  rw [e] at e'; cases e'
  rw [d] at d'
  injection d' with d1 _
  have : its = its' := by simpa using congrArg Array.toList d1
  subst this
  exact r.inj r'
end
abbrev Cx.wish (X : Cx) (E : Value -> Shared -> Prop) : Cx := { X with xe := E }
abbrev Cx.nox (X : Cx) : Cx := X.wish fun _ _ => False
theorem Cx.Ok.wish {X : Cx} (ok : X.Ok) (E : Value -> Shared -> Prop) : (X.wish E).Ok :=
  ⟨ok.mod, ok.kind, ok.glob, ok.blt, ok.above, ok.inj, ok.has, ok.cab, ok.hd, ok.frames, ok.stk, ok.exf, ok.bs, ok.bsz, ok.noex, ok.exfs, ok.funs, ok.frf⟩
theorem Cx.Ok.unwish {X : Cx} {E : Value -> Shared -> Prop} (ok : (X.wish E).Ok) : X.Ok :=
  ⟨ok.mod, ok.kind, ok.glob, ok.blt, ok.above, ok.inj, ok.has, ok.cab, ok.hd, ok.frames, ok.stk, ok.exf, ok.bs, ok.bsz, ok.noex, ok.exfs, ok.funs, ok.frf⟩
section
variable {X : Cx} {pins : List (Addr × Obj)} {σ : St} {H : Hp} {s : Shared} {E : Value -> Shared -> Prop}
theorem Inv.wish (I : Inv X pins σ H s) (E : Value -> Shared -> Prop) : Inv (X.wish E) pins σ H s := ⟨I.ok.wish E, I.os, I.bare, I.base, I.loc, I.cell, I.free, I.freeC, I.pin, I.hok, I.len⟩
theorem Inv.unwish (I : Inv (X.wish E) pins σ H s) : Inv X pins σ H s := ⟨I.ok.unwish, I.os, I.bare, I.base, I.loc, I.cell, I.free, I.freeC, I.pin, I.hok, I.len⟩
theorem SP.unwish {D : Ends} {f : Flow} {s' : Shared} (h : SP (X.wish E) pins D f s') : SP X pins D f s' := by
  cases f with
  | next => obtain ⟨σ', H', I, q⟩ := h; exact ⟨σ', H', I.unwish, q⟩
  | brk => obtain ⟨σ', H', I, q⟩ := h; exact ⟨σ', H', I.unwish, q⟩
  | cont => obtain ⟨σ', H', I, q⟩ := h; exact ⟨σ', H', I.unwish, q⟩
  | ret u => obtain ⟨v, σ', H', I, r, q⟩ := h; exact ⟨v, σ', H', I.unwish, r, q⟩
theorem PSs.nox {st : List Stmt} {t : TS} (h : PSs X.nox st t) : PSs X st t := fun pins s σ H D I hw =>
  wpAny_mono (h pins s σ H D (I.wish _) hw) (fun _ _ q => q.unwish) fun _ _ z => False.elim z
end
section
variable {X : Cx} {st : Stmt} {rest : List Stmt} {t u : TS} {e : Expr} {te : TE} {pos : Pos}
def tNext : TS := fun D σ H => D.nx σ H
def tSeq (t u : TS) : TS := fun D σ H => t { D with nx := u D } σ H
theorem zE : PSs X [] tNext := fun _ _ σ H _ I h => wpAny_execs_nil ⟨σ, H, I, h⟩
theorem zA (h1 : PS X st t) (h2 : PSs X rest u) : PSs X (st :: rest) (tSeq t u) := by
  intro pins s σ H D I h
  refine wpAny_execs_cons (thn (h1 pins s σ H { D with nx := u D } I h) fun f s1 q => ?_)
  cases f with
  | next =>
    obtain ⟨σ', H', I', q⟩ := q
    exact h2 pins s1 σ' H' D I' q
  | ret v => exact q
  | brk => exact q
  | cont => exact q
theorem pss_one (h1 : PS X st t) : PSs X [st] t := by
  intro pins s σ H D I h
  refine wpAny_execs_cons (thn (h1 pins s σ H D I h) fun f s1 q => ?_)
  cases f with
  | next => exact wpAny_execs_nil q
  | ret v => exact q
  | brk => exact q
  | cont => exact q
theorem Inv.quiet {pins : List (Addr × Obj)} {σ : St} {H : Hp} {s : Shared} (I : Inv X pins σ H s) : interactive X.env = false := by simp [interactive, I.ok.kind]
def tDrop (te : TE) : TS := fun D σ H => te σ H fun _ H1 => D.nx σ H1
theorem yU (he : PE X e te) (hs : swapsWith e none pos.line X.env = pure false := by rfl) : PS X (.Expr e pos) (tDrop te) := by
  intro pins s σ H D I h
  exact wpAny_Expr_any (thn (he pins s σ H _ I h) fun v s1 ⟨x, H1, I1, r1, q1⟩ => ⟨σ, H1, I1, q1⟩) I.quiet hs
def tRet (te : TE) : TS := fun D σ H => te σ H D.rt
theorem yA (he : PE X e te) : PS X (.Return (some e) pos) (tRet te) := by
  intro pins s σ H D I h
  exact wpAny_Return_some (thn (he pins s σ H _ I h) fun v s1 ⟨x, H1, I1, r1, q1⟩ => ⟨x, σ, H1, I1, r1, q1⟩)
def tIfS (c : TT) (t u : TS) : TS := fun D σ H => c σ H fun b H1 => if b = true then t D σ H1 else u D σ H1
theorem xW {c : Expr} {a b : List Stmt} {tc : TT} (hc : PT X c tc) (ha : PSs X a t) (hb : PSs X b u) : PS X (.If c a b pos) (tIfS tc t u) := by
  intro pins s σ H D I h
  refine wpAny_If (thn (hc pins s σ H _ I h) fun d s1 ⟨H1, I1, q1⟩ => ?_)
  cases d with
  | true => exact ha pins s1 σ H1 D I1 q1
  | false => exact hb pins s1 σ H1 D I1 q1
def tNever : TS := fun _ _ _ => False
theorem vJ {sts : List Stmt} : PSs X sts tNever := fun _ _ _ _ _ _ h => h.elim
end
abbrev TG := V -> St -> Hp -> (St -> Hp -> Prop) -> Prop
abbrev TGs := List V -> St -> Hp -> (St -> Hp -> Prop) -> Prop
def PG (X : Cx) (target : Expr) (t : TG) : Prop :=
  ∀ (pins : List (Addr × Obj)) (s : Shared) (σ : St) (H : Hp) (v : V) (u : Value) (Q : St -> Hp -> Prop), Inv X pins σ H s -> RelV v u -> t v σ H Q ->
    wpAny (model X.prog X.w) X.A (assign target X.env u) (fun _ s' => ∃ σ' H', Inv X pins σ' H' s' /\ Q σ' H') X.xe s
def PGs (X : Cx) (ts : List Expr) (t : TGs) : Prop :=
  ∀ (pins : List (Addr × Obj)) (s : Shared) (σ : St) (H : Hp) (vs : List V) (us : List Value) (Q : St -> Hp -> Prop), Inv X pins σ H s -> Vals vs us -> t vs σ H Q ->
    wpAny (model X.prog X.w) X.A (assignInOrder ((assignEach ts X.env).map (·.2)) us) (fun _ s' => ∃ σ' H', Inv X pins σ' H' s' /\ Q σ' H') X.xe s
abbrev TSet := V -> V -> V -> Hp -> (Hp -> Prop) -> Prop
def PSet (X : Cx) (t : TSet) : Prop :=
  ∀ (pins : List (Addr × Obj)) (s : Shared) (σ : St) (H : Hp) (o i v : V) (ov iv u : Value) (Q : Hp -> Prop), Inv X pins σ H s -> RelV o ov -> RelV i iv -> RelV v u -> t o i v H Q ->
    wpAny (model X.prog X.w) X.A (setItem ov iv u) (fun _ s' => ∃ H', Inv X pins σ H' s' /\ Q H') X.xe s
abbrev TIp := V -> V -> Hp -> VK -> Prop
def PIp (X : Cx) (op : Operator) (t : TIp) : Prop :=
  ∀ (pins : List (Addr × Obj)) (s : Shared) (σ : St) (H : Hp) (x y : V) (v u : Value) (Q : VK), Inv X pins σ H s -> RelV x v -> RelV y u -> t x y H Q ->
    wpAny (model X.prog X.w) X.A (inplaceOp op v u) (EP X pins σ Q) X.xe s
section
variable {X : Cx} {pos : Pos}
def gName (i : Nat) : TG := fun v σ H Q => Q (σ.set i (some v)) H
theorem zL {i : Nat} {x : Str} (hN : X.N.Nodup) (hi : X.N[i]? = some x) (hx : Loc X.env.scope x) (hf : X.fn x = true \/ X.env.scope.names.lookup x = some .local := by first | exact .inl rfl | exact .inr rfl | assumption) : PG X (.Name x pos) (gName i) := by
  intro pins s σ H v u Q I r h
  exact wpAny_assign_Name (store_ok I hN hi hx r (fun s' I' => ⟨_, H, I', h⟩) hf)
def gNil : TGs := fun vs σ H Q => vs = [] /\ Q σ H
def gCons (t : TG) (u : TGs) : TGs := fun vs σ H Q => ∃ v r, vs = v :: r /\ t v σ H fun σ' H' => u r σ' H' Q
theorem uT : PGs X [] gNil := by
  intro pins s σ H vs us Q I r h
  obtain ⟨e, h⟩ := h
  subst e
  cases r
  exact assignInOrder_nil ⟨σ, H, I, h⟩
theorem xG {e : Expr} {es : List Expr} {t : TG} {u : TGs} (h1 : PG X e t) (h2 : PGs X es u)
    (hs : (assignEach (e :: es) X.env).map (·.2) = assign e X.env :: (assignEach es X.env).map (·.2) := by rfl) : PGs X (e :: es) (gCons t u) := by
  intro pins s σ H vs us Q I r h
  obtain ⟨v, vr, e1, h⟩ := h
  subst e1
  cases r with
  | cons r rr =>
    rw [hs]
    refine assignInOrder_cons (thn (h1 pins s σ H _ _ _ I r h) fun _ s1 ⟨σ1, H1, I1, q1⟩ => ?_)
    exact h2 pins s1 σ1 H1 _ _ Q I1 rr q1
def gTup (K : PySem.W.Frag) (n : Nat) (t : TGs) : TG := fun v σ H Q => ∃ a xs, v = .ref a /\ SqT K H a xs /\ xs.length = n /\ t xs σ H Q
theorem pg_tup {es : List Expr} {k : Nat} {t : TGs} {n : Nat} (hc : X.calm = true) (h : PGs X es t)
    (hn : (assignEach es X.env).length = n := by rfl) (hst : (assignEach es X.env).findIdx? (·.1) = none := by rfl) : PG X (.Tuple es k pos) (gTup X.K n t) := by
  intro pins s σ H v u Q I r hw
  obtain ⟨a, xs, e1, hq, hl, hw⟩ := hw
  subst e1
  cases r
  obtain ⟨its, rv, ht, hz⟩ := I.tuple hq
  refine assign_Tuple_tuple (I.ok.hd hc) ht (by simp [hn, <- hl, rv.length]) hst fun h' hx => ?_
  have I1 : Inv X pins σ H { s with heap := h' } := I.kept (t' := s.toks) fun b o e => hx b o (Nat.ne_of_lt (Heap.lt_size e)) e
  exact h pins _ σ H xs _ Q I1 (by simpa using rv) hw
def gSub (to ti : TE) (t : TSet) : TG := fun v σ H Q => to σ H fun o H1 => ti σ H1 fun i H2 => t o i v H2 fun H3 => Q σ H3
theorem pg_sub {o i : Expr} {to ti : TE} {t : TSet} (ho : PE X o to) (hi : PE X i ti) (hs : PSet X t)
    (ha : ∀ v, assign (.Subscript o i pos) X.env v = (do
      let ov <- holding [v] (eval o X.env)
      let iv <- holding [v, ov] (eval i X.env)
      standAt pos
      holding [v, ov, iv] (setItem ov iv v)
      release [v, ov, iv] []) := by intro _; rfl) : PG X (.Subscript o i pos) (gSub to ti t) := by
  intro pins s σ H v u Q I r h
  rw [ha]
  refine wpAny_bind (wpAny_holding (thn (ho pins s σ H _ I h) fun ov s1 ⟨x, H1, I1, r1, q1⟩ => ?_))
  refine wpAny_bind (wpAny_holding (thn (hi pins s1 σ H1 _ I1 q1) fun iv s2 ⟨y, H2, I2, r2, q2⟩ => ?_))
  refine wpAny_bind (wpAny_standAt (wpAny_bind (wpAny_holding (thn (hs pins s2 σ H2 x y v ov iv u _ I2 r1 r2 r q2) fun _ s3 ⟨H3, I3, q3⟩ => ?_))))
  exact wpAny_release ⟨σ, H3, I3, q3⟩
def tAsg (te : TE) (g : TG) : TS := fun D σ H => te σ H fun x H1 => g x σ H1 D.nx
theorem ps_asg {tg e : Expr} {te : TE} {g : TG} (he : PE X e te) (hg : PG X tg g) (hs : swapsWithSole [tg] e pos.line X.env = pure false := by rfl) (hw : swappedStores [tg] e X.env = pure none := by rfl)
    (h1 : (assignEach [tg] X.env).map (·.2) = [assign tg X.env] := by rfl) : PS X (.Assign [tg] e pos) (tAsg te g) := by
  intro pins s σ H D I h
  refine wpAny_Assign_stores (thn (he pins s σ H _ I h) fun v s1 ⟨x, H1, I1, r1, q1⟩ => ?_) hs hw
  rw [h1]
  exact thn (hg pins s1 σ H1 x v _ I1 r1 q1) fun _ s2 q => q
theorem zS {i : Nat} {x : Str} {e : Expr} {te : TE} {pos' : Pos} (hN : X.N.Nodup) (hi : X.N[i]? = some x) (hx : Loc X.env.scope x) (he : PE X e te) (hs : swapsWith e (some (.Name x pos')) pos.line X.env = pure false := by rfl) (hf : X.fn x = true \/ X.env.scope.names.lookup x = some .local := by first | exact .inl rfl | exact .inr rfl | assumption) :
    PS X (.Assign [.Name x pos'] e pos) (tAsg te (gName i)) := by
  intro pins s σ H D I h
  refine wpAny_Assign_Name (thn (he pins s σ H _ I h) fun v s1 ⟨y, H1, I1, r1, q1⟩ => ?_) hs
  exact store_ok I1 hN hi hx r1 (fun s2 I2 => ⟨_, H1, I2, q1⟩) hf
def tAug (i : Nat) (te : TE) (ti : TIp) : TS := fun D σ H => ∃ x, σ[i]? = some (some x) /\ te σ H fun y H1 => ti x y H1 fun z H2 => D.nx (σ.set i (some z)) H2
theorem ps_aug {i : Nat} {x : Str} {e : Expr} {te : TE} {op : Operator} {ti : TIp} {pos' : Pos} (hN : X.N.Nodup) (hi : X.N[i]? = some x) (hx : Loc X.env.scope x) (he : PE X e te) (ho : PIp X op ti) (hf : X.fn x = true \/ X.env.scope.names.lookup x = some .local := by first | exact .inl rfl | exact .inr rfl | assumption) :
    PS X (.AugAssign (.Name x pos') op e pos) (tAug i te ti) := by
  intro pins s σ H D I h
  obtain ⟨v, e1, h⟩ := h
  obtain ⟨m, hn, hl⟩ := I.loc
  have vis : Vis X.env.scope x := by rcases hx with k | k; exact .inl k; exact .inr (.inl k)
  obtain ⟨u, r, l⟩ := hl i x v hi e1 vis
  refine wpAny_AugAssign_Name ?_
  have go : wpAny (model X.prog X.w) X.A (eval e X.env) (fun w s₂ => wpAny (model X.prog X.w) X.A (inplaceOp op u w) (fun r s₃ => wpAny (model X.prog X.w) X.A (storeName X.env x r) (fun _ => SP X pins D .next) X.xe s₃) X.xe s₂) X.xe s := by
    refine thn (he pins s σ H _ I h) fun w s1 ⟨y, H1, I1, r1, q1⟩ => ?_
    refine thn (ho pins s1 σ H1 v y u w _ I1 r r1 q1) fun z s2 ⟨zv, H2, I2, r2, q2⟩ => ?_
    exact store_ok I2 hN hi hx r2 (fun s3 I3 => ⟨_, H2, I3, q2⟩) hf
  rcases l with ⟨hk, hm⟩ | ⟨hk, c, hc, hcell⟩
  · exact wpAny_loadName_local I.ok.kind hk hn hm go
  · rcases hk with hk | hk
    · exact wpAny_loadName_cell I.ok.kind hk hc hcell go
    · rcases hx with k | k
      · have : X.env.scope.names.lookup x = some .free := hk
        rw [k] at this; cases this
      · have : X.env.scope.names.lookup x = some .free := hk
        rw [k] at this; cases this
def tAugS (to ti te : TE) (tget : V -> V -> Hp -> VK -> Prop) (tip : TIp) (tset : TSet) : TS := fun D σ H => to σ H fun o H1 => ti σ H1 fun i H2 => tget o i H2 fun x H3 => te σ H3 fun y H4 => tip x y H4 fun z H5 => tset o i z H5 fun H6 => D.nx σ H6
def PGet (X : Cx) (t : V -> V -> Hp -> VK -> Prop) : Prop :=
  ∀ (pins : List (Addr × Obj)) (s : Shared) (σ : St) (H : Hp) (o i : V) (ov iv : Value) (Q : VK), Inv X pins σ H s -> RelV o ov -> RelV i iv -> t o i H Q ->
    wpAny (model X.prog X.w) X.A (getItem ov iv) (EP X pins σ Q) X.xe s
theorem ps_augS {o i e : Expr} {to ti te : TE} {tget : V -> V -> Hp -> VK -> Prop} {tip : TIp} {tset : TSet} {op : Operator} {tpos : Pos} (ho : PE X o to) (hi : PE X i ti) (hg : PGet X tget) (he : PE X e te) (hp : PIp X op tip) (hs : PSet X tset)
    (ha : ∀ ov iv new, augStore i ov iv new = (do holding [new, ov, iv] (setItem ov iv new); release [new, ov, iv] []; pure .next) := by intros; rfl) : PS X (.AugAssign (.Subscript o i tpos) op e pos) (tAugS to ti te tget tip tset) := by
  intro pins s σ H D I h
  refine wpAny_AugAssign_SubscriptAny (thn (ho pins s σ H _ I h) fun ov s1 ⟨x1, H1, I1, r1, q1⟩ => ?_) ha
  refine thn (hi pins s1 σ H1 _ I1 q1) fun iv s2 ⟨x2, H2, I2, r2, q2⟩ => ?_
  refine thn (hg pins s2 σ H2 x1 x2 ov iv _ I2 r1 r2 q2) fun old s3 ⟨x3, H3, I3, r3, q3⟩ => ?_
  refine thn (he pins s3 σ H3 _ I3 q3) fun v s4 ⟨x4, H4, I4, r4, q4⟩ => ?_
  refine thn (hp pins s4 σ H4 x3 x4 old v _ I4 r3 r4 q4) fun new s5 ⟨x5, H5, I5, r5, q5⟩ => ?_
  exact thn (hs pins s5 σ H5 x1 x2 x5 ov iv new _ I5 r1 r2 r5 q5) fun _ s6 ⟨H6, I6, q6⟩ => ⟨σ, H6, I6, q6⟩
def ipI (f : Int -> Int -> Int) : TIp := fun x y H Q => ∃ i j, x = .int i /\ y = .int j /\ Q (.int (f i j)) H
theorem ip_add : PIp X .Add (ipI fun i j => i + j) := by
  intro pins s σ H x y v u Q I r1 r2 h
  obtain ⟨i, j, e1, e2, q⟩ := h
  subst e1; subst e2
  obtain ⟨t, rfl⟩ := r1
  obtain ⟨t', rfl⟩ := r2
  exact iadd_int ⟨.int _, H, I.tok _, ⟨_, rfl⟩, q⟩
end
section
variable {X : Cx} {pos : Pos}
def tWhile (c : TT) (tb : TS) : TS := fun D σ H => ∃ W : Nat -> St -> Hp -> Prop, (∃ m, W m σ H) /\ ∀ m σ H, W m σ H ->
  c σ H fun b H1 => if b = true then ∃ N : St -> Hp -> Prop, (∀ σ' H', N σ' H' -> ∃ m', m' < m /\ W m' σ' H') /\ tb { D with nx := N, ct := N, bk := D.nx } σ H1 else D.nx σ H1
theorem ps_while {c : Expr} {body : List Stmt} {tc : TT} {tb : TS} (hp : PassesOwn (model X.prog X.w) X.A X.env X.xe) (hc : PT X c tc) (hb : PSs X body tb) : PS X (.While c body [] pos) (tWhile tc tb) := by
  intro pins s σ H D I h
  obtain ⟨W, ⟨m0, w0⟩, turn⟩ := h
  refine wpAny_While (codeAny_whileLoop (fun n s' => ∃ σ' H', Inv X pins σ' H' s' /\ W n σ' H') ?_ m0 ⟨σ, H, I, w0⟩)
  rintro n s1 ⟨σ1, H1, I1, w1⟩
  refine wpAny_passesOwn hp (thn (hc pins s1 σ1 H1 _ I1 (turn n σ1 H1 w1)) fun b s2 ⟨H2, I2, q2⟩ => ?_)
  cases b with
  | true =>
    obtain ⟨N, hN, q2⟩ := q2
    rw [if_pos rfl]
    refine wpAny_passesOwn hp (thn (hb pins s2 σ1 H2 _ I2 q2) fun f s3 q3 => ?_)
    cases f with
    | next =>
      obtain ⟨σ3, H3, I3, n3⟩ := q3
      obtain ⟨m', hm, w3⟩ := hN σ3 H3 n3
      exact ⟨m', hm, σ3, H3, I3, w3⟩
    | cont =>
      obtain ⟨σ3, H3, I3, n3⟩ := q3
      obtain ⟨m', hm, w3⟩ := hN σ3 H3 n3
      exact ⟨m', hm, σ3, H3, I3, w3⟩
    | brk => exact q3
    | ret v => exact q3
  | false =>
    rw [if_neg Bool.false_ne_true]
    exact wpAny_execs_nil ⟨σ1, H2, I2, q2⟩
end
structure It where
  go : Nat -> Hp -> Prop
  yld : Nat -> Hp -> V -> Hp -> Prop
  stop : Nat -> Hp -> Prop
def FpOk (X : Cx) (pins : List (Addr × Obj)) (H : Hp) (b : Addr) : Prop :=
  H b = none /\ b ≠ X.env.locals /\ b ∉ X.fs /\ (b ∈ X.ex \/ X.s₀.heap.objs.size <= b) /\ (∀ x c, X.env.cells.lookup x = some c -> c ≠ b) /\ ∀ p ∈ X.pn ++ pins, p.1 ≠ b
theorem Inv.fpOk {X : Cx} {pins : List (Addr × Obj)} {σ : St} {H H' : Hp} {s : Shared} {b : Addr} (I : Inv X pins σ H s) (hb : s.heap.objs.size <= b) (hn : H' b = none) : FpOk X pins H' b := by
  refine ⟨hn, Nat.ne_of_gt (Nat.lt_of_lt_of_le I.lt hb), I.nofs hb, .inr (Nat.le_trans I.sz hb), fun x c e z => ?_, fun p hp z => ?_⟩
  · obtain ⟨v, q⟩ := I.cell x c e
    exact absurd (Nat.lt_of_lt_of_le q.lt (by rw [z]; exact hb)) (Nat.lt_irrefl _)
  · exact absurd (Nat.lt_of_lt_of_le (Heap.lt_size (I.pin p hp).1) (by rw [z]; exact hb)) (Nat.lt_irrefl _)
structure Turn (P : Program) (w : World) (K : PySem.W.Frag) (tg : Expr) (J : It) (fp : List Addr) (it : Addr) (tn : Nat -> Heap -> Prop) : Prop where
  mem : it ∈ fp
  obj : ∀ i h, tn i h -> ∀ b ∈ fp, ∃ o, h.get? b = some o /\ ∀ v, o.data ≠ .cell v
  keep : ∀ i h h', tn i h -> (∀ b ∈ fp, ∀ o, h.get? b = some o -> h'.get? b = some o) -> tn i h'
  item : ∀ (X : Cx), X.prog = P -> X.w = w -> X.K = K -> X.calm = true -> ∀ (i : Nat) (pins : List (Addr × Obj)) (s : Shared) (σ : St) (H : Hp) (E : Value -> Shared -> Prop), Inv X pins σ H s -> (∀ b ∈ fp, FpOk X pins H b) -> tn i s.heap -> J.go i H ->
    wpAny (model P w) X.A (pyNext (.ref it)) (fun r s1 => ∃ u, r = some u /\
      wpAny (model P w) X.A (letOwnedTupleGo tg (.ref it) u) (fun _ s2 => ∃ x H', Inv X pins σ H' s2 /\ RelV x u /\ J.yld i H x H' /\ tn (i + 1) s2.heap /\ ∀ b ∈ fp, H' b = none) E s1) E s
  done : ∀ (X : Cx), X.prog = P -> X.w = w -> X.K = K -> X.calm = true -> ∀ (i : Nat) (pins : List (Addr × Obj)) (s : Shared) (σ : St) (H : Hp) (E : Value -> Shared -> Prop), Inv X pins σ H s -> (∀ b ∈ fp, FpOk X pins H b) -> tn i s.heap -> J.stop i H ->
    wpAny (model P w) X.A (pyNext (.ref it)) (fun r s1 => r = none /\ Inv X pins σ H s1) E s
  self : ∀ (A : Around) (i : Nat) (s : Shared) (Q : Value -> Shared -> Prop) (E : Value -> Shared -> Prop), tn i s.heap -> Q (.ref it) s -> wpAny (model P w) A (pyIter (.ref it)) Q E s
abbrev TI := St -> Hp -> (It -> Hp -> Prop) -> Prop
def PIE (X : Cx) (pins : List (Addr × Obj)) (σ : St) (tg : Expr) (R : It -> Hp -> Prop) (itv : Value) (s2 : Shared) : Prop :=
  ∃ (it : Addr) (fp : List Addr) (tn : Nat -> Heap -> Prop) (J : It) (H' : Hp), itv = .ref it /\ Inv X pins σ H' s2 /\ Turn X.prog X.w X.K tg J fp it tn /\ tn 0 s2.heap /\ (∀ b ∈ fp, FpOk X pins H' b) /\ R J H'
def PI (X : Cx) (tg iter : Expr) (wi : TI) : Prop :=
  ∀ (pins : List (Addr × Obj)) (s : Shared) (σ : St) (H : Hp) (R : It -> Hp -> Prop), Inv X pins σ H s -> wi σ H R ->
    wpAny (model X.prog X.w) X.A (eval iter X.env) (fun v s1 => wpAny (model X.prog X.w) X.A (pyIter v) (PIE X pins σ tg R) X.xe s1) X.xe s
theorem go_of {M : Model} {A : Around} {E : Value -> Shared -> Prop} {s : Shared} {tg : Expr} {it : Addr} {u : Value} {o : Obj} {n : String} {vs : Array Value} {Q : Unit -> Shared -> Prop} (ho : s.heap.get? it = some o) (hc : o.cls = .type n) (hd : o.data = .fields vs)
    (hn : ["enumerate", "zip", "dict_itemiterator", "dict_reverseitemiterator", "odict_iterator", "itertools.zip_longest", "itertools.pairwise"].contains n = false) (hQ : Q () s) : wpAny M A (letOwnedTupleGo tg (.ref it) u) Q E s := by
  unfold letOwnedTupleGo
  cases tg <;> first
    | exact wpAny_pure hQ
    | (cases u <;> first
        | exact wpAny_pure hQ
        | (refine wpAny_bind (wpAny_load ho ?_)
           rw [hc, hd]
           show wpAny M A (if (["enumerate", "zip", "dict_itemiterator", "dict_reverseitemiterator", "odict_iterator", "itertools.zip_longest", "itertools.pairwise"].contains n && vs[0]? == some (rawInt _)) = true then _ else _) Q E s
           rw [if_neg (by intro h; rw [hn, Bool.false_and] at h; cases h)]
           exact wpAny_pure hQ))
def Itl (K : PySem.W.Frag) (a : Addr) : It :=
  ⟨fun i H => ∃ xs x, SqL K H a xs /\ xs[i]? = some x, fun i H x H' => H' = H /\ ∀ xs, SqL K H a xs -> xs[i]? = some x, fun i H => ∃ xs, SqL K H a xs /\ xs.length <= i⟩
def Itr (lo : Int) (n : Nat) : It := ⟨fun i _ => i < n, fun i H x H' => H' = H /\ x = .int (lo + i), fun i _ => n <= i⟩
theorem turn_list {P : Program} {w : World} {K : PySem.W.Frag} {tg : Expr} (a it : Addr) : Turn P w K tg (Itl K a) [it] it (fun i h => h.IsListIter it a i) where
  mem := by simp
  obj := fun i h st b hb => by
    have e : b = it := by simpa using hb
    subst e
    obtain ⟨o, e, c, d⟩ := st
    exact ⟨o, e, fun v z => by rw [d] at z; cases z⟩
  keep := fun i h h' st k => st.at fun o e => k it (by simp) o e
  item := by
    intro X hP hw hK hc i pins s σ H E I hf st hg
    subst hP hw hK
    obtain ⟨xs, x, hq, hx⟩ := hg
    obtain ⟨its, rv, p, hz⟩ := I.list hq
    obtain ⟨u, hu, ru⟩ := rv.get hx
    obtain ⟨f0, f1, f2, f3, f4, f5⟩ := hf it (by simp)
    refine wpAny_pyNext_list_item st p.isList (x := u) (by simpa using hu) fun h' st' sb => ?_
    have I1 : Inv X pins σ H { s with heap := h' } := I.turned (t' := s.toks) (fun b o hb e => (sb.2 b hb).trans e) f0 f1 f3 f4 f5
    obtain ⟨o, e, c, d⟩ := id st'
    exact ⟨u, rfl, go_of (s := { s with heap := h' }) e c d (by decide) ⟨x, H, I1, ru, ⟨rfl, fun ys hy => by rw [I.list_inj hy hq]; exact hx⟩, st', fun b hb => (hf b hb).1⟩⟩
  done := by
    intro X hP hw hK hc i pins s σ H E I hf st hg
    subst hP hw hK
    obtain ⟨xs, hq, hx⟩ := hg
    obtain ⟨its, rv, p, hz⟩ := I.list hq
    obtain ⟨f0, f1, f2, f3, f4, f5⟩ := hf it (by simp)
    have hl := rv.length
    exact wpAny_pyNext_list_end (I.ok.hd hc) st p.isList (by simp; omega) fun h' eb => ⟨rfl, I.turned (t' := s.toks) (fun b o hb e => eb b o hb e) f0 f1 f3 f4 f5⟩
  self := fun _ _ _ _ _ st h => wpAny_pyIter_listiter st h
theorem turn_range {P : Program} {w : World} {K : PySem.W.Frag} {tg : Expr} (it : Addr) (lo : Int) (n : Nat) : Turn P w K tg (Itr lo n) [it] it (fun i h => IsRangeIter h it (lo + (i : Nat) * 1) ((n : Int) - (i : Nat)) 1) where
  mem := by simp
  obj := fun i h st b hb => by
    have e : b = it := by simpa using hb
    subst e
    exact ⟨_, st, fun v z => by
      have z' : Data.fields _ = Data.cell v := z
      cases z'⟩
  keep := fun i h h' st k => k it (by simp) _ st
  item := by
    intro X hP hw hK hc i pins s σ H E I hf st hg
    subst hP hw hK
    obtain ⟨f0, f1, f2, f3, f4, f5⟩ := hf it (by simp)
    have W := Walks.range (prog := X.prog) (w := X.w) (I.ok.hd hc) it lo 1 n
    refine W.item i s _ _ hg st fun v h' tk hv st' kk => ?_
    obtain ⟨t, rfl⟩ := hv
    have I1 : Inv X pins σ H { s with heap := h', toks := tk } := I.turned (fun b o hb e => kk b o (by simpa using hb) e) f0 f1 f3 f4 f5
    refine ⟨_, rfl, go_of (s := { s with heap := h', toks := tk }) (n := "range_iterator") st' rfl rfl (by decide) ⟨.int (lo + i), H, I1, ⟨t, ?_⟩, ⟨rfl, rfl⟩, st', fun b hb => (hf b hb).1⟩⟩
    rw [Int.mul_one]
  done := by
    intro X hP hw hK hc i pins s σ H E I hf st hg
    subst hP hw hK
    obtain ⟨f0, f1, f2, f3, f4, f5⟩ := hf it (by simp)
    exact wpAny_pyNext_range_end (I.ok.hd hc) st (by have : n <= i := hg; omega) fun h' eb => ⟨rfl, I.turned (t' := s.toks) (fun b o hb e => eb b o hb e) f0 f1 f3 f4 f5⟩
  self := fun _ _ _ _ _ st h => wpAny_pyIter_rangeiter st h
end L2
namespace L2
open PySem PySem.Spec PyProof.Rows
section
variable {X : Cx} {tg : Expr}
def iList (K : PySem.W.Frag) (tl : TE) : TI := fun σ H R => tl σ H fun x H1 => ∃ a, x = .ref a /\ (∃ xs, SqL K H1 a xs) /\ R (Itl K a) H1
theorem pi_list {l : Expr} {tl : TE} (hl : PE X l tl) : PI X tg l (iList X.K tl) := by
  intro pins s σ H R I h
  refine thn (hl pins s σ H _ I h) fun v s1 ⟨x, H1, I1, r1, q1⟩ => ?_
  obtain ⟨a, e, ⟨xs, hq⟩, q⟩ := q1
  subst e
  cases r1
  obtain ⟨its, rv, p, hz⟩ := I1.list hq
  refine wpAny_pyIter_list p.isList ?_
  refine ⟨s1.heap.objs.size, [s1.heap.objs.size], _, _, H1, rfl, I1.kept (t' := s1.toks) fun b o e => Heap.get?_push_of_some _ e, turn_list a _, ⟨_, Heap.get?_push_size _ rfl, rfl, rfl⟩, fun b hb => ?_, q⟩
  have e : b = s1.heap.objs.size := by simpa using hb
  subst e
  exact I1.fpOk (Nat.le_refl _) (I1.hok.fresh (Nat.le_refl _))
theorem range_it {pins : List (Addr × Obj)} {σ : St} {H : Hp} {s : Shared} {R : It -> Hp -> Prop} {E : Value -> Shared -> Prop} {lo hi : Int} {t u v : Tok} {tk : Nat} (I : Inv X pins σ H s) (h1 : -(2 ^ 62) <= lo) (h2 : lo < 2 ^ 62) (h3 : -(2 ^ 62) <= hi) (h4 : hi < 2 ^ 62)
    (q : R (Itr lo (hi - lo).toNat) H) : wpAny (model X.prog X.w) X.A (pyIter (.ref s.heap.objs.size)) (PIE X pins σ tg R) E { s with heap := s.heap.push { cls := .type "range", data := .fields #[.int lo t, .int hi u, .int 1 v] }, toks := tk } := by
  refine wpAny_pyIter_range (IsRange.new ..) (small_one h1 h2 h3 h4) ?_
  have I1 : Inv X pins σ H { s with heap := s.heap.push { cls := .type "range", data := .fields #[.int lo t, .int hi u, .int 1 v] }, toks := tk } := I.kept fun b o e => Heap.get?_push_of_some _ e
  refine ⟨(s.heap.push { cls := .type "range", data := .fields #[.int lo t, .int hi u, .int 1 v] }).objs.size, [(s.heap.push { cls := .type "range", data := .fields #[.int lo t, .int hi u, .int 1 v] }).objs.size], _, _, H, rfl,
    I1.kept (t' := tk) fun b o e => Heap.get?_push_of_some _ e, turn_range _ lo (hi - lo).toNat, ?_, fun b hb => ?_, q⟩
  · have e1 : lo + ((0 : Nat) : Int) * 1 = lo := by simp
    have e2 : (((hi - lo).toNat : Nat) : Int) - ((0 : Nat) : Int) = Builtin.Range.rangeSize lo hi 1 := by rw [rangeSize_one]; split <;> omega
    show IsRangeIter _ _ (lo + ((0 : Nat) : Int) * 1) ((((hi - lo).toNat : Nat) : Int) - ((0 : Nat) : Int)) 1
    rw [e1, e2]
    exact Heap.get?_push_size _ rfl
  · have e : b = (s.heap.push { cls := .type "range", data := .fields #[.int lo t, .int hi u, .int 1 v] }).objs.size := by simpa using hb
    subst e
    exact I1.fpOk (Nat.le_refl _) (I1.hok.fresh (Nat.le_refl _))
def iRng1 (ta : TA) : TI := fun σ H R => ta σ H fun vs H1 => ∃ j : Int, vs = [.int j] /\ -(2 ^ 62) <= j /\ j < 2 ^ 62 /\ R (Itr 0 j.toNat) H1
theorem yW {a : Expr} {ta : TA} {p pos : Pos} (hg : Gl X "range") (hm : X.mg "range" = none) (ha : PA X [a] ta) (hs : starEach [a] X.env = [(false, eval a X.env)] := by rfl) : PI X tg (.Call (.Name "range" p) [a] [] pos) (iRng1 ta) := by
  intro pins s σ H R I h
  refine Call_ (ld_blt I hg hm boot_range (PyProof.Rows.callWith_type1 (thn (ha pos pins s σ H _ I h) fun us s1 ⟨vs, H1, I1, r1, q1⟩ => ?_) hs rfl))
  obtain ⟨j, e, q1, q2, q⟩ := q1
  subst e
  cases r1 with
  | cons r rr =>
    cases rr
    obtain ⟨t, rfl⟩ := r
    exact call_range_1 (range_it I1 (by omega) (by omega) q1 q2 (by simpa using q))
def tFor (wi : TI) (g : TG) (tb : TS) : TS := fun D σ H => wi σ H fun J H1 => ∃ W : Nat -> Nat -> St -> Hp -> Prop, (∃ m, W 0 m σ H1) /\ ∀ i m σ H, W i m σ H ->
  (J.stop i H /\ D.nx σ H) \/ (J.go i H /\ ∃ N : St -> Hp -> Prop, (∀ σ' H', N σ' H' -> ∃ m', m' < m /\ W (i + 1) m' σ' H') /\ ∀ x H', J.yld i H x H' -> g x σ H' fun σ2 H2 => tb { D with nx := N, ct := N, bk := D.nx } σ2 H2)
def pinsAt (fp : List Addr) (h : Heap) : List (Addr × Obj) := fp.filterMap fun b => (h.get? b).map fun o => (b, o)
theorem vO {fp : List Addr} {h : Heap} {b : Addr} {o : Obj} (hb : b ∈ fp) (e : h.get? b = some o) : (b, o) ∈ pinsAt fp h := List.mem_filterMap.mpr ⟨b, hb, by rw [e]; rfl⟩
theorem of_pinsAt {fp : List Addr} {h : Heap} {p : Addr × Obj} (hp : p ∈ pinsAt fp h) : p.1 ∈ fp /\ h.get? p.1 = some p.2 := by
  obtain ⟨b, hb, e⟩ := List.mem_filterMap.mp hp
  cases q : h.get? b with
  | none => rw [q] at e; cases e
  | some o =>
    rw [q] at e
    have e' : (b, o) = p := Option.some.inj e
    subst e'
    exact ⟨hb, q⟩
theorem Inv.pinned {pins : List (Addr × Obj)} {σ : St} {H : Hp} {s : Shared} {fp : List Addr} (I : Inv X pins σ H s) (hf : ∀ b ∈ fp, FpOk X pins H b) (ho : ∀ b ∈ fp, ∃ o, s.heap.get? b = some o /\ ∀ v, o.data ≠ .cell v) : Inv X (pins ++ pinsAt fp s.heap) σ H s :=
  I.pins_of fun p hp => (List.mem_append.mp hp).elim (fun z => I.pin p (List.mem_append_right _ z)) fun z => by
    obtain ⟨hb, e⟩ := of_pinsAt z
    obtain ⟨f0, f1, f2, _⟩ := hf p.1 hb
    obtain ⟨o, e', d⟩ := ho p.1 hb
    rw [e] at e'; cases e'
    exact ⟨e, f0, f1, f2, d⟩
theorem Inv.unpinned {pins pl : List (Addr × Obj)} {σ : St} {H : Hp} {s : Shared} (I : Inv X (pins ++ pl) σ H s) : Inv X pins σ H s := I.pins_of fun p hp => I.pin p (List.mem_append_right _ (List.mem_append_left _ hp))
theorem yP {iter : Expr} {body : List Stmt} {wi : TI} {g : TG} {tb : TS} {pos : Pos} (hp : PassesOwn (model X.prog X.w) X.A X.env X.xe) (hc : X.calm = true) (hi : PI X tg iter wi) (hg : PG X tg g) (hb : PSs X body tb)
    (hs : ∀ x, foldedSetIterable iter X.env x = pure x := by intro _; rfl) : PS X (.For tg iter body [] pos) (tFor wi g tb) := by
  intro pins s σ H D I h
  refine wpAny_For (thn (hi pins s σ H _ I h) fun v s1 h1 => thn h1 fun itv s2 h2 => ?_) hs
  obtain ⟨it, fp, tn, J, H2, e, I2, T, st2, f2, W, ⟨m0, w0⟩, turn⟩ := h2
  subst e
  have stat : ∀ {H' : Hp}, (∀ b ∈ fp, H' b = none) -> ∀ b ∈ fp, FpOk X pins H' b := fun hn b hb => ⟨hn b hb, (f2 b hb).2⟩
  refine codeAny_forLoop_any (fun n s' => ∃ i σ' H', Inv X pins σ' H' s' /\ tn i s'.heap /\ (∀ b ∈ fp, H' b = none) /\ W i n σ' H') ?_ m0 ⟨0, σ, H2, I2, st2, fun b hb => (f2 b hb).1, w0⟩
  rintro n s3 ⟨i, σ3, H3, I3, st3, fr3, w3⟩
  rcases turn i n σ3 H3 w3 with ⟨stop, qn⟩ | ⟨go, N, hN, step⟩
  · refine wpAny_passesOwn hp (thn (T.done X rfl rfl rfl hc i pins s3 σ3 H3 X.xe I3 (stat fr3) st3 stop) fun r s4 ⟨hr, I4⟩ => ?_)
    subst hr
    exact wpAny_execs_nil ⟨σ3, H3, I4, qn⟩
  · refine wpAny_passesOwn hp (thn (T.item X rfl rfl rfl hc i pins s3 σ3 H3 X.xe I3 (stat fr3) st3 go) fun r s4 ⟨u, hr, h4⟩ => ?_)
    subst hr
    refine wpAny_passesOwn hp (thn h4 fun _ s5 ⟨x, H5, I5, r5, y5, st5, fr5⟩ => ?_)
    have I5' := I5.pinned (stat fr5) (T.obj _ _ st5)
    refine wpAny_passesOwn hp (thn (hg _ s5 σ3 H5 x u _ I5' r5 (step x H5 y5)) fun _ s6 ⟨σ6, H6, I6, q6⟩ => ?_)
    refine wpAny_passesOwn hp (thn (hb _ s6 σ6 H6 _ I6 q6) fun f s7 q7 => ?_)
    have again : ∀ {σ7 : St} {H7 : Hp}, Inv X (pins ++ pinsAt fp s5.heap) σ7 H7 s7 -> N σ7 H7 -> ∃ m, m < n /\ ∃ i σ' H', Inv X pins σ' H' s7 /\ tn i s7.heap /\ (∀ b ∈ fp, H' b = none) /\ W i m σ' H' := fun {σ7 H7} I7 n7 => by
      obtain ⟨m', hm, w7⟩ := hN σ7 H7 n7
      refine ⟨m', hm, i + 1, σ7, H7, I7.unpinned, T.keep _ _ _ st5 fun b hb o e => (I7.pin (b, o) (List.mem_append_right _ (List.mem_append_right _ (vO hb e)))).1, fun b hb => ?_, w7⟩
      obtain ⟨o, e, d⟩ := T.obj _ _ st5 b hb
      exact (I7.pin (b, o) (List.mem_append_right _ (List.mem_append_right _ (vO hb e)))).2.1
    cases f with
    | next => obtain ⟨σ7, H7, I7, n7⟩ := q7; exact again I7 n7
    | cont => obtain ⟨σ7, H7, I7, n7⟩ := q7; exact again I7 n7
    | brk => obtain ⟨σ7, H7, I7, q7⟩ := q7; exact ⟨σ7, H7, I7.unpinned, q7⟩
    | ret v => obtain ⟨x7, σ7, H7, I7, r7, q7⟩ := q7; exact ⟨x7, σ7, H7, I7.unpinned, r7, q7⟩
end
theorem for_list {K : PySem.W.Frag} {a : Addr} {xs : List V} {g : TG} {tb : TS} {D : Ends} {σ : St} {H : Hp} (Pv : Nat -> St -> Hp -> Prop) (h0 : Pv 0 σ H) (hl : ∀ i σ H, i <= xs.length -> Pv i σ H -> SqL K H a xs)
    (hs : ∀ i x σ H, xs[i]? = some x -> Pv i σ H -> g x σ H fun σ2 H2 => tb { D with nx := Pv (i + 1), ct := Pv (i + 1), bk := D.nx } σ2 H2) (hd : ∀ σ H, Pv xs.length σ H -> D.nx σ H) :
    ∃ W : Nat -> Nat -> St -> Hp -> Prop, (∃ m, W 0 m σ H) /\ ∀ i m σ H, W i m σ H ->
      ((Itl K a).stop i H /\ D.nx σ H) \/ ((Itl K a).go i H /\ ∃ N : St -> Hp -> Prop, (∀ σ' H', N σ' H' -> ∃ m', m' < m /\ W (i + 1) m' σ' H') /\ ∀ x H', (Itl K a).yld i H x H' -> g x σ H' fun σ2 H2 => tb { D with nx := N, ct := N, bk := D.nx } σ2 H2) := by
  refine ⟨fun i m σ H => m = xs.length - i /\ i <= xs.length /\ Pv i σ H, ⟨xs.length, by simp, Nat.zero_le _, h0⟩, ?_⟩
  rintro i m σ H ⟨rfl, hi, p⟩
  have q := hl i σ H hi p
  by_cases hlt : i < xs.length
  · refine .inr ⟨⟨xs, xs[i], q, by simp [hlt]⟩, Pv (i + 1), fun σ' H' p' => ⟨xs.length - (i + 1), by omega, rfl, hlt, p'⟩, fun x H' y => ?_⟩
    obtain ⟨e, y⟩ := y
    subst e
    exact hs i x σ _ (y xs q) p
  · have e : i = xs.length := by omega
    subst e
    exact .inl ⟨⟨xs, q, Nat.le_refl _⟩, hd σ H p⟩
end L2
namespace L2
open PySem PySem.Spec PyProof.Rows
abbrev R2 := V -> V -> Hp -> VK -> Prop
def OpR (X : Cx) (f : Value -> Value -> Sem Value) (r : R2) : Prop :=
  ∀ (pins : List (Addr × Obj)) (s : Shared) (σ : St) (H : Hp) (x y : V) (v u : Value) (Q : VK), Inv X pins σ H s -> RelV x v -> RelV y u -> r x y H Q ->
    wpAny (model X.prog X.w) X.A (f v u) (EP X pins σ Q) X.xe s
def CallR (X : Cx) (f : Value) (r : List V -> Hp -> VK -> Prop) : Prop :=
  ∀ (pins : List (Addr × Obj)) (s : Shared) (σ : St) (H : Hp) (xs : List V) (us : List Value) (Q : VK), Inv X pins σ H s -> Vals xs us -> r xs H Q ->
    wpAny (model X.prog X.w) X.A (call f us) (EP X pins σ Q) X.xe s
def TruR (X : Cx) (r : V -> Hp -> (Bool -> Hp -> Prop) -> Prop) : Prop :=
  ∀ (pins : List (Addr × Obj)) (s : Shared) (σ : St) (H : Hp) (x : V) (v : Value) (Q : Bool -> Hp -> Prop), Inv X pins σ H s -> RelV x v -> r x H Q ->
    wpAny (model X.prog X.w) X.A (truthy v) (TP X pins σ Q) X.xe s
def tOp (r : R2) (ta tb : TE) : TE := fun σ H Q => ta σ H fun x H1 => tb σ H1 fun y H2 => r x y H2 Q
def rI (C : Int -> Int -> Prop) (g : Int -> Int -> V) : R2 := fun x y H Q => ∃ i j, x = .int i /\ y = .int j /\ C i j /\ Q (g i j) H
def rI0 (g : Int -> Int -> V) : R2 := fun x y H Q => ∃ i j, x = .int i /\ y = .int j /\ Q (g i j) H
section
variable {X : Cx} {a b c : Expr} {ta tb tc : TE} {pos : Pos}
theorem binT (ha : PE X a ta) (hb : PE X b tb) {pins : List (Addr × Obj)} {s : Shared} {σ : St} {H : Hp} {R : V -> V -> Hp -> Prop} (I : Inv X pins σ H s)
    (h : ta σ H fun x H1 => tb σ H1 fun y H2 => R x y H2) {Q : Value -> Shared -> Prop} {f : Value -> Value -> Sem Value}
    (hf : ∀ v u s2 x y H2, Inv X pins σ H2 s2 -> RelV x v -> RelV y u -> R x y H2 -> wpAny (model X.prog X.w) X.A (f v u) Q X.xe s2) :
    wpAny (model X.prog X.w) X.A (eval a X.env) (fun v s₁ => wpAny (model X.prog X.w) X.A (eval b X.env) (fun u s₂ => wpAny (model X.prog X.w) X.A (f v u) Q X.xe s₂) X.xe s₁) X.xe s := by
  refine thn (ha pins s σ H _ I h) fun v s1 ⟨x, H1, I1, r1, q1⟩ => ?_
  refine thn (hb pins s1 σ H1 _ I1 q1) fun u s2 ⟨y, H2, I2, r2, q2⟩ => ?_
  exact hf v u s2 x y H2 I2 r1 r2 q2
theorem zT {op : Operator} {r : R2} (ho : OpR X (binaryOp op) r) (ha : PE X a ta) (hb : PE X b tb) : PE X (.BinOp a op b pos) (tOp r ta tb) := by
  intro pins s σ H Q I h
  exact wpAny_BinOp (binT ha hb I h fun v u s2 x y H2 I2 rx ry q => ho pins s2 σ H2 x y v u Q I2 rx ry q)
theorem opI {f : Value -> Value -> Sem Value} {C : Int -> Int -> Prop} {g : Int -> Int -> Int}
    (rule : ∀ (i j : Int) (t u : Tok) (s : Shared) (Q : Value -> Shared -> Prop) (E : Value -> Shared -> Prop), C i j -> Q (.int (g i j) s.toks) { s with toks := s.toks + 1 } -> wpAny (model X.prog X.w) X.A (f (.int i t) (.int j u)) Q E s) :
    OpR X f (rI C fun i j => .int (g i j)) := by
  intro pins s σ H x y v u Q I rx ry h
  obtain ⟨i, j, rfl, rfl, hc, q⟩ := h
  obtain ⟨t, rfl⟩ := rx
  obtain ⟨t', rfl⟩ := ry
  exact rule i j t t' s _ _ hc ⟨.int (g i j), H, I.tok _, ⟨_, rfl⟩, q⟩
theorem opI0 {f : Value -> Value -> Sem Value} {g : Int -> Int -> Int}
    (rule : ∀ (i j : Int) (t u : Tok) (s : Shared) (Q : Value -> Shared -> Prop) (E : Value -> Shared -> Prop), Q (.int (g i j) s.toks) { s with toks := s.toks + 1 } -> wpAny (model X.prog X.w) X.A (f (.int i t) (.int j u)) Q E s) :
    OpR X f (rI0 fun i j => .int (g i j)) := by
  intro pins s σ H x y v u Q I rx ry h
  obtain ⟨i, j, rfl, rfl, q⟩ := h
  obtain ⟨t, rfl⟩ := rx
  obtain ⟨t', rfl⟩ := ry
  exact rule i j t t' s _ _ ⟨.int (g i j), H, I.tok _, ⟨_, rfl⟩, q⟩
theorem opB0 {f : Value -> Value -> Sem Value} {g : Int -> Int -> Bool}
    (rule : ∀ (i j : Int) (t u : Tok) (s : Shared) (Q : Value -> Shared -> Prop) (E : Value -> Shared -> Prop), Q (.bool (g i j)) s -> wpAny (model X.prog X.w) X.A (f (.int i t) (.int j u)) Q E s) :
    OpR X f (rI0 fun i j => .bl (g i j)) := by
  intro pins s σ H x y v u Q I rx ry h
  obtain ⟨i, j, rfl, rfl, q⟩ := h
  obtain ⟨t, rfl⟩ := rx
  obtain ⟨t', rfl⟩ := ry
  exact rule i j t t' s _ _ ⟨.bl (g i j), H, I, rfl, q⟩
def CDiv (i j : Int) : Prop := 0 < j /\ j < 1073741824
def CPow (i j : Int) : Prop := 0 <= j /\ j <= 1000000 /\ i.natAbs < 2 ^ 64
def CMul (i j : Int) : Prop := (-(2 ^ 64) < i /\ i < 2 ^ 64) \/ (-(2 ^ 64) < j /\ j < 2 ^ 64)
theorem CMul.ok {i j : Int} (h : CMul i j) : IntMulOk i j := by
  rcases h with ⟨h1, h2⟩ | ⟨h1, h2⟩
  · exact .of_left (intBits_le_64 h1 h2)
  · exact .of_right (intBits_le_64 h1 h2)
theorem two_pow_nn (k : Nat) : (0 : Int) <= 2 ^ k := by
  rw [two_pow_cast]
  exact Int.natCast_nonneg _
theorem yY : OpR X (binaryOp .Add) (rI0 fun i j => .int (i + j)) := opI0 fun _ _ _ _ _ _ _ q => add_int q
theorem op_sub : OpR X (binaryOp .Sub) (rI0 fun i j => .int (i - j)) := opI0 fun _ _ _ _ _ _ _ q => sub_int q
theorem op_mul : OpR X (binaryOp .Mult) (rI CMul fun i j => .int (i * j)) := opI fun _ _ _ _ _ _ _ hc q => mul_int q hc.ok
theorem vW : OpR X (binaryOp .FloorDiv) (rI CDiv fun i j => .int (i / j)) := opI fun i j _ _ _ _ _ hc q => by
  have h1 : (0 : Int) < j := hc.1
  have h2 : j < 1073741824 := hc.2
  exact floordiv_int (by omega) (by rw [Int.fdiv_eq_ediv_of_nonneg i (by omega)]; exact q) (.inl (PyProof.noPylong_small (by omega)))
theorem xH : OpR X (binaryOp .Mod) (rI (fun _ j => 0 < j) fun i j => .int (i % j)) := opI fun i j _ _ _ _ _ hc q => by
  have h1 : (0 : Int) < j := hc
  exact mod_int' (by omega) (by rw [Int.fmod_eq_emod_of_nonneg i (by omega)]; exact q)
theorem op_pow : OpR X (binaryOp .Pow) (rI CPow fun i j => .int (i ^ j.toNat)) := opI fun _ _ _ _ _ _ _ hc q => pow_int_small hc.1 hc.2.1 hc.2.2 q
theorem op_shl : OpR X (binaryOp .LShift) (rI CPow fun i j => .int (i * 2 ^ j.toNat)) := opI fun _ _ _ _ _ _ _ hc q => lshift_int_small hc.1 hc.2.1 hc.2.2 q
theorem op_shr : OpR X (binaryOp .RShift) (rI (fun _ j => 0 <= j) fun i j => .int (i / 2 ^ j.toNat)) := opI fun i j _ _ _ _ _ hc q =>
  rshift_int hc (by rw [Int.fdiv_eq_ediv_of_nonneg i (two_pow_nn _)]; exact q)
theorem op_and : OpR X (binaryOp .BitAnd) (rI0 fun i j => .int (Builtin.bitAnd i j)) := opI0 fun _ _ _ _ _ _ _ q => and_int q
end
section
variable {X : Cx} {a b c : Expr} {ta tb tc : TE} {pos : Pos}
theorem fin_bl {pins : List (Addr × Obj)} {σ : St} {H : Hp} {s : Shared} {Q : VK} {k k' : Bool} (I : Inv X pins σ H s) (q : Q (.bl k) H) (e : k = k') : EP X pins σ Q (.bool k') s := by
  subst e
  exact ⟨.bl k, H, I, rfl, q⟩
theorem op_lt : OpR X (compareOp .Lt) (rI0 fun i j => .bl (decide (i < j))) := opB0 fun _ _ _ _ _ _ _ q => lt_int q
theorem op_le : OpR X (compareOp .LtE) (rI0 fun i j => .bl (decide (i <= j))) := opB0 fun _ _ _ _ _ _ _ q => le_int q
theorem op_gt : OpR X (compareOp .Gt) (rI0 fun i j => .bl (decide (j < i))) := opB0 fun _ _ _ _ _ _ _ q => gt_int q
theorem op_ge : OpR X (compareOp .GtE) (rI0 fun i j => .bl (decide (j <= i))) := opB0 fun _ _ _ _ _ _ _ q => ge_int q
theorem op_in_str : OpR X (compareOp .In) (fun x y H Q => ∃ i j, x = .str i /\ y = .str j /\ Q (.bl (!(Builtin.Str.occurrences j i 0 j.length 1).isEmpty)) H) := by
  intro pins s σ H x y v u Q I rx ry h
  obtain ⟨i, j, rfl, rfl, q⟩ := h
  obtain ⟨t, rfl⟩ := rx
  obtain ⟨t', rfl⟩ := ry
  exact in_str (fin_bl I q rfl)
theorem nomark (b : Expr) {op : CmpOp} (h : op ≠ .In := by decide) (h2 : op ≠ .NotIn := by decide) : behindInMarks op b = false := by
  have e1 : (op == CmpOp.In) = false := by cases op <;> first | rfl | exact absurd rfl h
  have e2 : (op == CmpOp.NotIn) = false := by cases op <;> first | rfl | exact absurd rfl h2
  cases b <;> simp [behindInMarks, e1, e2]
theorem pe_cmpR {op : CmpOp} {r : R2} (ho : OpR X (compareOp op) r) (ha : PE X a ta) (hb : PE X b tb) (hm : behindInMarks op b = false) : PE X (.Compare a [op] [b] pos) (tOp r ta tb) := by
  intro pins s σ H Q I h
  exact wpAny_Compare1 (binT ha hb I h fun v u s2 x y H2 I2 rx ry q => ho pins s2 σ H2 x y v u Q I2 rx ry q) hm
def tTest (t : TE) : TT := fun σ H Q => t σ H fun x H' => ∃ k, x = .bl k /\ Q k H'
theorem yB {op : CmpOp} {r : R2} (ho : OpR X (compareOp op) r) (ha : PE X a ta) (hb : PE X b tb) (hm : behindInMarks op b = false) : PT X (.Compare a [op] [b] pos) (tTest (tOp r ta tb)) := by
  intro pins s σ H Q I h
  refine wpAny_isTrue_Compare1 (thn (ha pins s σ H _ I h) fun v s1 ⟨x, H1, I1, r1, q1⟩ => thn (hb pins s1 σ H1 _ I1 q1) fun u s2 ⟨y, H2, I2, r2, q2⟩ =>
    thn (ho pins s2 σ H2 x y v u _ I2 r1 r2 q2) fun c s3 ⟨z, H3, I3, r3, k, e, q3⟩ => ?_) hm
  subst e
  cases r3
  exact wpAny_truthy_bool ⟨H3, I3, q3⟩
def tChain (r r' : R2) (ta tb tc : TE) : TE := fun σ H Q => ta σ H fun x H1 => tb σ H1 fun y H2 => r x y H2 fun z H3 => ∃ k, z = .bl k /\
  (if k = true then tc σ H3 fun w' H4 => r' y w' H4 Q else Q (.bl false) H3)
theorem pe_chain {op op' : CmpOp} {r r' : R2} (ho : OpR X (compareOp op) r) (ho' : OpR X (compareOp op') r') (ha : PE X a ta) (hb : PE X b tb) (hc : PE X c tc)
    (hm : lastMarks [op, op'] [b, c] = false := by with_unfolding_all rfl) : PE X (.Compare a [op, op'] [b, c] pos) (tChain r r' ta tb tc) := by
  intro pins s σ H Q I h
  refine Compare_chain (thn (ha pins s σ H _ I h) fun v s1 ⟨x, H1, I1, r1, q1⟩ => chain_link (thn (hb pins s1 σ H1 _ I1 q1) fun u s2 ⟨y, H2, I2, r2, q2⟩ =>
    thn (ho pins s2 σ H2 x y v u _ I2 r1 r2 q2) fun d s3 ⟨z, H3, I3, r3, k, e, q3⟩ => ?_)) hm
  subst e
  cases r3
  refine wpAny_truthy_bool ?_
  cases k with
  | false => exact ite_ff ⟨.bl false, H3, I3, rfl, q3⟩
  | true => exact ite_tt (chain_last (thn (hc pins s3 σ H3 _ I3 q3) fun w' s4 ⟨z', H4, I4, r4, q4⟩ => ho' pins s4 σ H4 y z' u w' Q I4 r2 r4 q4))
def TruV (K : PySem.W.Frag) (x : V) (H : Hp) (k : Bool) : Prop :=
  match x with
  | .non => k = false
  | .bl b => k = b
  | .int i => k = (i != 0)
  | .str y => y.length <= sizeLine /\ k = ((y.length : Int) != 0)
  | .byt y => y.size <= sizeLine /\ k = ((y.size : Int) != 0)
  | .ref p => (∃ xs, SqL K H p xs /\ k = !xs.isEmpty) \/ (∃ xs, SqT K H p xs /\ k = !xs.isEmpty) \/ ∃ kvs, H p = some (.dK kvs) /\ k = !kvs.isEmpty
  | _ => False
theorem isEmpty_kv {κ : Type} {kvs : List (κ × V)} {vs : List (κ × Value)} (r : KV kvs vs) : (!vs.isEmpty) = !kvs.isEmpty := by
  cases r <;> rfl
theorem isEmpty_of {xs : List V} {its : List Value} (r : Vals xs its) : (!its.toArray.isEmpty) = !xs.isEmpty := by
  cases r <;> simp
theorem line63 : (sizeLine : Nat) < 2 ^ 63 := by rw [sizeLine_eq]; decide
theorem tru_ok : TruR X (fun x H Q => ∃ k, TruV X.K x H k /\ Q k H) := by
  intro pins s σ H x v Q I rx h
  obtain ⟨k, e, q⟩ := h
  have hl := line63
  have hs : sizeLine = 16777216 := sizeLine_eq
  cases x with
  | non =>
    cases rx
    have e' : k = false := e
    subst e'
    exact truthy_none ⟨H, I, q⟩
  | bl b =>
    cases rx
    have e' : k = b := e
    subst e'
    exact wpAny_truthy_bool ⟨H, I, q⟩
  | int i =>
    obtain ⟨t, rfl⟩ := rx
    have e' : k = (i != 0) := e
    subst e'
    exact PySem.P.truthy_int ⟨H, I, q⟩
  | str y =>
    obtain ⟨t, rfl⟩ := rx
    obtain ⟨hy, e'⟩ : y.length <= sizeLine /\ k = ((y.length : Int) != 0) := e
    subst e'
    exact PySem.P.truthy_str (by omega) ⟨H, I.tok _, q⟩
  | byt y =>
    obtain ⟨t, rfl⟩ := rx
    obtain ⟨hy, e'⟩ : y.size <= sizeLine /\ k = ((y.size : Int) != 0) := e
    subst e'
    exact PySem.W.truthy_bytes (by omega) ⟨H, I.tok _, q⟩
  | ref p =>
    cases rx
    have e' : (∃ xs, SqL X.K H p xs /\ k = !xs.isEmpty) \/ (∃ xs, SqT X.K H p xs /\ k = !xs.isEmpty) \/ ∃ kvs, H p = some (.dK kvs) /\ k = !kvs.isEmpty := e
    rcases e' with ⟨xs, hx, e'⟩ | ⟨xs, hx, e'⟩ | ⟨kvs, hx, e'⟩
    · subst e'
      obtain ⟨its, r, pl, hz⟩ := I.list hx
      have hlen := r.length
      exact wpAny_truthy_list pl.isList (by simp only [List.size_toArray]; omega) ⟨H, I.tok _, by rw [isEmpty_of r]; exact q⟩
    · subst e'
      obtain ⟨its, r, pl, hz⟩ := I.tuple hx
      have hlen := r.length
      exact truthy_tuple pl (by simp only [List.size_toArray]; omega) ⟨H, I.tok _, by rw [isEmpty_of r]; exact q⟩
    · subst e'
      obtain ⟨hz, hS, vs, r, m⟩ : kvs.length <= sizeLine /\ (p == sysModules) = false /\ ∃ vs, KV kvs vs /\ s.heap.DictOf (mixKind X.prog X.w) p vs := I.hok p _ hx
      have hlen : kvs.length = vs.length := Paired.length r
      exact wpAny_truthy_dict hS m (by omega) ⟨H, I.tok _, by rw [isEmpty_kv r]; exact q⟩
  | _ => exact (show False from e).elim
theorem pt_truth (ha : PE X a ta) (he : ∀ whole, isTrue a X.env whole = (do let v <- whole; standAt a.pos; holding [v] (truthy v))) :
    PT X a (fun σ H Q => ta σ H fun x H' => ∃ k, TruV X.K x H' k /\ Q k H') := by
  intro pins s σ H Q I h
  exact isTrue_plain (thn (ha pins s σ H _ I h) fun v s1 ⟨x, H1, I1, r1, q1⟩ => tru_ok pins s1 σ H1 x v Q I1 r1 q1) (he _)
theorem vals1 {x : V} {us : List Value} (r : Vals [x] us) : ∃ u, us = [u] /\ RelV x u := by
  cases r with
  | cons r1 r2 => cases r2; exact ⟨_, rfl, r1⟩
theorem vals2 {x y : V} {us : List Value} (r : Vals [x, y] us) : ∃ u w', us = [u, w'] /\ RelV x u /\ RelV y w' := by
  cases r with
  | cons r1 r2 =>
    cases r2 with
    | cons r3 r4 => cases r4; exact ⟨_, _, rfl, r1, r3⟩
theorem call_max2 (hc : X.calm = true) : CallR X (.builtin "max") (fun xs H Q => ∃ i j, xs = [.int i, .int j] /\ Q (.int (if j > i then j else i)) H) := by
  intro pins s σ H xs us Q I r h
  obtain ⟨i, j, rfl, q⟩ := h
  obtain ⟨u, w', rfl, ⟨t, rfl⟩, ⟨t', rfl⟩⟩ := vals2 r
  refine max_two_ints (I.ok.hd hc) fun h' tk k => ⟨_, H, I.kept k, ?_, q⟩
  by_cases hj : j > i
  · rw [if_pos hj, if_pos hj]; exact ⟨_, rfl⟩
  · rw [if_neg hj, if_neg hj]; exact ⟨_, rfl⟩
theorem call_int1 : CallR X (.type "int") (fun xs H Q => (∃ i, xs = [.int i] /\ Q (.int i) H) \/ ∃ k, xs = [.bl k] /\ Q (.int (if k then 1 else 0)) H) := by
  intro pins s σ H xs us Q I r h
  rcases h with ⟨i, rfl, q⟩ | ⟨k, rfl, q⟩
  · obtain ⟨u, rfl, t, rfl⟩ := vals1 r
    exact call_int_int ⟨.int i, H, I, ⟨_, rfl⟩, q⟩
  · obtain ⟨u, rfl, r1⟩ := vals1 r
    cases r1
    exact call_int_bool ⟨.int (if k then 1 else 0), H, I.tok _, ⟨_, rfl⟩, q⟩
def LenV (K : PySem.W.Frag) (x : V) (H : Hp) (n : Nat) : Prop :=
  match x with
  | .str y => y.length <= sizeLine /\ n = y.length
  | .byt y => y.size <= sizeLine /\ n = y.size
  | .ref p => (∃ xs, SqL K H p xs /\ n = xs.length) \/ ∃ xs, SqT K H p xs /\ n = xs.length
  | _ => False
theorem call_len : CallR X (.builtin "len") (fun xs H Q => ∃ x n, xs = [x] /\ LenV X.K x H n /\ Q (.int n) H) := by
  intro pins s σ H xs us Q I r h
  obtain ⟨x, n, rfl, e, q⟩ := h
  obtain ⟨u, rfl, rx⟩ := vals1 r
  have hl := line63
  have hs : sizeLine = 16777216 := sizeLine_eq
  cases x with
  | str y =>
    obtain ⟨t, rfl⟩ := rx
    obtain ⟨hy, e'⟩ : y.length <= sizeLine /\ n = y.length := e
    subst e'
    exact len_str (by omega) ⟨.int _, H, I.tok _, ⟨_, rfl⟩, q⟩
  | byt y =>
    obtain ⟨t, rfl⟩ := rx
    obtain ⟨hy, e'⟩ : y.size <= sizeLine /\ n = y.size := e
    subst e'
    exact PySem.W.len_bytes (by omega) ⟨.int _, H, I.tok _, ⟨_, rfl⟩, q⟩
  | ref p =>
    cases rx
    have e' : (∃ xs, SqL X.K H p xs /\ n = xs.length) \/ ∃ xs, SqT X.K H p xs /\ n = xs.length := e
    rcases e' with ⟨xs, hx, e'⟩ | ⟨xs, hx, e'⟩
    · subst e'
      obtain ⟨its, r', pl, hz⟩ := I.list hx
      have hlen := r'.length
      exact Calls.call_len_list pl.isList (by simp only [List.size_toArray]; omega) ⟨.int xs.length, H, I.tok _, ⟨_, by simp only [List.size_toArray]; rw [hlen]⟩, q⟩
    · subst e'
      obtain ⟨its, r', pl, hz⟩ := I.tuple hx
      have hlen := r'.length
      exact len_tuple pl (by simp only [List.size_toArray]; omega) ⟨.int xs.length, H, I.tok _, ⟨_, by simp only [List.size_toArray]; rw [hlen]⟩, q⟩
  | _ => exact (show False from e).elim
end
end L2
namespace L2
open PySem PySem.Spec PyProof.Rows
structure ObjM (h : Heap) (x dx C : Addr) (mA : Str -> Option Value) : Prop where
  obj : h.get? x = some (instObj C dx)
  ns : h.Ns1 dx mA
  ne : dx ≠ x
theorem lookIn_ns {h : Heap} {dx : Addr} {mA : Str -> Option Value} (n : h.Ns1 dx mA) : ∃ od, h.get? dx = some od /\ ∀ name, lookIn name od = some (mA name) := by
  obtain ⟨o, es, ep, ho, hd, hk, _, hm⟩ := n
  refine ⟨o, ho, fun name => ?_⟩
  have e := hm name
  unfold nsFind findBy at e
  rw [<- Array.find?_toList] at e
  unfold lookIn
  rw [hd]
  dsimp only
  split
  · rename_i y q
    rw [q] at e
    exact congrArg some e
  · rename_i q
    rw [q] at e
    have a : es.toList.any (·.refKey) = false := by
      rw [List.any_eq_false]
      intro y hy
      obtain ⟨z, t, hkey⟩ := hk y (Array.mem_toList_iff.mp hy)
      simp [DictEntry.refKey, hkey]
    have a' : ¬ es.toList.any (·.refKey) = true := by rw [a]; exact Bool.false_ne_true
    rw [if_neg a']
    exact congrArg some e
theorem ObjM.look {h : Heap} {x dx C : Addr} {mA : Str -> Option Value} (I : ObjM h x dx C mA) : ∃ od, PySem.W.InstAt h x (instObj C dx) C (some od) /\ ∀ name, lookIn name od = some (mA name) :=
  let ⟨od, ho, hl⟩ := lookIn_ns I.ns
  ⟨od, ⟨I.obj, rfl, rfl, ho⟩, hl⟩
section
variable {prog : Program} {w : World} {A : Around} {E : Value -> Shared -> Prop} {s : Shared} {K : PySem.W.Frag} {x dx C f : Addr} {mA : Str -> Option Value} {name : Str} {v : Value}
theorem get_map {expr : Bool} {Q : Value -> Shared -> Prop} (X : K.In s.heap) (I : ObjM s.heap x dx C mA) (hg : plainGet K C name = true) (hh : hasDictIn K C = true)
    (ha : findIn K (.ref C) name = some none) (hv : mA name = some v) (hv' : PySem.W.handedIn v = true) (h : Q v { s with toks := s.toks + 1 }) :
    wpAny (model prog w) A (getAttr (.ref x) name expr) Q E s := by
  obtain ⟨od, J, hl⟩ := I.look
  exact PySem.W.get_value X J (plainGet_of hg).1 (PySem.W.findObj_own hh ha rfl (by rw [hl, hv])) hv' h
theorem get_meth {pl : Sem Bool} {Q : Value × List Value -> Shared -> Prop} (X : K.In s.heap) (I : ObjM s.heap x dx C mA) (hg : plainGet K C name = true)
    (hf : findIn K (.ref C) name = some (some (.ref f))) (ht : isFn K (.ref f) = true) (hv : mA name = none) (h : Q (.ref f, [.ref x]) s) :
    wpAny (model prog w) A (getMethod (.ref x) name pl) Q E s := by
  obtain ⟨od, J, hl⟩ := I.look
  exact PySem.W.method_fn X J (plainGet_of hg).1 (plainGet_of hg).2 hf (beq_iff_eq.mp ht) (by show (lookIn name od).map (·.isSome) = some false; rw [hl, hv]; rfl) h
theorem set_map {ns : List Str} {Q : Unit -> Shared -> Prop} (X : K.In s.heap) (I : ObjM s.heap x dx C mA)
    (hs : findIn K (.ref C) "__setattr__" = some (some (.builtin "object.__setattr__"))) (hp : plainOver K C = true) (ht : takerIn K C name = some none) (hh : hasDictIn K C = true)
    (hw : PySem.Within mA ns) (hsz : ns.length <= sizeLine)
    (h : ∀ h', ObjM h' x dx C (fun y => if y = name then some v else mA y) -> Heap.SameBut dx s.heap h' -> Q () { s with heap := h', toks := s.toks + 2 }) :
    wpAny (model prog w) A (setAttr (.ref x) name v) Q E s := by
  obtain ⟨od, J, hl⟩ := I.look
  refine PySem.W.set_plain X J hs (PySem.W.osa_open (s := { s with toks := s.toks + 1 }) (r := none) X J hp ht fun b => ?_)
  obtain ⟨cd, hc, hd'⟩ := PySem.W.any_some hh
  have hx : s.heap.get? x = some ⟨.ref C, some dx, .plain, #[]⟩ := I.obj
  refine wpAny_bind (wpAny_pure (wpAny_bind (wpAny_bind (wpAny_loadPart hx (wpAny_bind (PySem.W.Looks.here (s := { s with toks := s.toks + 1 }) (PySem.W.looks_clsIn X hc) ?_))))))
  rw [hd']
  refine wpAny_pure (a := some dx) (wpAny_bind (wpAny_pure (wpAny_bind ?_)))
  refine wpAny_nsSet1 (s := { s with toks := s.toks + 1 }) I.ns fun h' hn2 hs2 => ?_
  obtain ⟨oD, esD, epD, hoD, hdD, hcD⟩ := hn2.count (PySem.Within.cons name v hw)
  refine wpAny_bind (wpAny_lookBehind hoD (by rw [hdD]; exact pastItsLine_dict (Nat.le_trans hcD (by rw [List.length_cons]; omega))) ?_)
  exact wpAny_pure (h _ ⟨(hs2.2 _ (Ne.symm I.ne)).trans I.obj, hn2, I.ne⟩ hs2)
theorem make_map {R : Result -> Shared -> Prop} {vs : List Value} {kw : List (Str × Value)} (X : K.In s.heap) (hm : makesIn K C = true)
    (hi : findIn K (.ref C) "__init__" = some (some (.ref f))) (hf : PySem.W.typeIn K (.ref f) = some (.type "function"))
    (h : codeAny (model prog w) (A.under (.builtin "type.__call__" ⟨.ref C :: vs, kw⟩)) (.call (.ref f) ⟨.ref (s.heap.objs.size + 1) :: vs, kw⟩) (PySem.W.InitBack (s.heap.objs.size + 1) R)
      { s with heap := (s.heap.push emptyDict).push (instObj C s.heap.objs.size) }) :
    codeAny (model prog w) A (.call (.ref C) ⟨vs, kw⟩) R s := by
  obtain ⟨hh, g, d, t, os⟩ := s
  exact PySem.W.make_core (PySem.W.makes_of X hm) (PySem.W.looks_findIn X hi) (fun self => PySem.W.bind_fn X self hf) (.inl rfl) h
end
def putF (f : Str) (v : V) : List (Str × V) -> List (Str × V)
  | [] => [(f, v)]
  | (g, x) :: r => if g = f then (g, v) :: r else (g, x) :: putF f v r
theorem zX (f g : Str) (v : V) : ∀ fs : List (Str × V), (putF f v fs).lookup g = if g = f then some v else fs.lookup g
  | [] => by
    show List.lookup g [(f, v)] = _
    by_cases h : g = f
    · have hb : (g == f) = true := beq_iff_eq.mpr h
      simp only [List.lookup, hb, if_pos h]
    · have hb : (g == f) = false := beq_eq_false_iff_ne.mpr h
      simp only [List.lookup, hb, if_neg h]
  | (k, x) :: r => by
    have ih := zX f g v r
    rw [show putF f v ((k, x) :: r) = (if k = f then (k, v) :: r else (k, x) :: putF f v r) from rfl]
    by_cases hk : k = f
    · rw [if_pos hk]
      by_cases h : g = k
      · have hb : (g == k) = true := beq_iff_eq.mpr h
        simp only [List.lookup, hb, if_pos (h.trans hk)]
      · have hb : (g == k) = false := beq_eq_false_iff_ne.mpr h
        simp only [List.lookup, hb, if_neg (fun e : g = f => h (e.trans hk.symm))]
    · rw [if_neg hk]
      by_cases h : g = k
      · have hb : (g == k) = true := beq_iff_eq.mpr h
        simp only [List.lookup, hb, if_neg (fun e : g = f => hk (h.symm.trans e))]
      · have hb : (g == k) = false := beq_eq_false_iff_ne.mpr h
        simp only [List.lookup, hb]
        exact ih
theorem keys_putF (f : Str) (v : V) : ∀ fs : List (Str × V), f ∈ (putF f v fs).map (·.1) /\ ∀ g, g ∈ fs.map (·.1) -> g ∈ (putF f v fs).map (·.1)
  | [] => ⟨by simp [putF], fun g h => by simp at h⟩
  | (k, x) :: r => by
    obtain ⟨i1, i2⟩ := keys_putF f v r
    rw [show putF f v ((k, x) :: r) = (if k = f then (k, v) :: r else (k, x) :: putF f v r) from rfl]
    by_cases hk : k = f
    · rw [if_pos hk]
      subst hk
      exact ⟨by simp, fun g h => by simpa using h⟩
    · rw [if_neg hk]
      refine ⟨?_, fun g h => ?_⟩
      · rw [List.map_cons]
        exact List.mem_cons_of_mem _ i1
      · rw [List.map_cons] at h ⊢
        rcases List.mem_cons.mp h with e | e
        · exact List.mem_cons.mpr (.inl e)
        · exact List.mem_cons_of_mem _ (i2 g e)
theorem length_putF (f : Str) (v : V) : ∀ fs : List (Str × V), (putF f v fs).length <= fs.length + 1
  | [] => by simp [putF]
  | (k, x) :: r => by
    have ih := length_putF f v r
    rw [show putF f v ((k, x) :: r) = (if k = f then (k, v) :: r else (k, x) :: putF f v r) from rfl]
    by_cases hk : k = f
    · rw [if_pos hk, List.length_cons, List.length_cons]; omega
    · rw [if_neg hk, List.length_cons, List.length_cons]; omega
theorem RelO.some_of {v : V} {o : Option Value} (r : RelO (some v) o) : ∃ u, o = some u /\ RelV v u := by
  cases o with
  | none => exact (show False from r).elim
  | some u => exact ⟨u, rfl, r⟩
theorem RelO.none_of {o : Option Value} (r : RelO none o) : o = none := by
  cases o with
  | none => rfl
  | some u => exact (show False from r).elim
theorem handed_of {v : V} {u : Value} (r : RelV v u) : PySem.W.handedIn u = true := by
  cases v with
  | non => cases (show u = Value.none from r); rfl
  | bl b => cases (show u = Value.bool b from r); rfl
  | int i => obtain ⟨t, e⟩ := (show ∃ t, u = Value.int i t from r); cases e; rfl
  | str x => obtain ⟨t, e⟩ := (show ∃ t, u = Value.str x t from r); cases e; rfl
  | byt b => obtain ⟨t, e⟩ := (show ∃ t, u = Value.bytes b t from r); cases e; rfl
  | flt b => obtain ⟨t, e⟩ := (show ∃ t, u = Value.float b t from r); cases e; rfl
  | ref a => cases (show u = Value.ref a from r); rfl
  | ty n => cases (show u = Value.type n from r); rfl
section
variable {P : Program} {w : World} {H H' : Hp} {h h' : Heap} {a C dx : Addr} {fs fs' : List (Str × V)}
theorem ins_get (hok : HOk P w H h) (e : H a = some (.ins C dx fs)) : ∃ mA, ObjM h a dx C mA /\ (∀ f, RelO (fs.lookup f) (mA f)) /\ PySem.Within mA (fs.map (·.1)) /\ fs.length <= 1000 /\ H dx = some (.own a) := by
  obtain ⟨d, z, ne, ob, mA, n, r, q⟩ := (show ObjOk P w H h a (.ins C dx fs) from hok a _ e)
  exact ⟨mA, ⟨ob, n, ne⟩, r, q, z, d⟩
end
structure Cls (K : PySem.W.Frag) (C : Addr) : Prop where
  pg : plainGet K C Str.empty = true
  hd : hasDictIn K C = true
  po : plainOver K C = true
  sa : findIn K (.ref C) "__setattr__" = some (some (.builtin "object.__setattr__"))
theorem Cls.get {K : PySem.W.Frag} {C : Addr} (c : Cls K C) (f : Str) : plainGet K C f = true := c.pg
def NoAttr (K : PySem.W.Frag) (C : Addr) (f : Str) : Prop := findIn K (.ref C) f = some none
theorem NoAttr.taker {K : PySem.W.Frag} {C : Addr} {f : Str} (n : NoAttr K C f) : takerIn K C f = some none := by
  unfold takerIn
  rw [show findIn K (.ref C) f = some none from n]
  rfl
structure Con (K : PySem.W.Frag) (C : Addr) (f : Str) (v : V) (u : Value) : Prop where
  at_ : findIn K (.ref C) f = some (some u)
  rel : RelV v u
  get : PySem.W.specialIn K u "__get__" = some none
  cp : PySem.W.copiedNames.contains f = false
structure Meth (K : PySem.W.Frag) (C : Addr) (m : Str) (f : Addr) : Prop where
  at_ : findIn K (.ref C) m = some (some (.ref f))
  fn : isFn K (.ref f) = true
  kp : keepIn K (.ref f) = true
section
variable {X : Cx} {pins : List (Addr × Obj)} {σ : St} {H : Hp} {s : Shared} {a C dx : Addr} {fs : List (Str × V)} {f : Str} {v : V} {A : Around} {E : Value -> Shared -> Prop}
theorem getattr_ok {b : Bool} {Q : Value -> Shared -> Prop} (I : Inv X pins σ H s) (e : H a = some (.ins C dx fs)) (c : Cls X.K C) (n : NoAttr X.K C f) (l : fs.lookup f = some v)
    (h : ∀ u s', Inv X pins σ H s' -> RelV v u -> Q u s') : wpAny (model X.prog X.w) A (getAttr (.ref a) f b) Q E s := by
  obtain ⟨mA, O, r, _, _, _⟩ := ins_get I.hok e
  obtain ⟨u, hu, ru⟩ := RelO.some_of (v := v) (o := mA f) (by rw [<- l]; exact r f)
  exact get_map I.kIn O (c.get f) c.hd n hu (handed_of ru) (h u _ (I.tok _) ru)
theorem getmeth_ok {m : Str} {g : Addr} {pl : Sem Bool} {Q : Value × List Value -> Shared -> Prop} (I : Inv X pins σ H s) (e : H a = some (.ins C dx fs)) (c : Cls X.K C) (k : Meth X.K C m g) (l : fs.lookup m = none)
    (h : Q (.ref g, [.ref a]) s) : wpAny (model X.prog X.w) A (getMethod (.ref a) m pl) Q E s := by
  obtain ⟨mA, O, r, _, _, _⟩ := ins_get I.hok e
  have hn : mA m = none := RelO.none_of (by rw [<- l]; exact r m)
  exact get_meth I.kIn O (c.get m) k.at_ k.fn hn h
theorem setattr_ok {y : V} {u : Value} {Q : Unit -> Shared -> Prop} (I : Inv X pins σ H s) (e : H a = some (.ins C dx fs)) (c : Cls X.K C) (n : NoAttr X.K C f) (hl : fs.length < 1000) (ry : RelV y u)
    (h : ∀ s', Inv X pins σ (upd H a (.ins C dx (putF f y fs))) s' -> Q () s') : wpAny (model X.prog X.w) A (setAttr (.ref a) f u) Q E s := by
  obtain ⟨mA, O, r, wi, _, ho⟩ := ins_get I.hok e
  have hz : (fs.map (·.1)).length <= sizeLine := by rw [List.length_map, sizeLine_eq]; omega
  refine set_map I.kIn O c.sa c.po n.taker c.hd wi hz fun h' O' sb => h _ ?_
  have hd : ∃ o, h'.get? dx = some o := let ⟨o, _, _, e', _⟩ := O'.ns; ⟨o, e'⟩
  refine I.write (x := a) (e := dx) (by rw [e]; exact True.intro) (.inr ho) (fun b q hb z => (sb.2 b hb).trans z) hd ?_
  refine ⟨by rw [zQ O.ne]; exact ho, ?_, O.ne, O'.obj, _, O'.ns, fun g => ?_, fun g hg => ?_⟩
  · have := length_putF f y fs; omega
  · show RelO ((putF f y fs).lookup g) (if g = f then some u else mA g)
    rw [zX]
    by_cases q : g = f
    · rw [if_pos q, if_pos q]; exact ry
    · rw [if_neg q, if_neg q]; exact r g
  · by_cases q : g = f
    · rw [q]; exact (keys_putF f y fs).1
    · refine (keys_putF f y fs).2 g (wi g fun z => hg ?_)
      show (if g = f then some u else mA g) = none
      rw [if_neg q]; exact z
theorem Inv.made (I : Inv X pins σ H s) : Inv X pins σ (upd (upd H s.heap.objs.size (.own (s.heap.objs.size + 1))) (s.heap.objs.size + 1) (.ins C s.heap.objs.size []))
    { s with heap := (s.heap.push emptyDict).push (instObj C s.heap.objs.size) } := by
  have e1 : (s.heap.push emptyDict).get? s.heap.objs.size = some emptyDict := Heap.get?_push_size s.heap rfl
  have e2 : ((s.heap.push emptyDict).push (instObj C s.heap.objs.size)).get? (s.heap.objs.size + 1) = some (instObj C s.heap.objs.size) := by
    have := Heap.get?_push_size (s.heap.push emptyDict) (o := instObj C s.heap.objs.size) rfl
    rwa [Heap.size_push] at this
  have e3 : (s.heap.push emptyDict).Ns s.heap.objs.size (fun _ => none) := ⟨emptyDict, #[], _, e1, rfl, (fun e he => absurd he (by simp)), fun _ => rfl⟩
  have I1 := I.laid (a := s.heap.objs.size) (o := .own (s.heap.objs.size + 1)) (h' := s.heap.push emptyDict) (t' := s.toks) (fun b u q => Heap.get?_push_of_some _ q) (Nat.le_refl _) ⟨_, e1⟩
  refine I1.laid (a := s.heap.objs.size + 1) (o := .ins C s.heap.objs.size []) (t' := s.toks) (fun b u q => Heap.get?_push_of_some _ q) (Nat.le_of_eq (Heap.size_push _ _)) ?_
  have ne : s.heap.objs.size ≠ s.heap.objs.size + 1 := Nat.ne_of_lt (Nat.lt_succ_self _)
  refine ⟨by rw [zQ ne, zR], Nat.zero_le _, ne, e2, fun _ => none, (Heap.Ns1.of_empty e3).at fun o q => Heap.get?_push_of_some _ q, fun _ => True.intro, fun y hy => absurd rfl hy⟩
theorem attr_of {prog : Program} {w : World} {env : Env} {e : Expr} {f : Str} {pos : Pos} {s : Shared} {Q : Value -> Shared -> Prop} (hb : attributeBase e f env (eval e env) = eval e env)
    (h : wpAny (model prog w) A (eval e env) (fun o s₁ => wpAny (model prog w) A (getAttr o f true) Q E s₁) E s) : wpAny (model prog w) A (eval (.Attribute e f pos) env) Q E s :=
  Attribute_any_ h (by rw [arm_eval_Attribute, hb])
end
def tFld (K : PySem.W.Frag) (ta : TE) (f : Str) : TE := fun σ H Q => ta σ H fun x H1 => ∃ a C dx fs v, x = .ref a /\ H1 a = some (.ins C dx fs) /\ Cls K C /\ NoAttr K C f /\ fs.lookup f = some v /\ Q v H1
def sFld (K : PySem.W.Frag) (ta tv : TE) (f : Str) : TS := fun D σ H => tv σ H fun y H1 => ta σ H1 fun x H2 => ∃ a C dx fs, x = .ref a /\ H2 a = some (.ins C dx fs) /\ Cls K C /\ NoAttr K C f /\ fs.length < 1000 /\
  D.nx σ (upd H2 a (.ins C dx (putF f y fs)))
section
variable {X : Cx} {o e value : Expr} {f : Str} {pos pos' tpos : Pos} {ta tv : TE}
theorem pe_fld (he : PE X e ta) (hb : attributeBase e f X.env (eval e X.env) = eval e X.env) : PE X (.Attribute e f pos) (tFld X.K ta f) := by
  intro pins s σ H Q I h
  refine attr_of hb (thn (he pins s σ H _ I h) fun u s1 ⟨x, H1, I1, rx, a, C, dx, fs, v, ex, ea, c, n, l, q⟩ => ?_)
  subst ex
  obtain rfl : u = Value.ref a := rx
  exact getattr_ok I1 ea c n l fun u' s2 I2 ru => ⟨v, H1, I2, ru, q⟩
theorem ps_fld (ha : PE X o ta) (hv : PE X value tv) (hs : swapsWith value (some (.Attribute o f pos')) pos.line X.env = pure false) : PS X (.Assign [.Attribute o f pos'] value pos) (sFld X.K ta tv f) := by
  intro pins s σ H D I h
  refine plainObj_wpAny_Assign_Attribute (thn (hv pins s σ H _ I h) fun u s1 ⟨y, H1, I1, ry, q⟩ => thn (ha pins s1 σ H1 _ I1 q) fun ov s2 ⟨x, H2, I2, rx, a, C, dx, fs, ex, ea, c, n, l, q2⟩ => ?_) hs
  subst ex
  obtain rfl : ov = Value.ref a := rx
  exact setattr_ok I2 ea c n l ry fun s3 I3 => ⟨σ, _, I3, q2⟩
end
section
variable {X : Cx} {pins : List (Addr × Obj)} {σ : St} {H : Hp} {s : Shared} {A : Around} {E : Value -> Shared -> Prop} {Q : Value -> Shared -> Prop} {c : Value} {b : Bool}
inductive TyOf (K : PySem.W.Frag) (H : Hp) : V -> Value -> Prop where
  | non : TyOf K H .non (.type "NoneType")
  | bl (x : Bool) : TyOf K H (.bl x) (.type "bool")
  | int (i : Int) : TyOf K H (.int i) (.type "int")
  | str (x : Str) : TyOf K H (.str x) (.type "str")
  | flt (x : UInt64) : TyOf K H (.flt x) (.type "float")
  | lst {a : Addr} {xs : List V} (e : H a = some (.lst xs)) : TyOf K H (.ref a) (.type "list")
  | frz {a : Addr} {o : Obj} {xs : List V} (e : H a = some (.frz o (.lst xs))) : TyOf K H (.ref a) (.type "list")
  | tup {a : Addr} {xs : List V} (e : H a = some (.tup xs)) : TyOf K H (.ref a) (.type "tuple")
  | dK {a : Addr} {kvs : List (Key × V)} (e : H a = some (.dK kvs)) : TyOf K H (.ref a) (.type "dict")
  | dT {a : Addr} {kvs : List (List Key × V)} (e : H a = some (.dT kvs)) : TyOf K H (.ref a) (.type "dict")
  | ins {a C dx : Addr} {fs : List (Str × V)} (e : H a = some (.ins C dx fs)) (cl : Cls K C) (ha : findIn K (.ref C) "__class__" = some (some (.builtin "object.__class__")))
      (hn : PySem.W.specialIn K (.builtin "object.__class__") "__get__" = some (some (.builtin "getset_descriptor.__get__"))) (htk : PySem.W.takesIn K (.builtin "object.__class__") = some true)
      (hm : PySem.W.mroIn K C (.type "object") = some true) : TyOf K H (.ref a) (.ref C)
theorem isinst_ok {x : V} {u t : Value} (I : Inv X pins σ H s) (rx : RelV x u) (ty : TyOf X.K H x t) (e : kitOne X.K t c = some b) (h : ∀ tk, Q (.bool b) { s with toks := tk }) :
    wpAny (model X.prog X.w) A (call (.builtin "isinstance") [u, c]) Q E s := by
  cases ty with
  | non => cases (show u = Value.none from rx); exact kia_one PySem.W.kitx_none I.kIn True.intro e (fun z => nomatch z) h
  | bl y => cases (show u = Value.bool y from rx); exact kia_one PySem.W.kitx_bool I.kIn True.intro e (fun z => nomatch z) h
  | int i => obtain ⟨t, q⟩ := (show ∃ t, u = Value.int i t from rx); cases q; exact kia_one PySem.W.kitx_int I.kIn True.intro e (fun z => nomatch z) h
  | str y => obtain ⟨t, q⟩ := (show ∃ t, u = Value.str y t from rx); cases q; exact kia_one PySem.W.kitx_str I.kIn True.intro e (fun z => nomatch z) h
  | flt y => obtain ⟨t, q⟩ := (show ∃ t, u = Value.float y t from rx); cases q; exact kia_one PySem.W.kitx_float I.kIn True.intro e (fun z => nomatch z) h
  | @lst a xs ea =>
    cases (show u = Value.ref a from rx)
    obtain ⟨_, _, n, _, h1⟩ := (show ObjOk X.prog X.w H s.heap a (.lst xs) from I.hok a _ ea)
    exact kia_one PySem.W.kitx_list I.kIn ⟨_, h1, rfl⟩ e (fun z => nomatch z) h
  | @frz a ob xs ea =>
    cases (show u = Value.ref a from rx)
    obtain ⟨_, _, _, n, _, h1⟩ := (show ObjOk X.prog X.w H s.heap a (.frz ob (.lst xs)) from I.hok a _ ea)
    exact kia_one PySem.W.kitx_list I.kIn ⟨_, h1, rfl⟩ e (fun z => nomatch z) h
  | @tup a xs ea =>
    cases (show u = Value.ref a from rx)
    obtain ⟨_, _, _, p⟩ := (show ObjOk X.prog X.w H s.heap a (.tup xs) from I.hok a _ ea)
    obtain ⟨o, h1, h2, _⟩ := p
    exact kia_one PySem.W.kitx_tuple I.kIn ⟨o, h1, h2⟩ e (fun z => nomatch z) h
  | @dK a kvs ea =>
    cases (show u = Value.ref a from rx)
    obtain ⟨_, _, vs, _, p⟩ := (show ObjOk X.prog X.w H s.heap a (.dK kvs) from I.hok a _ ea)
    obtain ⟨o, es, ep, h1, h2, _⟩ := p
    exact kia_one PySem.W.kitx_dict I.kIn ⟨o, h1, h2.1⟩ e (fun z => nomatch z) h
  | @dT a kvs ea =>
    cases (show u = Value.ref a from rx)
    obtain ⟨_, _, xs, _, o, es, ep, h1, h2, _⟩ := (show ObjOk X.prog X.w H s.heap a (.dT kvs) from I.hok a _ ea)
    exact kia_one PySem.W.kitx_dict I.kIn ⟨o, h1, h2.1⟩ e (fun z => nomatch z) h
  | @ins a C dx fs ea cl ha hn htk hm =>
    cases (show u = Value.ref a from rx)
    obtain ⟨mA, O, _⟩ := ins_get I.hok ea
    obtain ⟨od, J, _⟩ := O.look
    exact kia_one (PySem.W.kitx_own (cl.get _) cl.hd ha hn htk hm) I.kIn J e (fun z => nomatch z) h
end
end L2
namespace L2
open PySem PySem.Spec PyProof.Rows
structure Room (k : Nat) (A : Around) : Prop where
  hd : A.handled = none
  dp : A.depth + 3 * k + 5 < recursionLimit
  un : A.units + 16 * k + 200 < cLine
theorem Room.mono {j k : Nat} {A : Around} (r : Room k A) (h : j <= k) : Room j A := ⟨r.hd, by have := r.dp; omega, by have := r.un; omega⟩
theorem Room.deeper {k : Nat} {A : Around} (r : Room (k + 1) A) (env : Env) : Room k (A.deeper env) :=
  ⟨r.hd, by have := r.dp; show A.depth + 1 + 3 * k + 5 < _; omega, by have := r.un; show A.units + 3 + 16 * k + 200 < _; omega⟩
theorem make_depth {A : Around} {C : Addr} {us : List Value} {kw : List (Str × Value)} : (A.under (.builtin "type.__call__" ⟨.ref C :: us, kw⟩)).depth = A.depth + 1 := by
  first | rfl | simp [Around.under, Code.weight, Code.isCreation, Code.isGuard, Code.isCaller, Code.frames, Code.isFrame, guardIds]
theorem make_units {A : Around} {C : Addr} {us : List Value} {kw : List (Str × Value)} : (A.under (.builtin "type.__call__" ⟨.ref C :: us, kw⟩)).units = A.units + 1 := by
  first | rfl | simp [Around.under, Code.cUnits, Code.frames, Code.isFrame]
theorem Room.make {k : Nat} {A : Around} (r : Room (k + 1) A) (C : Addr) (us : List Value) (kw : List (Str × Value)) : Room k (A.under (.builtin "type.__call__" ⟨.ref C :: us, kw⟩)) :=
  ⟨r.hd, by have := r.dp; rw [make_depth]; omega, by have := r.un; rw [make_units]; omega⟩
theorem Room.depth {k : Nat} {A : Around} (r : Room k A) : A.depth < recursionLimit := by have := r.dp; omega
theorem Room.units {k : Nat} {A : Around} (r : Room k A) : A.units + 64 < cLine := by have := r.un; omega
def tNil : TA := fun _ H Q => Q [] H
def tCons (ta : TE) (tr : TA) : TA := fun σ H Q => ta σ H fun x H1 => tr σ H1 fun xs H2 => Q (x :: xs) H2
section
variable {X : Cx} {e : Expr} {es : List Expr} {te : TE} {t : TA} {pos : Pos}
theorem zF : PA X [] tNil := fun _ _ _ _ H Q I h => Calls.spliced_nil ⟨[], H, I, .nil, h⟩
theorem zB (ha : PE X e te) (hr : PA X es t) (hs : starEach (e :: es) X.env = (false, eval e X.env) :: starEach es X.env := by rfl) : PA X (e :: es) (tCons te t) := by
  intro pos pins s σ H Q I h
  rw [hs]
  show wpAny _ _ (spliced ((false, eval e X.env) :: backTo pos (starEach es X.env))) _ _ s
  refine Calls.spliced_cons (thn (ha pins s σ H _ I h) fun u s1 ⟨x, H1, I1, r1, q1⟩ => ?_)
  exact thn (hr pos pins s1 σ H1 _ I1 q1) fun us s2 ⟨xs, H2, I2, r2, q2⟩ => ⟨x :: xs, H2, I2, .cons r1 r2, q2⟩
def tTup (t : TA) : TE := fun σ H Q => t σ H fun xs H1 => xs.length <= sizeLine /\ ∀ p, H1 p = none -> Q (.ref p) (upd H1 p (.tup xs))
def tLst (t : TA) : TE := fun σ H Q => t σ H fun xs H1 => xs.length <= sizeLine /\ ∀ p, H1 p = none -> Q (.ref p) (upd H1 p (.lst xs))
theorem pe_tup {x1} (h : PA X es t) : PE X (.Tuple es x1 pos) (tTup t) := by
  intro pins s σ H Q I hq
  refine wpAny_Tuple_spliced (thn (h pos pins s σ H _ I hq) fun us s1 ⟨xs, H1, I1, r, z, q⟩ => ⟨by rw [<- r.length]; exact z, ?_⟩)
  have hf : H1 s1.heap.objs.size = none := I1.hok.fresh (Nat.le_refl _)
  refine ⟨.ref s1.heap.objs.size, upd H1 s1.heap.objs.size (.tup xs), I1.laid (t' := s1.toks) (fun b u e => Heap.get?_push_of_some _ e) (Nat.le_refl _) ?_, rfl, q _ hf⟩
  exact ⟨z, us, r, ⟨_, Heap.get?_push_size _ rfl, rfl, _, rfl⟩⟩
theorem xT (h : PA X es t) : PE X (.List es pos) (tLst t) := by
  intro pins s σ H Q I hq
  refine wpAny_List_spliced (thn (h pos pins s σ H _ I hq) fun us s1 ⟨xs, H1, I1, r, z, q⟩ => ⟨by rw [<- r.length]; exact z, ?_⟩)
  have hf : H1 s1.heap.objs.size = none := I1.hok.fresh (Nat.le_refl _)
  refine ⟨.ref s1.heap.objs.size, upd H1 s1.heap.objs.size (.lst xs), I1.laid (t' := s1.toks) (fun b u e => Heap.get?_push_of_some _ e) (Nat.le_refl _) ?_, rfl, q _ hf⟩
  exact ⟨z, us, 0, r, Heap.get?_push_size _ rfl⟩
end
abbrev Sp := List V -> Hp -> VK -> XK -> Prop
abbrev CXT := List Env -> Hp -> Shared -> XK -> Value -> Shared -> Prop
structure Env0 (P : Program) (w : World) (K : PySem.W.Frag) (mg : Str -> Option Value) (base : Heap) (A : Around) (outer : List Env) (s : Shared) (H : Hp) : Prop where
  frames : A.frames = some outer
  mod : Mod K mg base
  bs : ∀ b o, base.get? b = some o -> s.heap.get? b = some o /\ H b = none
  bsz : base.objs.size <= s.heap.objs.size
  funs : s.heap.FunFrames base outer
  frf : ∀ b ∈ frs outer, H b = none
  hok : HOk P w H s.heap
  bare : AllBare s.gens
def CE (outer : List Env) (P : Program) (w : World) (H : Hp) (s : Shared) (Q : VK) (u : Value) (s' : Shared) : Prop :=
  ∃ v H', s'.os = s.os /\ AllBare s'.gens /\ Un (frs outer) [] H H' s.heap s'.heap /\ HOk P w H' s'.heap /\ RelV v u /\ Q v H'
def CR (CX : CXT) (outer : List Env) (P : Program) (w : World) (H : Hp) (s : Shared) (Q : VK) (E : XK) (r : Result) (s' : Shared) : Prop :=
  match r with
  | .ok (.ret u) => CE outer P w H s Q u s'
  | .ok _ => False
  | .error e => CX outer H s E e s'
structure FnOk (P : Program) (w : World) (K : PySem.W.Frag) (mg : Str -> Option Value) (base : Heap) (CX : CXT) (k : Nat) (f : Addr) (fd : FuncData) (ps : List Str) (sp : Sp) : Prop where
  len : ∀ vs H Q E, sp vs H Q E -> vs.length = ps.length
  run : ∀ (A : Around) (outer : List Env) (s : Shared) (H : Hp) (args : Args) (us : List Value) (vs : List V) (Q : VK) (E : XK), Room k A -> Env0 P w K mg base A outer s H -> BindsTo s fd args (ps.zip us) -> Vals vs us -> sp vs H Q E ->
    codeAny (model P w) A (.call (.ref f) args) (CR CX outer P w H s Q E) s
theorem FnOk.mono {P : Program} {w : World} {K : PySem.W.Frag} {mg : Str -> Option Value} {base : Heap} {CX : CXT} {j k : Nat} {f : Addr} {fd : FuncData} {ps : List Str} {sp : Sp} (F : FnOk P w K mg base CX j f fd ps sp) (h : j <= k) :
    FnOk P w K mg base CX k f fd ps sp := ⟨F.len, fun A outer s H args us vs Q E hr => F.run A outer s H args us vs Q E (hr.mono h)⟩
theorem FnOk.imp {P : Program} {w : World} {K : PySem.W.Frag} {mg : Str -> Option Value} {base : Heap} {CX : CXT} {k : Nat} {f : Addr} {fd : FuncData} {ps : List Str} {sp sp' : Sp} (F : FnOk P w K mg base CX k f fd ps sp)
    (h : ∀ vs H Q E, sp' vs H Q E -> sp vs H Q E) : FnOk P w K mg base CX k f fd ps sp' :=
  ⟨fun vs H Q E q => F.len vs H Q E (h _ _ _ _ q), fun A outer s H args us vs Q E hr he hb hv hs => F.run A outer s H args us vs Q E hr he hb hv (h _ _ _ _ hs)⟩
theorem Env0.make {P : Program} {w : World} {K : PySem.W.Frag} {mg : Str -> Option Value} {base : Heap} {A : Around} {outer : List Env} {s : Shared} {H : Hp} (e : Env0 P w K mg base A outer s H) (C : Addr) (us : List Value) (kw : List (Str × Value)) :
    Env0 P w K mg base (A.under (.builtin "type.__call__" ⟨.ref C :: us, kw⟩)) outer s H := ⟨by first | exact e.frames | (simpa [Around.under, Code.envs, Code.isFrame, pushEnvs] using e.frames), e.mod, e.bs, e.bsz, e.funs, e.frf, e.hok, e.bare⟩
section
variable {X : Cx} {pins : List (Addr × Obj)} {σ : St} {H : Hp} {s s' : Shared}
theorem Inv.env0 (I : Inv X pins σ H s) : Env0 X.prog X.w X.K X.mg X.base X.A X.stack s H :=
  ⟨I.ok.frames, I.ok.mod, I.bs, Nat.le_trans I.ok.bsz I.sz, I.stack, I.stkFree, I.hok, I.bare⟩
theorem Inv.after {Q : VK} {u : Value} (I : Inv X pins σ H s) (h : CE X.stack X.prog X.w H s Q u s') : EP X pins σ Q u s' := by
  obtain ⟨v, H', os, bare, un, hok, r, q⟩ := h
  obtain ⟨hh, g, d, t, os'⟩ := s'
  obtain rfl : os' = s.os := os
  exact ⟨v, H', I.call (h' := hh) (g' := g) (d' := d) (t' := t) (ch := []) un hok bare (fun b z => absurd z (by simp)), r, q⟩
end
def tCall (sp : Sp) (dvs : List V) (E : XK) (t : TA) : TE := fun σ H Q => t σ H fun vs H1 => sp (vs ++ dvs) H1 Q E
def tMeth (C : Addr) (m : Str) (sp : Sp) (dvs : List V) (E : XK) (ta : TE) (t : TA) : TE := fun σ H Q => ta σ H fun x H1 => ∃ a dx fs, x = .ref a /\ H1 a = some (.ins C dx fs) /\ fs.lookup m = none /\
  t σ H1 fun vs H2 => sp (x :: (vs ++ dvs)) H2 Q E
def tMake (C : Addr) (sp : Sp) (dvs : List V) (E : XK) (t : TA) : TE := fun σ H Q => t σ H fun vs H1 => ∀ x dx, H1 x = none -> H1 dx = none -> dx ≠ x ->
  sp (.ref x :: (vs ++ dvs)) (upd (upd H1 dx (.own x)) x (.ins C dx [])) (fun v H2 => v = .non /\ Q (.ref x) H2) E
def Binds (K : PySem.W.Frag) (fd : FuncData) (ps : List Str) (ds : List Value) : Prop :=
  ∀ (s : Shared) (us : List Value), K.In s.heap -> (us ++ ds).length = ps.length -> BindsTo s fd ⟨us, []⟩ (ps.zip (us ++ ds))
theorem Binds.all {K : PySem.W.Frag} {fd : FuncData} {ps : List Str} (h : ∀ us : List Value, us.length = ps.length -> bindArgs fd ⟨us, []⟩ = pure (ps.zip us)) : Binds K fd ps [] := fun s us _ hl => by
  rw [List.append_nil] at hl ⊢
  exact .of_eq (h us hl)
def Passes (CX : CXT) (X : Cx) (E : XK) : Prop := ∀ (pins : List (Addr × Obj)) (σ : St) (H : Hp) (s : Shared) (e : Value) (s' : Shared), Inv X pins σ H s -> CX X.stack H s E e s' -> X.xe e s'
section
variable {X : Cx} {CX : CXT} {k : Nat} {f C : Addr} {fd : FuncData} {ps : List Str} {sp : Sp} {dvs : List V} {ds : List Value} {E : XK} {x m : Str} {p pos apos : Pos} {e o : Expr} {es : List Expr} {ta : TE} {t : TA}
theorem run_fn {pins : List (Addr × Obj)} {σ : St} {H : Hp} {s : Shared} {Q : VK} {us : List Value} {vs : List V} (F : FnOk X.prog X.w X.K X.mg X.base CX k f fd ps sp) (hr : Room k X.A) (hb : Binds X.K fd ps ds) (hd : Vals dvs ds) (hx : Passes CX X E)
    (I : Inv X pins σ H s) (r : Vals vs us) (h : sp (vs ++ dvs) H Q E) : wpAny (model X.prog X.w) X.A (call (.ref f) us) (EP X pins σ Q) X.xe s := by
  have r2 : Vals (vs ++ dvs) (us ++ ds) := r.append hd
  have hl : (us ++ ds).length = ps.length := by rw [<- r2.length]; exact F.len _ _ _ _ h
  refine wpAny_call (codeAny_mono (F.run X.A X.stack s H ⟨us, []⟩ (us ++ ds) (vs ++ dvs) Q E hr I.env0 (hb s us I.kIn hl) r2 h) fun r s' hq => ?_)
  cases r with
  | error e => exact hx pins σ H s e s' I hq
  | ok fl =>
    cases fl with
    | ret u => exact I.after hq
    | next => exact False.elim hq
    | brk => exact False.elim hq
    | cont => exact False.elim hq
theorem pe_call (F : FnOk X.prog X.w X.K X.mg X.base CX k f fd ps sp) (hr : Room k X.A) (hg : Gl X x) (hm : X.mg x = some (.ref f)) (hk : keepIn X.K (.ref f) = true) (hb : Binds X.K fd ps ds) (hd : Vals dvs ds) (hx : Passes CX X E)
    (ha : PA X (e :: es) t) (hdb : (x == ("__debug__" : Str)) = false := by decide) (he : starEach (e :: es) X.env = (false, eval e X.env) :: starEach es X.env := by rfl) (hpl : (backTo pos (starEach es X.env)).any (·.1) = false := by rfl) :
    PE X (.Call (.Name x p) (e :: es) [] pos) (tCall sp dvs E t) := by
  intro pins s σ H Q I h
  refine wpAny_Call_Name_kw (ld_glob I hg hm ?_ hdb)
  refine callWith_K (h₀ := X.base) I.ok.mod.kin hk (thn (ha pos pins s σ H _ I h) fun us s1 ⟨vs, H1, I1, r, q⟩ => ⟨I1.kIn, ?_⟩) he hpl
  exact run_fn F hr hb hd hx I1 r q
theorem pe_meth {pl : Sem Bool} (he : PE X o ta) (c : Cls X.K C) (hm : Meth X.K C m f) (F : FnOk X.prog X.w X.K X.mg X.base CX k f fd ps sp) (hr : Room k X.A) (hb : Binds X.K fd ps ds) (hd : Vals dvs ds) (hx : Passes CX X E) (ha : PA X (e :: es) t)
    (hst : starEach (e :: es) X.env = (false, eval e X.env) :: starEach es X.env := by rfl) (hpl : (backTo pos (starEach es X.env)).any (·.1) = false := by rfl)
    (ht : eval (.Call (.Attribute o m apos) (e :: es) [] pos) X.env = (do
      let ov <- eval o X.env
      standAt apos.atName
      let (f, first) <- holding [ov] (getMethod ov m pl)
      callWith pos f first (backTo pos (starEach (e :: es) X.env)) (backToKw pos (keywordEach [] X.env))) := by rfl) :
    PE X (.Call (.Attribute o m apos) (e :: es) [] pos) (tMeth C m sp dvs E ta t) := by
  intro pins s σ H Q I h
  refine PySem.W.methodCall_KW (pl := pl) (thn (he pins s σ H _ I h) fun u s1 ⟨x, H1, I1, rx, a, dx, fs, ex, ea, l, q⟩ => ?_) ht
  subst ex
  obtain rfl : u = Value.ref a := rx
  refine getmeth_ok I1 ea c hm l ?_
  refine callWith_K (first := [.ref a]) (h₀ := X.base) I.ok.mod.kin hm.kp (thn (ha pos pins s1 σ H1 _ I1 q) fun us s2 ⟨vs, H2, I2, r, q2⟩ => ⟨I2.kIn, ?_⟩) hst hpl
  exact run_fn (us := .ref a :: us) (vs := .ref a :: vs) F hr hb hd hx I2 (.cons rfl r) q2
theorem pe_meth0 {pl : Sem Bool} (he : PE X o ta) (c : Cls X.K C) (hm : Meth X.K C m f) (F : FnOk X.prog X.w X.K X.mg X.base CX k f fd ps sp) (hr : Room k X.A) (hb : Binds X.K fd ps ds) (hd : Vals dvs ds) (hx : Passes CX X E)
    (ht : eval (.Call (.Attribute o m apos) [] [] pos) X.env = (do
      let ov <- eval o X.env
      standAt apos.atName
      let (f, first) <- holding [ov] (getMethod ov m pl)
      callWith pos f first (backTo pos (starEach [] X.env)) (backToKw pos (keywordEach [] X.env))) := by rfl) :
    PE X (.Call (.Attribute o m apos) [] [] pos) (tMeth C m sp dvs E ta tNil) := by
  intro pins s σ H Q I h
  refine PySem.W.methodCall_KW (pl := pl) (thn (he pins s σ H _ I h) fun u s1 ⟨x, H1, I1, rx, a, dx, fs, ex, ea, l, q⟩ => ?_) ht
  subst ex
  obtain rfl : u = Value.ref a := rx
  refine getmeth_ok I1 ea c hm l ?_
  exact PySem.W.callWith_K0 (first := [.ref a]) I1.kIn hm.kp (run_fn (us := [.ref a]) (vs := [.ref a]) F hr hb hd hx I1 (.cons rfl .nil) q)
structure Mk (K : PySem.W.Frag) (C f : Addr) : Prop where
  makes : makesIn K C = true
  init : findIn K (.ref C) "__init__" = some (some (.ref f))
  fn : isFn K (.ref f) = true
  kp : keepIn K (.ref C) = true
theorem run_make {pins : List (Addr × Obj)} {σ : St} {H : Hp} {s : Shared} {Q : VK} {us : List Value} {vs : List V} (M : Mk X.K C f) (F : FnOk X.prog X.w X.K X.mg X.base CX k f fd ps sp) (hr : Room (k + 1) X.A) (hb : Binds X.K fd ps ds) (hd : Vals dvs ds)
    (hx : Passes CX X E) (I : Inv X pins σ H s) (r : Vals vs us)
    (h : ∀ x dx, H x = none -> H dx = none -> dx ≠ x -> sp (.ref x :: (vs ++ dvs)) (upd (upd H dx (.own x)) x (.ins C dx [])) (fun v H2 => v = .non /\ Q (.ref x) H2) E) :
    wpAny (model X.prog X.w) X.A (call (.ref C) us) (EP X pins σ Q) X.xe s := by
  have hq := h (s.heap.objs.size + 1) s.heap.objs.size (I.hok.fresh (Nat.le_succ _)) (I.hok.fresh (Nat.le_refl _)) (Nat.ne_of_lt (Nat.lt_succ_self _))
  have I2 := Inv.made (C := C) I
  have r2 : Vals (V.ref (s.heap.objs.size + 1) :: (vs ++ dvs)) (Value.ref (s.heap.objs.size + 1) :: (us ++ ds)) := .cons rfl (r.append hd)
  have hl : (Value.ref (s.heap.objs.size + 1) :: us ++ ds).length = ps.length := by
    have e := r2.length
    rw [F.len _ _ _ _ hq] at e
    exact e.symm
  refine wpAny_call (make_map (f := f) I.kIn M.makes M.init (beq_iff_eq.mp M.fn) (codeAny_mono (F.run _ X.stack _ _ ⟨Value.ref (s.heap.objs.size + 1) :: us, []⟩ (Value.ref (s.heap.objs.size + 1) :: (us ++ ds)) _ _ E (hr.make C us [])
    (I2.env0.make C us []) (hb _ (Value.ref (s.heap.objs.size + 1) :: us) I2.kIn hl) r2 hq) fun r s' hq' => ?_))
  cases r with
  | error e => exact hx pins σ _ _ e s' I2 hq'
  | ok fl =>
    cases fl with
    | ret u =>
      obtain ⟨v, H', I3, rv, ev, q3⟩ := I2.after hq'
      subst ev
      exact ⟨rv, ⟨V.ref (s.heap.objs.size + 1), H', I3, rfl, q3⟩⟩
    | next => exact False.elim hq'
    | brk => exact False.elim hq'
    | cont => exact False.elim hq'
theorem pe_make (M : Mk X.K C f) (F : FnOk X.prog X.w X.K X.mg X.base CX k f fd ps sp) (hr : Room (k + 1) X.A) (hg : Gl X x) (hm : X.mg x = some (.ref C)) (hb : Binds X.K fd ps ds) (hd : Vals dvs ds) (hx : Passes CX X E)
    (ha : PA X (e :: es) t) (hdb : (x == ("__debug__" : Str)) = false := by decide) (he : starEach (e :: es) X.env = (false, eval e X.env) :: starEach es X.env := by rfl) (hpl : (backTo pos (starEach es X.env)).any (·.1) = false := by rfl) :
    PE X (.Call (.Name x p) (e :: es) [] pos) (tMake C sp dvs E t) := by
  intro pins s σ H Q I h
  refine wpAny_Call_Name_kw (ld_glob I hg hm ?_ hdb)
  refine callWith_K (h₀ := X.base) I.ok.mod.kin M.kp (thn (ha pos pins s σ H _ I h) fun us s1 ⟨vs, H1, I1, r, q⟩ => ⟨I1.kIn, ?_⟩) he hpl
  exact run_make M F hr hb hd hx I1 r q
end
section
variable {X : Cx} {CX : CXT} {k : Nat} {f C : Addr} {fd : FuncData} {ps ks : List Str} {sp : Sp} {E : XK} {x m : Str} {p pos apos kpos : Pos} {e o : Expr} {es : List Expr} {kws : List Keyword} {te ta : TE} {t tk : TA} {nm : Option Str}
structure KBinds (K : PySem.W.Frag) (fd : FuncData) (ps ks : List Str) (g : List Value -> List Value -> List Value) (gV : List V -> List V -> List V) : Prop where
  to : ∀ (s : Shared) (us ws : List Value), K.In s.heap -> (g us ws).length = ps.length -> BindsTo s fd ⟨us, ks.zip ws⟩ (ps.zip (g us ws))
  rel : ∀ {vs : List V} {us : List Value} {zs : List V} {ws : List Value}, Vals vs us -> Vals zs ws -> Vals (gV vs zs) (g us ws)
variable {g : List Value -> List Value -> List Value} {gV : List V -> List V -> List V}
end
structure FnScope (N P : List Str) (sc : Scope) : Prop where
  kind : sc.kind = .function
  co : sc.isCoroutine = false
  gen : sc.isGenerator = false
  nd : N.Nodup
  pre : N.take P.length = P
  par : ∀ x ∈ P, sc.names.lookup x = some .local \/ sc.names.lookup x = some .cell
  nofree : ∀ y ∈ sc.names, y.2 ≠ .free
theorem bindL_out {kindOf : Str -> Option NameKind} {x : Str} : ∀ {binds : List (Str × Value)} {m : Str -> Option Value}, (∀ v, (x, v) ∉ binds) -> bindL kindOf binds m x = m x
  | [], _, _ => rfl
  | (n, v) :: r, m, h => by
    unfold bindL
    rw [bindL_out fun w hw => h w (List.mem_cons_of_mem _ hw)]
    split
    · have : x ≠ n := by rintro rfl; exact h v List.mem_cons_self
      simp [this]
    · rfl
theorem bindC_out {kindOf : Str -> Option NameKind} {x : Str} : ∀ {binds : List (Str × Value)} {m : Str -> Option Value}, (∀ v, (x, v) ∉ binds) -> bindC kindOf binds m x = m x
  | [], _, _ => rfl
  | (n, v) :: r, m, h => by
    unfold bindC
    rw [bindC_out fun w hw => h w (List.mem_cons_of_mem _ hw)]
    split
    · rfl
    · have : x ≠ n := by rintro rfl; exact h v List.mem_cons_self
      simp [this]
theorem bindL_get {kindOf : Str -> Option NameKind} {x : Str} {v : Value} : ∀ {P : List Str} {vs : List Value} {i : Nat} {m : Str -> Option Value}, P.Nodup -> P[i]? = some x -> vs[i]? = some v -> kindOf x = some .local ->
    bindL kindOf (P.zip vs) m x = some v
  | [], _, _, _, _, h, _, _ => by simp at h
  | _ :: _, [], _, _, _, _, h, _ => by simp at h
  | p :: P, w :: vs, 0, m, nd, h1, h2, hk => by
    simp at h1 h2; subst h1; subst h2
    show bindL kindOf ((p, w) :: P.zip vs) m p = _
    unfold bindL
    rw [bindL_out fun v hv => (List.nodup_cons.mp nd).1 (List.of_mem_zip hv).1, if_pos hk]
    simp
  | p :: P, w :: vs, i + 1, m, nd, h1, h2, hk => by
    show bindL kindOf ((p, w) :: P.zip vs) m x = _
    unfold bindL
    exact bindL_get (i := i) (List.nodup_cons.mp nd).2 (by simpa using h1) (by simpa using h2) hk
theorem bindC_get {kindOf : Str -> Option NameKind} {x : Str} {v : Value} : ∀ {P : List Str} {vs : List Value} {i : Nat} {m : Str -> Option Value}, P.Nodup -> P[i]? = some x -> vs[i]? = some v -> kindOf x ≠ some .local ->
    bindC kindOf (P.zip vs) m x = some v
  | [], _, _, _, _, h, _, _ => by simp at h
  | _ :: _, [], _, _, _, _, h, _ => by simp at h
  | p :: P, w :: vs, 0, m, nd, h1, h2, hk => by
    simp at h1 h2; subst h1; subst h2
    show bindC kindOf ((p, w) :: P.zip vs) m p = _
    unfold bindC
    rw [bindC_out fun v hv => (List.nodup_cons.mp nd).1 (List.of_mem_zip hv).1, if_neg hk]
    simp
  | p :: P, w :: vs, i + 1, m, nd, h1, h2, hk => by
    show bindC kindOf ((p, w) :: P.zip vs) m x = _
    unfold bindC
    exact bindC_get (i := i) (List.nodup_cons.mp nd).2 (by simpa using h1) (by simpa using h2) hk
def start (N : List Str) (vs : List V) : St := vs.map some ++ List.replicate (N.length - vs.length) none
def cxOf (CX : CXT) (P : Program) (w : World) (K : PySem.W.Frag) (mg : Str -> Option Value) (base : Heap) (N : List Str) (qual : Str) (scope : Scope) (f : Addr) (cd : Value) (A : Around) (outer : List Env) (s : Shared) (H : Hp) (E : XK) : Cx where
  prog := P
  w := w
  K := K
  mg := mg
  base := base
  A := A.deeper (envOfC qual scope s.heap.objs.size f cd)
  N := N
  s₀ := s
  H₀ := H
  env := envOfC qual scope s.heap.objs.size f cd
  outer := outer
  stack := envOfC qual scope s.heap.objs.size f cd :: outer
  ex := []
  calm := true
  fn := fun _ => true
  pn := []
  xe := fun e s' => wpAny (model P w) (A.deeper (envOfC qual scope s.heap.objs.size f cd)) (leaving (envOfC qual scope s.heap.objs.size f cd) e) (fun _ s'' => CX outer H s E e s'') (fun e' s'' => CX outer H s E e' s'') s'
theorem cell_has {sc : Scope} {n : Nat} {x : Str} (h : sc.names.lookup x = some .cell) : ∃ c, (cellsFrom n sc.names []).lookup x = some c := by
  have q := cellsFrom_some sc.names n [] (.inl h)
  exact Option.isSome_iff_exists.mp q
theorem inv_start {CX : CXT} {P : Program} {w : World} {K : PySem.W.Frag} {mg : Str -> Option Value} {base : Heap} {N ps : List Str} {qual : Str} {scope : Scope} {f : Addr} {cd : Value} {A : Around} {outer : List Env} {s s1 : Shared} {H : Hp} {E : XK} {us : List Value} {vs : List V}
    (S : FnScope N ps scope) (hd : A.handled = none) (e0 : Env0 P w K mg base A outer s H) (hl : vs.length = ps.length) (r : Vals vs us)
    (x : InCallC s s.heap.objs.size (bindL (envOfC qual scope s.heap.objs.size f cd).kindOf (ps.zip us) fun _ => none) (cellsFrom (s.heap.objs.size + 1) scope.names []) (bindC (envOfC qual scope s.heap.objs.size f cd).kindOf (ps.zip us) fun _ => none) s1) :
    Inv (cxOf CX P w K mg base N qual scope f cd A outer s H E) [] (start N vs) H s1 := by
  have hpl : ps.length <= N.length := by have := congrArg List.length S.pre; rw [List.length_take] at this; omega
  obtain ⟨h1, tk, rfl, hk⟩ := x.done
  have noA : ∀ b : Addr, b ∉ (cxOf CX P w K mg base N qual scope f cd A outer s H E).ex := fun b z => absurd (show b ∈ ([] : List Addr) from z) (by simp)
  refine ⟨⟨e0.mod, S.kind, rfl, rfl, Nat.le_refl _, fun y z c h1 h2 => ?_, fun y hy => ?_, fun y c _ h => ?_, fun _ => hd, Around.frames_deeper e0.frames, .inr ⟨rfl, rfl⟩, fun b z => absurd z (noA b), e0.bs, e0.bsz, fun b _ _ => noA b, fun b z => absurd z (noA b), e0.funs, e0.frf⟩,
    rfl, e0.bare, Un.kept hk, ⟨_, x.toInCall.ns, fun i y v h1 h2 h3 => ?_⟩, fun y c h => ⟨_, x.cell y c h⟩, e0.hok.fresh (Nat.le_refl _), fun y c h => ?_, fun p hp => absurd (show p ∈ ([] : List (Addr × Obj)) from hp) (by simp), e0.hok.kept hk, ?_⟩
  · exact name_of_addr x.apart (PySem.mem_of_lookup h1) (PySem.mem_of_lookup h2)
  · have hy : scope.names.lookup y = some .cell \/ scope.names.lookup y = some .free := hy
    rcases hy with hy | hy
    · exact cell_has hy
    · exact absurd rfl (S.nofree _ (PySem.mem_of_lookup hy))
  · exact Nat.le_of_lt (x.above y c (PySem.mem_of_lookup h))
  · have hi : i < vs.length := by
      unfold start at h2
      by_cases hi : i < vs.length
      · exact hi
      · rw [List.getElem?_append_right (by simpa using hi)] at h2
        rw [List.getElem?_replicate] at h2
        split at h2 <;> cases h2
    have ha : vs[i]? = some v := by
      unfold start at h2
      rw [List.getElem?_append_left (by simpa using hi), List.getElem?_map] at h2
      cases e : vs[i]? with
      | none => rw [e] at h2; cases h2
      | some a => rw [e] at h2; cases h2; rfl
    obtain ⟨u, hu, rv⟩ := r.get ha
    have hp : ps[i]? = some y := by
      rw [<- S.pre, List.getElem?_take_of_lt (by omega)]; exact h1
    have ndP : ps.Nodup := by rw [<- S.pre]; exact S.nd.sublist (List.take_sublist _ _)
    refine ⟨u, rv, ?_⟩
    rcases S.par y (List.mem_of_getElem? hp) with k | k
    · exact .inl ⟨k, bindL_get ndP hp hu k⟩
    · obtain ⟨c, e⟩ := cell_has (n := s.heap.objs.size + 1) k
      refine .inr ⟨.inl k, c, e, ?_⟩
      have q := x.cell y c e
      rw [bindC_get ndP hp hu (by show scope.names.lookup y ≠ _; rw [k]; decide)] at q
      exact q
  · exact e0.hok.fresh (Nat.le_of_lt (x.above y c (PySem.mem_of_lookup h)))
  · unfold start
    show _ = N.length
    rw [List.length_append, List.length_map, List.length_replicate]
    omega
theorem fn_of {CX : CXT} {P : Program} {w : World} {K : PySem.W.Frag} {mg : Str -> Option Value} {base : Heap} {k : Nat} {f : Addr} {name qual : Str} {params : Arguments} {body : List Stmt} {scope : Scope} {dV kV doc pm cdv ct oc : Value} {an od : Option Addr}
    {osl : Array (Option Value)} {N ps : List Str} {sp : Sp} (lk : K.lookup f = some ⟨oc, od, .func (fnOf name qual params body scope dV kV doc pm an cdv ct), osl⟩) (hcd : codeIn K cdv qual = true) (S : FnScope N ps scope)
    (len : ∀ vs H Q E, sp vs H Q E -> vs.length = ps.length)
    (hbody : ∀ (A : Around) (outer : List Env) (s : Shared) (H : Hp) (vs : List V) (Q : VK) (E : XK), Room k (A.deeper (envOfC qual scope s.heap.objs.size f cdv)) -> sp vs H Q E ->
      ∃ t, PSs (cxOf CX P w K mg base N qual scope f cdv A outer s H E) body t /\ t { nx := fun _ H' => Q .non H', rt := Q } (start N vs) H) :
    FnOk P w K mg base CX (k + 1) f (fnOf name qual params body scope dV kV doc pm an cdv ct) ps sp := by
  refine ⟨len, fun A outer s H args us vs Q E hr e0 hb r hsp => ?_⟩
  have hl := len _ _ _ _ hsp
  have KX : K.In s.heap := e0.mod.kin.keeps fun b o e => (e0.bs b o e).1
  have lim : s.heap.NoLimit := e0.mod.nolimit.keeps fun b o e => (e0.bs b o e).1
  have hkind : ∀ y ∈ ps.zip us, scope.names.lookup y.1 = some .local \/ (scope.names.lookup y.1 = some .cell /\ ((cellsFrom (s.heap.objs.size + 1) scope.names []).lookup y.1).isSome = true) := fun ⟨n, v⟩ hy => by
    rcases S.par n (List.of_mem_zip hy).1 with q | q
    · exact .inl q
    · exact .inr ⟨q, cellsFrom_some _ _ _ (.inl q)⟩
  refine codeAny_call_function hr.depth (KX _ _ lk) rfl S.co S.gen rfl (PySem.W.codeRec_of KX hcd) (hb _ _ _ _ ?_)
  refine wpAny_newFunctionEnv_cells S.kind hkind fun env he s1 x => ?_
  subst he
  refine ⟨lim.keeps x.toInCall.keep, codeAny_func ?_⟩
  obtain ⟨t, ht, hq⟩ := hbody A outer s H vs Q E (hr.deeper _) hsp
  have I : Inv (cxOf CX P w K mg base N qual scope f cdv A outer s H E) [] (start N vs) H s1 := inv_start S hr.hd e0 hl r x
  refine wpAny_mono (ht [] s1 (start N vs) H _ I hq) (fun fl s' hs => ?_) fun e s' hs => hs
  have fin : ∀ {σ' : St} {H' : Hp} {v : V} {u : Value}, Inv (cxOf CX P w K mg base N qual scope f cdv A outer s H E) [] σ' H' s' -> RelV v u -> Q v H' -> CE outer P w H s Q u s' :=
    fun {σ' H' v u} J rv q => ⟨v, H', J.os, J.bare, J.base, J.hok, rv, q⟩
  cases fl with
  | ret u =>
    obtain ⟨v, σ', H', J, rv, q⟩ := hs
    exact fin J rv q
  | next =>
    obtain ⟨σ', H', J, q⟩ := hs
    exact fin (v := V.non) (u := Value.none) J rfl q
  | brk =>
    obtain ⟨_, _, _, q⟩ := hs
    exact False.elim q
  | cont =>
    obtain ⟨_, _, _, q⟩ := hs
    exact False.elim q
end L2
namespace L2
open PySem PySem.Spec PyProof.Rows
section
variable {X : Cx} {x : Str} {p pos : Pos} {e : Expr} {es : List Expr} {t : TA} {id T : String} {r : List V -> Hp -> VK -> Prop}
def tCB (r : List V -> Hp -> VK -> Prop) (t : TA) : TE := fun σ H Q => t σ H fun vs H1 => r vs H1 Q
theorem yC (hc : CallR X (.builtin id) r) (hg : Gl X x) (hm : X.mg x = none) (hv : bootBuiltins x = some (.builtin id)) (ha : PA X (e :: es) t) (hn : x ≠ "__name__" := by decide) (hdb : (x == ("__debug__" : Str)) = false := by decide)
    (he : starEach (e :: es) X.env = (false, eval e X.env) :: starEach es X.env := by rfl) (hpl : (backTo pos (starEach es X.env)).any (·.1) = false := by rfl) : PE X (.Call (.Name x p) (e :: es) [] pos) (tCB r t) := by
  intro pins s σ H Q I h
  refine wpAny_Call_Name_kw (ld_blt I hg hm hv ?_ hn hdb)
  exact PyProof.Rows.callWith_builtin1 (thn (ha pos pins s σ H _ I h) fun us s1 ⟨vs, H1, I1, r1, q1⟩ => hc pins s1 σ H1 vs us Q I1 r1 q1) he hpl
theorem wK (hc : CallR X (.type T) r) (hg : Gl X x) (hm : X.mg x = none) (hv : bootBuiltins x = some (.type T)) (ha : PA X (e :: es) t) (hn : x ≠ "__name__" := by decide) (hdb : (x == ("__debug__" : Str)) = false := by decide)
    (he : starEach (e :: es) X.env = (false, eval e X.env) :: starEach es X.env := by rfl) (hpl : (backTo pos (starEach es X.env)).any (·.1) = false := by rfl) : PE X (.Call (.Name x p) (e :: es) [] pos) (tCB r t) := by
  intro pins s σ H Q I h
  refine wpAny_Call_Name_kw (ld_blt I hg hm hv ?_ hn hdb)
  exact PyProof.Rows.callWith_type1 (thn (ha pos pins s σ H _ I h) fun us s1 ⟨vs, H1, I1, r1, q1⟩ => hc pins s1 σ H1 vs us Q I1 r1 q1) he hpl
end
end L2
namespace L2
open PySem PySem.Spec PyProof.Rows
section
variable {κ : Type} [DecidableEq κ]
def valV (kvs : List (κ × V)) (k : κ) : Option V := (kvs.find? fun kv => decide (kv.1 = k)).map (·.2)
def putK (kvs : List (κ × V)) (k : κ) (v : V) : List (κ × V) :=
  if (kvs.any fun kv => decide (kv.1 = k)) = true then kvs.map (fun kv => if kv.1 = k then (kv.1, v) else kv) else kvs ++ [(k, v)]
theorem valV_pos {p : κ × V} {r : List (κ × V)} {k : κ} (e : p.1 = k) : valV (p :: r) k = some p.2 := by simp [valV, List.find?_cons, e]
theorem valV_neg {p : κ × V} {r : List (κ × V)} {k : κ} (e : ¬ p.1 = k) : valV (p :: r) k = valV r k := by simp [valV, List.find?_cons, e]
theorem valV_any (k : κ) : ∀ kvs : List (κ × V), (kvs.any fun kv => decide (kv.1 = k)) = (valV kvs k).isSome
  | [] => rfl
  | p :: r => by
    rw [List.any_cons]
    by_cases e : p.1 = k
    · simp only [valV_pos e, decide_eq_true e, Bool.true_or, Option.isSome_some]
    · rw [valV_neg e, decide_eq_false e, Bool.false_or]; exact valV_any k r
theorem uY (kvs : List (κ × V)) (k : κ) (v : V) : (putK kvs k v).length <= kvs.length + 1 := by
  unfold putK
  split
  · rw [List.length_map]; omega
  · rw [List.length_append, List.length_cons, List.length_nil]; omega
theorem RelO.isSome_eq {o : Option V} {u : Option Value} (r : RelO o u) : o.isSome = u.isSome := by
  cases o with
  | none => cases u with
    | none => rfl
    | some _ => exact (show False from r).elim
  | some _ => cases u with
    | none => exact (show False from r).elim
    | some _ => rfl
theorem RelO.getD {o : Option V} {u : Option Value} {d : V} {d' : Value} (r : RelO o u) (rd : RelV d d') : RelV (o.getD d) (u.getD d') := by
  cases o with
  | none => cases u with
    | none => exact rd
    | some _ => exact (show False from r).elim
  | some _ => cases u with
    | none => exact (show False from r).elim
    | some _ => exact r
theorem KV.val {kvs : List (κ × V)} {vs : List (κ × Value)} (r : KV kvs vs) (k : κ) : RelO (valV kvs k) (valueAt vs k) := by
  unfold KV at r
  induction r with
  | nil => exact True.intro
  | @cons p q ps qs h t ih =>
    obtain ⟨h1, h2⟩ := h
    by_cases e : p.1 = k
    · have e' : q.1 = k := h1.symm.trans e
      have b : valueAt (q :: qs) k = some q.2 := by simp [valueAt, List.find?_cons, e']
      rw [valV_pos e, b]; exact h2
    · have e' : ¬ q.1 = k := fun z => e (h1.trans z)
      have b : valueAt (q :: qs) k = valueAt qs k := by simp [valueAt, List.find?_cons, e']
      rw [valV_neg e, b]; exact ih
theorem KV.any {kvs : List (κ × V)} {vs : List (κ × Value)} (r : KV kvs vs) (k : κ) : (kvs.any fun kv => decide (kv.1 = k)) = vs.any fun kv => decide (kv.1 = k) := by
  unfold KV at r
  induction r with
  | nil => rfl
  | cons h t ih => rw [List.any_cons, List.any_cons, ih, h.1]
theorem KV.repl {kvs : List (κ × V)} {vs : List (κ × Value)} (r : KV kvs vs) (k : κ) {y : V} {u : Value} (ry : RelV y u) :
    KV (kvs.map fun kv => if kv.1 = k then (kv.1, y) else kv) (vs.map fun kv => if kv.1 = k then (kv.1, u) else kv) := by
  unfold KV at r ⊢
  induction r with
  | nil => exact .nil
  | @cons p q ps qs h t ih =>
    rw [List.map_cons, List.map_cons]
    refine .cons ?_ ih
    obtain ⟨h1, h2⟩ := h
    by_cases e : p.1 = k
    · rw [if_pos e, if_pos (h1.symm.trans e)]; exact ⟨h1, ry⟩
    · rw [if_neg e, if_neg (fun z => e (h1.trans z))]; exact ⟨h1, h2⟩
theorem KV.put {kvs : List (κ × V)} {vs : List (κ × Value)} (r : KV kvs vs) (k : κ) {y : V} {u : Value} (ry : RelV y u) : KV (putK kvs k y) (stored vs k u) := by
  unfold putK stored
  rw [r.any k]
  by_cases e : (vs.any fun kv => decide (kv.1 = k)) = true
  · rw [if_pos e, if_pos e]; exact r.repl k ry
  · rw [if_neg e, if_neg e]; exact Paired.snoc r ⟨rfl, ry⟩
theorem KV.length {kvs : List (κ × V)} {vs : List (κ × Value)} (r : KV kvs vs) : kvs.length = vs.length := Paired.length r
end
theorem kV_is {P : Program} {w : World} {k : Key} {u : Value} (r : RelV (kV k) u) : (mixKind P w).is k u = true := by
  cases k with
  | inl i => obtain ⟨t, e⟩ := (show ∃ t, u = Value.int i t from r); subst e; exact mixKind_int P w i t
  | inr x => obtain ⟨t, e⟩ := (show ∃ t, u = Value.str x t from r); subst e; exact mixKind_str P w x t
theorem items_are {P : Program} {w : World} : ∀ {ks : List Key} {us : List Value}, Vals (ks.map kV) us -> ItemsAre (mixKind P w) ks us
  | [], _, r => by rw [List.map_nil] at r; cases r; exact .nil
  | k :: ks, _, r => by
    rw [List.map_cons] at r
    cases r with
    | cons h t => exact .cons (kV_is h) (items_are t)
abbrev KT (H : Hp) : List (List Key × V) -> List (List Key × Addr × Value) -> Prop := Paired fun p q => p.1 = q.1 /\ H q.2.1 = some (.tup (p.1.map kV)) /\ RelV p.2 q.2.2
theorem KT.val {H : Hp} {kvs : List (List Key × V)} {xs : List (List Key × Addr × Value)} (r : KT H kvs xs) (k : List Key) : RelO (valV kvs k) ((atKey xs k).map (·.2)) := by
  induction r with
  | nil => exact True.intro
  | @cons p q ps qs h t ih =>
    obtain ⟨h1, _, h2⟩ := h
    by_cases e : p.1 = k
    · have e' : q.1 = k := h1.symm.trans e
      have b : atKey (q :: qs) k = some q.2 := by simp [atKey, List.find?_cons, e']
      rw [valV_pos e, b]; exact h2
    · have e' : ¬ q.1 = k := fun z => e (h1.trans z)
      have b : atKey (q :: qs) k = atKey qs k := by simp [atKey, List.find?_cons, e']
      rw [valV_neg e, b]; exact ih
theorem KT.repl {H : Hp} {kvs : List (List Key × V)} {xs : List (List Key × Addr × Value)} (r : KT H kvs xs) (k : List Key) {y : V} {u : Value} (ry : RelV y u) :
    KT H (kvs.map fun kv => if kv.1 = k then (kv.1, y) else kv) (xs.map (putAt k u)) := by
  induction r with
  | nil => exact .nil
  | @cons p q ps qs h t ih =>
    rw [List.map_cons, List.map_cons]
    refine .cons ?_ ih
    obtain ⟨h1, h2, h3⟩ := h
    unfold putAt
    by_cases e : p.1 = k
    · rw [if_pos e, if_pos (h1.symm.trans e)]; exact ⟨h1, h2, ry⟩
    · rw [if_neg e, if_neg (fun z => e (h1.trans z))]; exact ⟨h1, h2, h3⟩
theorem KT.put {H : Hp} {kvs : List (List Key × V)} {xs : List (List Key × Addr × Value)} (r : KT H kvs xs) (k : List Key) {b : Addr} {y : V} {u : Value} (hb : H b = some (.tup (k.map kV))) (ry : RelV y u) :
    KT H (putK kvs k y) (storedH xs k b u) := by
  have e : (kvs.any fun kv => decide (kv.1 = k)) = (atKey xs k).isSome := by
    rw [valV_any, (r.val k).isSome_eq, Option.isSome_map]
  unfold putK storedH
  rw [e]
  by_cases q : (atKey xs k).isSome = true
  · rw [if_pos q, if_pos q]; exact r.repl k ry
  · rw [if_neg q, if_neg q]; exact Paired.snoc r ⟨rfl, hb, ry⟩
theorem KT.keeps {H H' : Hp} {kvs : List (List Key × V)} {xs : List (List Key × Addr × Value)} (r : KT H kvs xs) (ht : ∀ b ys, H b = some (.tup ys) -> H' b = some (.tup ys)) : KT H' kvs xs :=
  Paired.mapP r fun _ _ z => ⟨z.1, ht _ _ z.2.1, z.2.2⟩
section
variable {P : Program} {w : World} {H : Hp} {h : Heap} {a : Addr}
theorem rd_of {u : HO} (ok : HOk P w H h) (e : Rd H a u) : ObjOk P w H h a u := e.ok ok
theorem dk_rd {kvs : List (Key × V)} (ok : HOk P w H h) (e : Rd H a (.dK kvs)) : kvs.length <= sizeLine /\ (a == sysModules) = false /\ ∃ vs, KV kvs vs /\ h.DictOf (mixKind P w) a vs :=
  show ObjOk P w H h a (.dK kvs) from rd_of ok e
theorem dk_of {kvs : List (Key × V)} (ok : HOk P w H h) (e : H a = some (.dK kvs)) : kvs.length <= sizeLine /\ (a == sysModules) = false /\ ∃ vs, KV kvs vs /\ h.DictOf (mixKind P w) a vs := dk_rd ok (.inl e)
theorem key_of {ks : List Key} (ok : HOk P w H h) (e : H a = some (.tup (ks.map kV))) : (tupleKind (mixKind P w)).is h ks a := by
  obtain ⟨_, its, r, o, h1, h2, n, h3⟩ := (show ObjOk P w H h a (.tup (ks.map kV)) from ok a _ e)
  exact ⟨o, its.toArray, n, h1, h2, h3, by simpa using items_are r⟩
theorem dt_rd {kvs : List (List Key × V)} (ok : HOk P w H h) (e : Rd H a (.dT kvs)) : kvs.length <= sizeLine /\ (a == sysModules) = false /\
    ∃ xs, KT H kvs xs /\ h.DictOfH (tupleKind (mixKind P w)) a xs := by
  obtain ⟨z, y, xs, r, o, es, ep, h1, h2, h3, h4, h5⟩ := (show ObjOk P w H h a (.dT kvs) from rd_of ok e)
  refine ⟨z, y, xs, r, o, es, ep, h1, h2, h3, h4, fun x hx => ?_, h5⟩
  have all : ∀ {l : List (List Key × V)} {m : List (List Key × Addr × Value)}, KT H l m -> ∀ x ∈ m, (tupleKind (mixKind P w)).is h x.1 x.2.1 := by
    intro l m q
    induction q with
    | nil => intro x hx; exact nomatch hx
    | @cons p q ps qs hq t ih =>
      intro x hx
      rcases List.mem_cons.mp hx with e | hx
      · subst e
        exact key_of ok (by rw [<- hq.1]; exact hq.2.1)
      · exact ih x hx
  exact all r x hx
theorem dt_of {kvs : List (List Key × V)} (ok : HOk P w H h) (e : H a = some (.dT kvs)) : kvs.length <= sizeLine /\ (a == sysModules) = false /\
    ∃ xs, KT H kvs xs /\ h.DictOfH (tupleKind (mixKind P w)) a xs := dt_rd ok (.inl e)
end
def DGet (H : Hp) (a : Addr) (y : V) (r : Option V) : Prop :=
  (∃ kvs k, Rd H a (.dK kvs) /\ y = kV k /\ r = valV kvs k) \/ ∃ kvs k b, Rd H a (.dT kvs) /\ y = .ref b /\ H b = some (.tup (k.map kV)) /\ r = valV kvs k
def DPut (H : Hp) (a : Addr) (y v : V) (H' : Hp) : Prop :=
  (∃ kvs k, H a = some (.dK kvs) /\ y = kV k /\ kvs.length < sizeLine /\ H' = upd H a (.dK (putK kvs k v))) \/
  ∃ kvs k b, H a = some (.dT kvs) /\ y = .ref b /\ H b = some (.tup (k.map kV)) /\ kvs.length < sizeLine /\ H' = upd H a (.dT (putK kvs k v))
theorem DGet.k {H : Hp} {a : Addr} {kvs : List (Key × V)} {k : Key} (e : H a = some (.dK kvs)) : DGet H a (kV k) (valV kvs k) := .inl ⟨kvs, k, .inl e, rfl, rfl⟩
theorem DPut.k {H : Hp} {a : Addr} {kvs : List (Key × V)} {k : Key} {v : V} (e : H a = some (.dK kvs)) (hl : kvs.length < sizeLine) : DPut H a (kV k) v (upd H a (.dK (putK kvs k v))) := .inl ⟨kvs, k, e, rfl, hl, rfl⟩
section
variable {X : Cx} {pins : List (Addr × Obj)} {σ : St} {H : Hp} {s : Shared} {a : Addr} {y v : V} {u r : Value} {o : Option V} {A : Around} {E : Value -> Shared -> Prop}
theorem Inv.big (I : Inv X pins σ H s) : sysModules < s.heap.objs.size := by
  have h : mainGlobals < s.heap.objs.size := (I.mod.glob.keeps I.bk).lt
  exact Nat.lt_trans (by decide) h
theorem d_getItem {Q : Value -> Shared -> Prop} (hu : A.units + 1 < cLine) (I : Inv X pins σ H s) (g : DGet H a y (some v)) (ry : RelV y u) (h : ∀ w' s', Inv X pins σ H s' -> RelV v w' -> Q w' s') :
    wpAny (model X.prog X.w) A (getItem (.ref a) u) Q E s := by
  rcases g with ⟨kvs, k, e, ey, l⟩ | ⟨kvs, k, b, e, ey, eb, l⟩
  · subst ey
    obtain ⟨z, hd, vs, rel, dd⟩ := dk_rd I.hok e
    obtain ⟨w', hw, rw'⟩ := RelO.some_of (v := v) (o := valueAt vs k) (by rw [l]; exact rel.val k)
    exact wpAny_getItem_of (kV_is ry) dd.mapOf hw (h w' _ (I.tok _) rw')
  · subst ey
    cases (show u = Value.ref b from ry)
    obtain ⟨z, hd, xs, rel, dd⟩ := dt_rd I.hok e
    obtain ⟨w', hw, rw'⟩ := RelO.some_of (v := v) (o := (atKey xs k).map (·.2)) (by rw [l]; exact rel.val k)
    obtain ⟨p, hp, hp2⟩ := Option.map_eq_some_iff.mp hw
    refine wpAny_getItem_heap (tupleKind_room_in1 hu) (key_of I.hok eb) dd hp ?_
    rw [hp2]
    exact h w' _ (I.tok _) rw'
theorem d_in {Q : Value -> Shared -> Prop} (hu : A.units + 1 < cLine) (I : Inv X pins σ H s) (g : DGet H a y o) (ry : RelV y u) (h : ∀ s', Inv X pins σ H s' -> Q (.bool o.isSome) s') :
    wpAny (model X.prog X.w) A (compareOp .In u (.ref a)) Q E s := by
  rcases g with ⟨kvs, k, e, ey, l⟩ | ⟨kvs, k, b, e, ey, eb, l⟩
  · subst ey
    obtain ⟨z, hd, vs, rel, dd⟩ := dk_rd I.hok e
    refine wpAny_in_of (kV_is ry) hd dd.mapOf ?_
    rw [<- (rel.val k).isSome_eq, <- l]
    exact h _ (I.tok _)
  · subst ey
    cases (show u = Value.ref b from ry)
    obtain ⟨z, hd, xs, rel, dd⟩ := dt_rd I.hok e
    refine wpAny_in_heap (tupleKind_room_in1 hu) (key_of I.hok eb) hd dd ?_
    have q := (rel.val k).isSome_eq
    rw [Option.isSome_map] at q
    rw [<- q, <- l]
    exact h _ (I.tok _)
theorem d_notIn {Q : Value -> Shared -> Prop} (hu : A.units + 1 < cLine) (I : Inv X pins σ H s) (g : DGet H a y o) (ry : RelV y u) (h : ∀ s', Inv X pins σ H s' -> Q (.bool (!o.isSome)) s') :
    wpAny (model X.prog X.w) A (compareOp .NotIn u (.ref a)) Q E s := by
  rcases g with ⟨kvs, k, e, ey, l⟩ | ⟨kvs, k, b, e, ey, eb, l⟩
  · subst ey
    obtain ⟨z, hd, vs, rel, dd⟩ := dk_rd I.hok e
    refine wpAny_notIn_of (kV_is ry) hd dd.mapOf ?_
    rw [<- (rel.val k).isSome_eq, <- l]
    exact h _ (I.tok _)
  · subst ey
    cases (show u = Value.ref b from ry)
    obtain ⟨z, hd, xs, rel, dd⟩ := dt_rd I.hok e
    refine wpAny_notIn_heap (tupleKind_room_in1 hu) (key_of I.hok eb) hd dd ?_
    have q := (rel.val k).isSome_eq
    rw [Option.isSome_map] at q
    rw [<- q, <- l]
    exact h _ (I.tok _)
theorem d_write {h' : Heap} {t' : Nat} {ob : HO} (I : Inv X pins σ H s) (mu : Mut (H a)) (hs : Heap.SameBut a s.heap h') (he : ∃ q, h'.get? a = some q) (new : ObjOk X.prog X.w (upd H a ob) h' a ob) :
    Inv X pins σ (upd H a ob) { s with heap := h', toks := t' } :=
  I.write (x := a) (e := a) mu (.inl rfl) (fun b q hb z => (hs.2 b hb).trans z) he new
theorem dk_new {P : Program} {w : World} {H' : Hp} {h' : Heap} {kvs : List (Key × V)} {vs : List (Key × Value)} (z : kvs.length <= sizeLine) (hd : (a == sysModules) = false) (rel : KV kvs vs) (dd : h'.DictOf (mixKind P w) a vs) :
    ObjOk P w H' h' a (.dK kvs) := ⟨z, hd, vs, rel, dd⟩
theorem d_setItem {H' : Hp} {Q : Unit -> Shared -> Prop} (hu : A.units + 1 < cLine) (I : Inv X pins σ H s) (g : DPut H a y v H') (ry : RelV y u) (rv : RelV v r) (h : ∀ s', Inv X pins σ H' s' -> Q () s') :
    wpAny (model X.prog X.w) A (setItem (.ref a) u r) Q E s := by
  rcases g with ⟨kvs, k, e, ey, l, eH⟩ | ⟨kvs, k, b, e, ey, eb, l, eH⟩
  · subst ey eH
    obtain ⟨z, hd, vs, rel, dd⟩ := dk_of I.hok e
    have hz : vs.length <= sizeLine := by rw [<- rel.length]; exact z
    have hl : (putK kvs k v).length <= sizeLine := by have := uY kvs k v; omega
    refine wpAny_setItem_pairs (hsz := hz) (kV_is ry) dd fun h' dd' hs => h _ ?_
    have he : ∃ q, h'.get? a = some q := let ⟨q, _, _, hq, _⟩ := dd'; ⟨q, hq⟩
    exact d_write I (by rw [e]; exact True.intro) hs he (dk_new hl hd (rel.put k rv) dd')
  · subst ey eH
    cases (show u = Value.ref b from ry)
    obtain ⟨z, hd, xs, rel, dd⟩ := dt_of I.hok e
    have hz : xs.length <= sizeLine := by rw [<- Paired.length rel]; exact z
    have hl : (putK kvs k v).length <= sizeLine := by have := uY kvs k v; omega
    refine wpAny_setItem_heap (hsz := hz) (tupleKind_room_in1 hu) (key_of I.hok eb) dd fun h' dd' hs => h _ ?_
    obtain ⟨q, es, ep, hq, h2, h3, h4, _, h5⟩ := dd'
    refine d_write I (by rw [e]; exact True.intro) hs ⟨q, hq⟩ ⟨hl, hd, _, (rel.put k eb rv).keeps fun c ys ec => ?_, q, es, ep, hq, h2, h3, h4, h5⟩
    rw [zQ (ne_of ec e (fun z => nomatch z))]
    exact ec
end
section
variable {X : Cx} {pins : List (Addr × Obj)} {σ : St} {H : Hp} {s : Shared} {a : Addr} {kvs : List (Key × V)} {k : Key} {u : Value} {A : Around} {E : Value -> Shared -> Prop}
end
def NoSl (i : Expr) : Prop := ∀ ov iv, subscripted i false ov iv = operate [ov, iv] (getItem ov iv)
theorem subD_of {prog : Program} {w : World} {A : Around} {E : Value -> Shared -> Prop} {s : Shared} {env : Env} {value slice : Expr} {pos : Pos} {T id : String} {Q : Value -> Shared -> Prop}
    (hl : typeLookup (.type T) "__getitem__" = pure (some (.builtin id))) (hs : NoSl slice)
    (h : wpAny (model prog w) A (eval value env) (fun o s₁ => wpAny (model prog w) A (eval slice env) (fun i s₂ => s₂.TypeIs o T /\ wpAny (model prog w) A (getItem o i) Q E s₂) E s₁) E s) :
    wpAny (model prog w) A (eval (.Subscript value slice pos) env) Q E s := by
  refine Subscript_ (wpAny_mono h (fun o s₁ h₁ => wpAny_mono h₁ (fun i s₂ h₂ => ?_) fun _ _ x => x) fun _ _ x => x)
  obtain ⟨hT, h₂⟩ := h₂
  unfold subscriptTail
  refine wpAny_bind ?_
  rw [getitemInPython_of_ne hT.not_modules]
  refine wpAny_bind (wpAny_specialOf hT hl ?_)
  have fin : wpAny (model prog w) A (subscripted slice false o i) (fun r s₃ => wpAny (model prog w) A (letTemporaryGo value o r >>= fun _ => pure r) Q E s₃) E s₂ := by
    rw [hs o i]
    exact wpAny_operating (wpAny_mono h₂ (fun r s₃ h₃ => wpAny_bind (wpAny_letTemporaryGo (wpAny_pure h₃))) fun _ _ x => x)
  first
    | exact wpAny_pure (wpAny_bind fin)
    | exact wpAny_bind (wpAny_pure (wpAny_bind fin))
    | exact wpAny_bind fin
theorem dict_typeIs {X : Cx} {pins : List (Addr × Obj)} {σ : St} {H : Hp} {s : Shared} {a : Addr} {y : V} {o : Option V} (I : Inv X pins σ H s) (g : DGet H a y o) : s.TypeIs (.ref a) "dict" := by
  rcases g with ⟨kvs, k, e, _, _⟩ | ⟨kvs, k, b, e, _, _, _⟩
  · obtain ⟨_, _, vs, _, dd⟩ := dk_rd I.hok e
    exact dd.typeIs
  · obtain ⟨_, _, xs, _, dd⟩ := dt_rd I.hok e
    exact dd.typeIs
def tDGet (td ty : TE) : TE := fun σ H Q => td σ H fun x H1 => ty σ H1 fun y H2 => ∃ a v, x = .ref a /\ DGet H2 a y (some v) /\ Q v H2
def tDIn (ty td : TE) : TE := fun σ H Q => ty σ H fun y H1 => td σ H1 fun x H2 => ∃ a o, x = .ref a /\ DGet H2 a y o /\ Q (.bl o.isSome) H2
def tDNotIn (ty td : TE) : TE := fun σ H Q => ty σ H fun y H1 => td σ H1 fun x H2 => ∃ a o, x = .ref a /\ DGet H2 a y o /\ Q (.bl (!o.isSome)) H2
def sDPut (td ty tv : TE) : TS := fun D σ H => tv σ H fun v H1 => td σ H1 fun x H2 => ty σ H2 fun y H3 => ∃ a H4, x = .ref a /\ DPut H3 a y v H4 /\ D.nx σ H4
section
variable {X : Cx} {o i e value : Expr} {pos pos' tpos : Pos} {td ty tv : TE}
theorem pe_dget (hu : X.A.units + 1 < cLine) (ho : PE X o td) (hi : PE X i ty) (hs : NoSl i) : PE X (.Subscript o i pos) (tDGet td ty) := by
  intro pins s σ H Q I h
  refine subD_of PySem.F.slot_dict_getitem.lookup hs (thn (ho pins s σ H _ I h) fun u s1 ⟨x, H1, I1, rx, q1⟩ => thn (hi pins s1 σ H1 _ I1 q1) fun iv s2 ⟨y, H2, I2, ry, a, v, ex, g, q2⟩ => ?_)
  subst ex
  obtain rfl : u = Value.ref a := rx
  exact ⟨dict_typeIs I2 g, d_getItem hu I2 g ry fun w' s3 I3 rw' => ⟨v, H2, I3, rw', q2⟩⟩
theorem pc_din (hu : X.A.units + 1 < cLine) (hi : PE X i ty) (ho : PE X o td) : PC X .In i o (tDIn ty td) := by
  intro pins s σ H Q I h
  refine thn (hi pins s σ H _ I h) fun iv s1 ⟨y, H1, I1, ry, q1⟩ => thn (ho pins s1 σ H1 _ I1 q1) fun u s2 ⟨x, H2, I2, rx, a, ov, ex, g, q2⟩ => ?_
  subst ex
  obtain rfl : u = Value.ref a := rx
  exact d_in hu I2 g ry fun s3 I3 => ⟨.bl ov.isSome, H2, I3, rfl, q2⟩
theorem pc_dnotin (hu : X.A.units + 1 < cLine) (hi : PE X i ty) (ho : PE X o td) : PC X .NotIn i o (tDNotIn ty td) := by
  intro pins s σ H Q I h
  refine thn (hi pins s σ H _ I h) fun iv s1 ⟨y, H1, I1, ry, q1⟩ => thn (ho pins s1 σ H1 _ I1 q1) fun u s2 ⟨x, H2, I2, rx, a, ov, ex, g, q2⟩ => ?_
  subst ex
  obtain rfl : u = Value.ref a := rx
  exact d_notIn hu I2 g ry fun s3 I3 => ⟨.bl (!ov.isSome), H2, I3, rfl, q2⟩
theorem ps_dput (hu : X.A.units + 1 < cLine) (ho : PE X o td) (hi : PE X i ty) (hv : PE X value tv) (hs : swapsWith value (some (.Subscript o i pos')) pos.line X.env = pure false) :
    PS X (.Assign [.Subscript o i pos'] value pos) (sDPut td ty tv) := by
  intro pins s σ H D I h
  refine wpAny_Assign_Subscript (thn (hv pins s σ H _ I h) fun r s1 ⟨v, H1, I1, rv, q1⟩ => thn (ho pins s1 σ H1 _ I1 q1) fun u s2 ⟨x, H2, I2, rx, q2⟩ => thn (hi pins s2 σ H2 _ I2 q2) fun iv s3 ⟨y, H3, I3, ry, a, H4, ex, g, q3⟩ => ?_) hs
  subst ex
  obtain rfl : u = Value.ref a := rx
  exact d_setItem hu I3 g ry rv fun s4 I4 => ⟨σ, H4, I4, q3⟩
end
theorem dk_empty {P : Program} {w : World} {H : Hp} (h : Heap) (hb : sysModules < h.objs.size) : ObjOk P w H (h.push { cls := .type "dict", data := .dict #[] }) h.objs.size (.dK []) :=
  ⟨Nat.zero_le _, beq_eq_false_iff_ne.mpr (Ne.symm (Nat.ne_of_lt hb)), [], .nil, Heap.DictOf.new h⟩
def tDNewK : TE := fun _ H Q => ∀ p, H p = none -> Q (.ref p) (upd H p (.dK []))
section
variable {X : Cx} {pos : Pos}
theorem pe_dnewK : PE X (.Dict [] [] pos) tDNewK := fun pins s σ H Q I h =>
  wpAny_Dict_empty ⟨.ref s.heap.objs.size, _, I.laid (a := s.heap.objs.size) (o := .dK []) (t' := s.toks) (fun _ _ q => Heap.get?_push_of_some _ q) (Nat.le_refl _) (dk_empty s.heap I.big), rfl, h _ (I.hok.fresh (Nat.le_refl _))⟩
end
def tPairs : List (TE × TE) -> St -> Hp -> (List (V × V) -> Hp -> Prop) -> Prop
  | [], _, H, Q => Q [] H
  | (tk, tv) :: r, σ, H, Q => tk σ H fun x H1 => tv σ H1 fun y H2 => tPairs r σ H2 fun ps H3 => Q ((x, y) :: ps) H3
abbrev VV : List (V × V) -> List (Value × Value) -> Prop := Paired fun p q => RelV p.1 q.1 /\ RelV p.2 q.2
def PPs (X : Cx) (pos : Pos) (keys : List (Option Expr)) (values : List Expr) (trs : List (TE × TE)) : Prop :=
  ∀ (pins : List (Addr × Obj)) (s : Shared) (σ : St) (H : Hp) (Q : List (V × V) -> Hp -> Prop), Inv X pins σ H s -> tPairs trs σ H Q ->
    wpAny (model X.prog X.w) X.A (evalPairs (pairTrees keys values X.env pos)) (fun vs s' => ∃ ps H', Inv X pins σ H' s' /\ VV ps vs /\ Q ps H') X.xe s
theorem pps_nil {X : Cx} {pos : Pos} : PPs X pos [] [] [] := fun pins s σ H Q I h => pairTrees_nil_walk ⟨[], H, I, .nil, h⟩
theorem pps_cons {X : Cx} {pos : Pos} {k v : Expr} {ks : List (Option Expr)} {vs : List Expr} {tk tv : TE} {trs : List (TE × TE)} (hk : PE X k tk) (hv : PE X v tv) (hr : PPs X pos ks vs trs) :
    PPs X pos (some k :: ks) (v :: vs) ((tk, tv) :: trs) := fun pins s σ H Q I h =>
  pairTrees_cons_walk (thn (hk pins s σ H _ I h) fun u s1 ⟨x, H1, I1, rx, q1⟩ => thn (hv pins s1 σ H1 _ I1 q1) fun w2 s2 ⟨y, H2, I2, ry, q2⟩ =>
    thn (hr pins s2 σ H2 _ I2 q2) fun ws s3 ⟨ps, H3, I3, rel, q3⟩ => ⟨(x, y) :: ps, H3, I3, .cons ⟨rx, ry⟩ rel, q3⟩)
def mergeK (kvs more : List (Key × V)) : List (Key × V) := more.foldl (fun acc kv => putK acc kv.1 kv.2) kvs
theorem KV.merge : ∀ {more : List (Key × V)} {rs : List (Key × Value)} {kvs : List (Key × V)} {vs : List (Key × Value)}, KV more rs -> KV kvs vs -> KV (mergeK kvs more) (merged vs rs) := by
  intro more rs kvs vs r
  unfold KV at r
  induction r generalizing kvs vs with
  | nil => intro q; exact q
  | @cons p q ps qs h t ih =>
    intro r0
    have e : KV (putK kvs p.1 p.2) (stored vs q.1 q.2) := by
      have := r0.put p.1 h.2
      rw [<- h.1]; exact this
    exact ih e
theorem length_mergeK : ∀ (more kvs : List (Key × V)), (mergeK kvs more).length <= kvs.length + more.length
  | [], kvs => by show kvs.length <= kvs.length + 0; omega
  | p :: r, kvs => by
    have h1 := length_mergeK r (putK kvs p.1 p.2)
    have h2 := uY kvs p.1 p.2
    show (mergeK (putK kvs p.1 p.2) r).length <= _
    rw [List.length_cons]; omega
theorem carries_of {P : Program} {w : World} : ∀ {kvs : List (Key × V)} {ws : List (Value × Value)}, VV (kvs.map fun kv => (kV kv.1, kv.2)) ws -> ∃ rs, Carries (mixKind P w) ws rs /\ KV kvs rs
  | [], _, r => by rw [List.map_nil] at r; cases r; exact ⟨[], True.intro, .nil⟩
  | p :: kvs, _, r => by
    rw [List.map_cons] at r
    cases r with
    | @cons a b as bs h t =>
      obtain ⟨rs, c, q⟩ := carries_of (P := P) (w := w) t
      obtain ⟨b1, b2⟩ := b
      exact ⟨(p.1, b2) :: rs, ⟨kV_is h.1, rfl, c⟩, .cons ⟨rfl, h.2⟩ q⟩
def tDisp (trs : List (TE × TE)) : TE := fun σ H Q => ∀ p, H p = none -> tPairs trs σ (upd H p (.dK [])) fun ps H2 => H2 p = some (.dK []) /\ ∃ kvs : List (Key × V), ps = kvs.map (fun kv => (kV kv.1, kv.2)) /\ kvs.length <= 15 /\ Q (.ref p) (upd H2 p (.dK (mergeK [] kvs)))
theorem pe_disp {X : Cx} {pos : Pos} {keys : List (Option Expr)} {values : List Expr} {trs : List (TE × TE)} (h : PPs X pos keys values trs) (hall : keys.all (·.isSome) = true) (hl : keys.length = values.length) (h0 : keys ≠ [])
    (h15 : keys.length <= 15) : PE X (.Dict keys values pos) (tDisp trs) := by
  intro pins s σ H Q I q
  have hn := I.hok.fresh (Nat.le_refl s.heap.objs.size)
  have I1 := I.laid (a := s.heap.objs.size) (o := .dK []) (h' := s.heap.push { cls := .type "dict", data := .dict #[] }) (t' := s.toks) (fun _ _ q => Heap.get?_push_of_some _ q) (Nat.le_refl _) (dk_empty s.heap I.big)
  refine wpAny_Dict_walk (knd := mixKind X.prog X.w) hall hl h0 h15 (thn (h pins _ σ _ _ I1 (q _ hn)) fun ws s2 ⟨ps, H2, I2, rel, e, kvs, ep, lk, q2⟩ => ?_)
  subst ep
  obtain ⟨rs, c, rk⟩ := carries_of (P := X.prog) (w := X.w) rel
  obtain ⟨z, hd, vs0, r0, dd⟩ := dk_of I2.hok e
  cases r0
  refine ⟨rs, c, dd, fun h' dd' hs => ⟨.ref s.heap.objs.size, _, ?_, rfl, q2⟩⟩
  have hz : (mergeK [] kvs).length <= sizeLine := by
    have h1 := length_mergeK kvs []
    rw [List.length_nil] at h1
    rw [sizeLine_eq]; omega
  have he : ∃ q, h'.get? s.heap.objs.size = some q := let ⟨q, _, _, hq, _⟩ := dd'; ⟨q, hq⟩
  exact d_write I2 (by rw [e]; exact True.intro) hs he (dk_new hz hd (rk.merge .nil) dd')
structure M1 (X : Cx) (o : Expr) (m : Str) (apos : Pos) (e : Expr) (cpos : Pos) : Prop where
  base : attributeBase o m X.env (eval o X.env) = eval o X.env
  few : ((backTo cpos (starEach [e] X.env)).all (fun x => !x.1) && (backToKw cpos (keywordEach [] X.env)).all (fun x => x.1.isSome)
    && decide (([e] : List Expr).length + ([] : List Keyword).length + (if ([] : List Keyword).isEmpty then 0 else 1) < 30)) = true
  line : (apos.endLine == cpos.line) = true
  trees : backTo cpos (starEach [e] X.env) = [(false, eval e X.env)]
structure M2 (X : Cx) (o : Expr) (m : Str) (apos : Pos) (e f : Expr) (cpos : Pos) : Prop where
  base : attributeBase o m X.env (eval o X.env) = eval o X.env
  few : ((backTo cpos (starEach [e, f] X.env)).all (fun x => !x.1) && (backToKw cpos (keywordEach [] X.env)).all (fun x => x.1.isSome)
    && decide (([e, f] : List Expr).length + ([] : List Keyword).length + (if ([] : List Keyword).isEmpty then 0 else 1) < 30)) = true
  line : (apos.endLine == cpos.line) = true
  trees : backTo cpos (starEach [e, f] X.env) = [(false, eval e X.env), (false, eval f X.env)]
section
variable {X : Cx} {pins : List (Addr × Obj)} {σ : St} {H : Hp} {s : Shared} {a : Addr} {y d : V} {u r : Value} {o : Option V} {A : Around} {E : Value -> Shared -> Prop}
end
section
variable {X : Cx} {o e f : Expr} {apos cpos : Pos} {td ty tx : TE}
end
section
variable {X : Cx} {pins : List (Addr × Obj)} {σ : St} {H : Hp} {s : Shared} {a : Addr} {kvs : List (Key × V)} {A : Around} {E : Value -> Shared -> Prop}
end
section
variable {X : Cx} {pins : List (Addr × Obj)} {σ : St} {H : Hp} {s : Shared} {a : Addr} {y : V} {u : Value} {A : Around} {E : Value -> Shared -> Prop}
end
end L2
namespace HT
open PySem PyProof.Rows
section
open PySem.SeqAt
open PySem.AutoSeq1 (wpAny_loadPart')
open PySem.MeetsSeq PySem.MeetsSeq2 PySem.MeetsSeq3
end
section
variable {prog : Program} {w : World} {A : Around} {E : Value -> Shared -> Prop} {s : Shared}
end
end HT
namespace L2
open PySem PySem.Spec PyProof.Rows
abbrev TO := St -> Hp -> (Option Int -> Hp -> Prop) -> Prop
section
variable {X : Cx} {e : Expr} {te : TE} {lo hi : Option Expr} {tl th : TO} {pos p2 : Pos}
end
end L2
namespace L2
open PySem PySem.Spec PyProof.Rows
def ixN (n : Nat) (i : Int) : Option Nat := if 0 <= i then (if i < n then some i.toNat else none) else if -(n : Int) <= i then some (i + n).toNat else none
def atI {α : Type} (xs : List α) (i : Int) : Option α := (ixN xs.length i).bind fun j => xs[j]?
theorem ixN_seq {n : Nat} {i : Int} {j : Nat} (h : ixN n i = some j) : seqIndex? i n = some j /\ j < n /\ -(n : Int) <= i /\ i < n := by
  unfold ixN at h
  by_cases h0 : 0 <= i
  · rw [if_pos h0] at h
    by_cases h1 : i < n
    · rw [if_pos h1] at h
      have e : i.toNat = j := Option.some.inj h
      exact ⟨by rw [seqIndex_of h0 h1, e], by omega, by omega, h1⟩
    · rw [if_neg h1] at h; cases h
  · rw [if_neg h0] at h
    by_cases h1 : -(n : Int) <= i
    · rw [if_pos h1] at h
      have e : (i + n).toNat = j := Option.some.inj h
      exact ⟨by rw [seqIndex_neg (by omega) h1, e], by omega, h1, by omega⟩
    · rw [if_neg h1] at h; cases h
theorem atI_get {α : Type} {xs : List α} {i : Int} {v : α} (h : atI xs i = some v) : ∃ j, seqIndex? i xs.length = some j /\ xs[j]? = some v /\ j < xs.length /\ -(xs.length : Int) <= i /\ i < xs.length := by
  unfold atI at h
  cases e : ixN xs.length i with
  | none => rw [e] at h; cases h
  | some j =>
    rw [e] at h
    obtain ⟨h1, h2, h3, h4⟩ := ixN_seq e
    exact ⟨j, h1, h, h2, h3, h4⟩
theorem atI_nat {α : Type} {xs : List α} {j : Nat} {v : α} (h : xs[j]? = some v) : atI xs (j : Int) = some v := by
  have hj : j < xs.length := (List.getElem?_eq_some_iff.mp h).1
  have e : ixN xs.length (j : Int) = some j := by
    unfold ixN
    rw [if_pos (by omega), if_pos (by omega)]; simp
  unfold atI; rw [e]; exact h
def PlainIx (b : Expr) : Prop := ∀ o i, subscripted b false o i = operate [o, i] (getItem o i)
def IxR (X : Cx) (r : R2) : Prop :=
  ∀ (value slice : Expr) (pins : List (Addr × Obj)) (s : Shared) (σ : St) (H : Hp) (x y : V) (v u : Value) (Q : VK), Inv X pins σ H s -> RelV x v -> RelV y u -> r x y H Q ->
    subscripted slice false v u = operate [v, u] (getItem v u) -> wpAny (model X.prog X.w) X.A (subscriptTail value slice v u) (EP X pins σ Q) X.xe s
def MtR (X : Cx) (id : String) (r : V -> List V -> Hp -> VK -> Prop) : Prop :=
  ∀ (pins : List (Addr × Obj)) (s : Shared) (σ : St) (H : Hp) (x : V) (xs : List V) (v : Value) (us : List Value) (Q : VK), Inv X pins σ H s -> RelV x v -> Vals xs us -> r x xs H Q ->
    wpAny (model X.prog X.w) X.A (call (.builtin id) (v :: us)) (EP X pins σ Q) X.xe s
section
variable {X : Cx} {a b : Expr} {ta tb : TE} {pos : Pos}
theorem uB {r : R2} (hr : IxR X r) (ha : PE X a ta) (hb : PE X b tb) (hs : PlainIx b) : PE X (.Subscript a b pos) (tOp r ta tb) := by
  intro pins s σ H Q I h
  exact Subscript_ (binT ha hb I h fun v u s2 x y H2 I2 rx ry q => hr a b pins s2 σ H2 x y v u Q I2 rx ry q (hs _ _))
def rIxL (K : PySem.W.Frag) : R2 := fun x y H Q => ∃ p xs i v, x = .ref p /\ y = .int i /\ SqL K H p xs /\ atI xs i = some v /\ Q v H
theorem ix_list : IxR X (rIxL X.K) := by
  intro value slice pins s σ H x y v u Q I rx ry h hs
  obtain ⟨p, xs, i, z, rfl, rfl, hq, he, q⟩ := h
  cases rx
  obtain ⟨t, rfl⟩ := ry
  obtain ⟨its, r, pl, hz⟩ := I.list hq
  obtain ⟨j, h1, h2, h3, h4, h5⟩ := atI_get he
  obtain ⟨w, ew, rw'⟩ := r.get h2
  have hl := r.length
  have hn := line63
  have fin : EP X pins σ Q w s := ⟨z, H, I, rw', q⟩
  by_cases h0 : 0 <= i
  · have hj : i.toNat = j := by
      rw [seqIndex_of h0 h5] at h1
      exact Option.some.inj h1
    exact item_listR pl.isList h0 (by omega) (by rw [hj]; simpa using ew) fin hs
  · have hj : (i + (its.toArray.size : Int)).toNat = j := by
      rw [seqIndex_neg (by omega) h4] at h1
      rw [List.size_toArray, <- hl]
      exact Option.some.inj h1
    exact subscriptTail_builtinR (x := w) pl.isList.typeIs slot_list_getitem.lookup
      (wpAny_getItem_list_neg (Q := fun r s' => r = w /\ EP X pins σ Q r s') pl.isList (by omega) (by rw [List.size_toArray] <;> omega) (by omega) (by rw [hj]; simpa using ew) ⟨rfl, fin⟩) hs
theorem mapSeq_set (its : List Value) (n j : Nat) (u : Value) : Obj.mapSeq (·.setIfInBounds j u) { cls := .type "list", data := .seq its.toArray n } = { cls := .type "list", data := .seq (its.set j u).toArray n } := by
  simp [Obj.mapSeq]
theorem Inv.lst {pins : List (Addr × Obj)} {σ : St} {H : Hp} {s : Shared} {p : Addr} {xs : List V} (I : Inv X pins σ H s) (h : H p = some (.lst xs)) :
    ∃ (its : List Value) (n : Nat), Vals xs its /\ s.heap.get? p = some { cls := .type "list", data := .seq its.toArray n } /\ xs.length <= sizeLine := by
  obtain ⟨z, its, n, r, e⟩ := I.hok p _ h
  exact ⟨its, n, r, e, z⟩
theorem Inv.lstUpd {pins : List (Addr × Obj)} {σ : St} {H : Hp} {s : Shared} {p : Addr} {xs ys : List V} {its its' : List Value} {n n' : Nat} {f : Obj -> Obj} (I : Inv X pins σ H s) (h : H p = some (.lst xs))
    (ho : s.heap.get? p = some { cls := .type "list", data := .seq its.toArray n }) (hf : f { cls := .type "list", data := .seq its.toArray n } = { cls := .type "list", data := .seq its'.toArray n' }) (r : Vals ys its') (hz : ys.length <= sizeLine) (t : Nat) :
    Inv X pins σ (upd H p (.lst ys)) { s with heap := s.heap.update p f, toks := t } := by
  have e : (s.heap.update p f).get? p = some { cls := .type "list", data := .seq its'.toArray n' } := by
    rw [Heap.get?_update_self f ho (by rw [hf] <;> rfl), hf]
  refine I.write (x := p) (e := p) (by rw [h]; trivial) (.inl rfl) (fun b u hb q => (Heap.get?_update_other _ _ (Ne.symm hb)).trans q) ⟨_, e⟩ ?_
  exact ⟨hz, its', n', r, e⟩
def rSetL : V -> V -> V -> Hp -> (Hp -> Prop) -> Prop := fun o i v H Q => ∃ p xs k j, o = .ref p /\ i = .int k /\ H p = some (.lst xs) /\ ixN xs.length k = some j /\ Q (upd H p (.lst (xs.set j v)))
theorem set_list : PSet X rSetL := by
  intro pins s σ H o i v ov iv u Q I ro ri rv h
  obtain ⟨p, xs, k, j, rfl, rfl, hp, hj, q⟩ := h
  cases ro
  obtain ⟨t, rfl⟩ := ri
  obtain ⟨its, n, r, ho, hz⟩ := I.lst hp
  obtain ⟨h1, h2, h3, h4⟩ := ixN_seq hj
  have hl := r.length
  have hn := line63
  have I' : Inv X pins σ (upd H p (.lst (xs.set j v))) { s with heap := s.heap.update p (Obj.mapSeq (·.setIfInBounds j u)) } :=
    I.lstUpd hp ho (mapSeq_set its n j u) (r.set rv j) (by rw [List.length_set]; exact hz) s.toks
  by_cases h0 : 0 <= k
  · have hk : k.toNat = j := by
      rw [seqIndex_of h0 h4] at h1
      exact Option.some.inj h1
    exact PySem.W.ki_setAt ho h0 (by omega) (by rw [List.size_toArray, <- hl]; exact h4) (by rw [hk]; exact ⟨_, I', q⟩)
  · have hk : (k + (its.toArray.size : Int)).toNat = j := by
      rw [seqIndex_neg (by omega) h3] at h1
      rw [List.size_toArray, <- hl]
      exact Option.some.inj h1
    exact PySem.W.ki_setBack ho (by omega) (by rw [List.size_toArray, <- hl]; exact h3) (by omega) (by rw [hk]; exact ⟨_, I', q⟩)
def flatV : V -> Bool
  | .non => true
  | .bl _ => true
  | .int _ => true
  | .str _ => true
  | _ => false
def eqV : V -> V -> Bool
  | .non, .non => true
  | .bl a, .bl b => a == b
  | .bl a, .int b => (if a then 1 else 0) == b
  | .int a, .bl b => a == (if b then 1 else 0)
  | .int a, .int b => a == b
  | .str a, .str b => a == b
  | _, _ => false
theorem eqAt_V {A : Around} {s : Shared} {y x : V} {u v : Value} (ry : RelV y u) (rx : RelV x v) (fy : flatV y = true) (fx : flatV x = true) : SeqAt.EqAt A s u v (eqV y x) := by
  cases y with
  | non =>
    cases ry
    cases x with
    | non => cases rx; exact SeqAt.EqAt.same _
    | bl b => cases rx; exact SeqAt.EqAt.none_bool b
    | int b => obtain ⟨t, rfl⟩ := rx; exact SeqAt.EqAt.none_int b t
    | str b => obtain ⟨t, rfl⟩ := rx; exact SeqAt.EqAt.none_str b t
    | _ => exact absurd (show false = true from fx) Bool.false_ne_true
  | bl a =>
    cases ry
    cases x with
    | non => cases rx; exact SeqAt.EqAt.bool_none a
    | bl b => cases rx; exact SeqAt.EqAt.bool_bool a b
    | int b => obtain ⟨t, rfl⟩ := rx; exact SeqAt.EqAt.bool_int a b t
    | str b => obtain ⟨t, rfl⟩ := rx; exact SeqAt.EqAt.bool_str a b t
    | _ => exact absurd (show false = true from fx) Bool.false_ne_true
  | int a =>
    obtain ⟨t', rfl⟩ := ry
    cases x with
    | non => cases rx; exact SeqAt.EqAt.int_none a t'
    | bl b => cases rx; exact SeqAt.EqAt.int_bool a t' b
    | int b => obtain ⟨t, rfl⟩ := rx; exact SeqAt.EqAt.int_int a t' b t
    | str b => obtain ⟨t, rfl⟩ := rx; exact SeqAt.EqAt.int_str a t' b t
    | _ => exact absurd (show false = true from fx) Bool.false_ne_true
  | str a =>
    obtain ⟨t', rfl⟩ := ry
    cases x with
    | non => cases rx; exact SeqAt.EqAt.str_none a t'
    | bl b => cases rx; exact SeqAt.EqAt.str_bool a t' b
    | int b => obtain ⟨t, rfl⟩ := rx; exact SeqAt.EqAt.str_int a t' b t
    | str b => obtain ⟨t, rfl⟩ := rx; exact SeqAt.EqAt.str_str a t' b t
    | _ => exact absurd (show false = true from fx) Bool.false_ne_true
  | _ => exact absurd (show false = true from fy) Bool.false_ne_true
def eqU (x : V) (u : Value) : Bool := match u with
  | .none => eqV .non x
  | .bool b => eqV (.bl b) x
  | .int i _ => eqV (.int i) x
  | .str z _ => eqV (.str z) x
  | _ => false
theorem eqU_of {x y : V} {u : Value} (r : RelV y u) (f : flatV y = true) : eqU x u = eqV y x := by
  cases y with
  | non => cases r; rfl
  | bl b => cases r; rfl
  | int i => obtain ⟨t, rfl⟩ := r; rfl
  | str z => obtain ⟨t, rfl⟩ := r; rfl
  | _ => exact absurd (show false = true from f) Bool.false_ne_true
theorem any_eqU {x : V} : ∀ {xs : List V} {us : List Value}, Vals xs us -> xs.all flatV = true -> us.any (eqU x) = xs.any fun y => eqV y x
  | _, _, .nil, _ => rfl
  | y :: xs, u :: us, .cons r t, f => by
    rw [List.all_cons, Bool.and_eq_true] at f
    rw [List.any_cons, List.any_cons, eqU_of r f.1, any_eqU t f.2]
theorem mem_eqAt {A : Around} {s : Shared} {x : V} {v : Value} (rx : RelV x v) (fx : flatV x = true) : ∀ {xs : List V} {us : List Value}, Vals xs us -> xs.all flatV = true -> ∀ u ∈ us, SeqAt.EqAt A s u v (eqU x u)
  | _, _, .nil, _ => fun u hu => by cases hu
  | y :: xs, u :: us, .cons r t, f => fun u' hu => by
    rw [List.all_cons, Bool.and_eq_true] at f
    rcases List.mem_cons.mp hu with rfl | hu
    · rw [eqU_of r f.1]; exact eqAt_V r rx f.1 fx
    · exact mem_eqAt rx fx t f.2 u' hu
def inV (x : V) (xs : List V) : Bool := xs.any fun y => eqV y x
def rIn (K : PySem.W.Frag) (neg : Bool) : R2 := fun x y H Q => ∃ p xs, y = .ref p /\ (SqL K H p xs \/ SqT K H p xs) /\ flatV x = true /\ xs.all flatV = true /\ Q (.bl (if neg then !inV x xs else inV x xs)) H
theorem op_in_seq : OpR X (compareOp .In) (rIn X.K false) := by
  intro pins s σ H x y v u Q I rx ry h
  obtain ⟨p, xs, rfl, hq, fx, fs, q⟩ := h
  cases ry
  rcases hq with hq | hq
  · obtain ⟨its, r, pl, hz⟩ := I.list hq
    refine SeqAt.in_listAt (eqU x) pl.isList (fun w hw => mem_eqAt rx fx r fs w (by simpa using hw)) ⟨.bl _, H, I, rfl, ?_⟩
    rw [show its.toArray.any (eqU x) = its.any (eqU x) by simp, any_eqU r fs]
    exact q
  · obtain ⟨its, r, pl, hz⟩ := I.tuple hq
    refine SeqAt.in_tupleAt (eqU x) pl (fun w hw => mem_eqAt rx fx r fs w (by simpa using hw)) ⟨.bl _, H, I, rfl, ?_⟩
    rw [show its.toArray.any (eqU x) = its.any (eqU x) by simp, any_eqU r fs]
    exact q
theorem op_notIn_seq : OpR X (compareOp .NotIn) (rIn X.K true) := by
  intro pins s σ H x y v u Q I rx ry h
  obtain ⟨p, xs, rfl, hq, fx, fs, q⟩ := h
  cases ry
  rcases hq with hq | hq
  · obtain ⟨its, r, pl, hz⟩ := I.list hq
    refine SeqAt.notIn_listAt (eqU x) pl.isList (fun w hw => mem_eqAt rx fx r fs w (by simpa using hw)) ⟨.bl _, H, I, rfl, ?_⟩
    rw [show its.toArray.any (eqU x) = its.any (eqU x) by simp, any_eqU r fs]
    exact q
  · obtain ⟨its, r, pl, hz⟩ := I.tuple hq
    refine SeqAt.notIn_tupleAt (eqU x) pl (fun w hw => mem_eqAt rx fx r fs w (by simpa using hw)) ⟨.bl _, H, I, rfl, ?_⟩
    rw [show its.toArray.any (eqU x) = its.any (eqU x) by simp, any_eqU r fs]
    exact q
theorem call_len_seq : CallR X (.builtin "len") (fun xs H Q => ∃ p ys, xs = [.ref p] /\ (SqL X.K H p ys \/ SqT X.K H p ys) /\ Q (.int ys.length) H) := by
  intro pins s σ H xs us Q I r h
  obtain ⟨p, ys, rfl, hq, q⟩ := h
  obtain ⟨u, rfl, rx⟩ := vals1 r
  cases rx
  have hn := line63
  rcases hq with hq | hq
  · obtain ⟨its, r', pl, hz⟩ := I.list hq
    have hlen := r'.length
    exact Calls.call_len_list pl.isList (by simp only [List.size_toArray] <;> omega) ⟨.int ys.length, H, I.tok _, ⟨s.toks + 1, by rw [List.size_toArray, hlen]⟩, q⟩
  · obtain ⟨its, r', pl, hz⟩ := I.tuple hq
    have hlen := r'.length
    exact len_tuple pl (by simp only [List.size_toArray] <;> omega) ⟨.int ys.length, H, I.tok _, ⟨s.toks + 1, by rw [List.size_toArray, hlen]⟩, q⟩
theorem call_list_of : CallR X (.type "list") (fun xs H Q => ∃ p ys, xs = [.ref p] /\ (SqL X.K H p ys \/ SqT X.K H p ys) /\ ∀ l, H l = none -> Q (.ref l) (upd H l (.lst ys))) := by
  intro pins s σ H xs us Q I r h
  obtain ⟨p, ys, rfl, hq, q⟩ := h
  obtain ⟨u, rfl, rx⟩ := vals1 r
  cases rx
  have fin : ∀ (its : List Value), Vals ys its -> ys.length <= sizeLine -> ∀ (h' : Heap) (c' : Nat), (∀ b o', s.heap.get? b = some o' -> h'.get? b = some o') ->
      h'.get? s.heap.objs.size = some { cls := .type "list", dict := none, data := .seq its.toArray c', slots := #[] } -> EP X pins σ Q (.ref s.heap.objs.size) { s with heap := h' } := fun its r' hz h' c' kp e =>
    ⟨.ref s.heap.objs.size, _, I.laid (t' := s.toks) kp (Nat.le_refl _) (show ObjOk X.prog X.w _ h' _ (.lst ys) from ⟨hz, its, c', r', e⟩), rfl, q _ (I.hok.fresh (Nat.le_refl _))⟩
  rcases hq with hq | hq
  · obtain ⟨its, r', pl, hz⟩ := I.list hq
    have hlen := r'.length
    obtain ⟨o, ho, hc, n, hd⟩ := pl.isList
    exact call_list_seq p (.inl rfl) ho hc hd (fun h' c' kp e => fin its r' hz h' c' kp e) (by simp only [List.size_toArray] <;> omega)
  · obtain ⟨its, r', pl, hz⟩ := I.tuple hq
    have hlen := r'.length
    obtain ⟨o, ho, hc, n, hd⟩ := pl
    exact call_list_seq p (.inr rfl) ho hc hd (fun h' c' kp e => fin its r' hz h' c' kp e) (by simp only [List.size_toArray] <;> omega)
def tyV (K : PySem.W.Frag) (T : String) (x : V) (H : Hp) : Prop := match x with
  | .str _ => T = "str"
  | .int _ => T = "int"
  | .ref p => (T = "list" /\ ∃ xs, SqL K H p xs) \/ (T = "tuple" /\ ∃ o, K.lookup p = some o /\ o.cls = .type "tuple" /\ o.dict = none) \/
      (T = "dict" /\ ((∃ kvs, H p = some (.dK kvs)) \/ ∃ kvs, H p = some (.dT kvs))) \/ (T = "set" /\ ∃ S n, H p = some (.set S n))
  | _ => False
theorem tyV_is {pins : List (Addr × Obj)} {σ : St} {H : Hp} {s : Shared} {T : String} {x : V} {v : Value} (I : Inv X pins σ H s) (r : RelV x v) (ty : tyV X.K T x H) :
    s.TypeIs v T /\ ∀ a, v = .ref a -> ∃ ob, s.heap.get? a = some ob /\ ob.dict = none := by
  cases x with
  | str z =>
    obtain ⟨t, rfl⟩ := r
    cases (show T = "str" from ty)
    exact ⟨typeIs_str s z t, fun _ e => nomatch e⟩
  | int i =>
    obtain ⟨t, rfl⟩ := r
    cases (show T = "int" from ty)
    exact ⟨typeIs_int s i t, fun _ e => nomatch e⟩
  | ref p =>
    cases r
    rcases ty with ⟨rfl, xs, hq⟩ | ⟨rfl, o, hk, hc, hd⟩ | ⟨rfl, hk⟩ | ⟨rfl, S, n, hk⟩
    · obtain ⟨its, _, pl, _⟩ := I.list hq
      refine ⟨pl.isList.typeIs, fun a e => ?_⟩
      cases e
      obtain ⟨o, n, e, c, hd, _⟩ := pl
      exact ⟨o, e, hd⟩
    · refine ⟨⟨o, I.kIn p o hk, hc⟩, fun a e => ?_⟩
      cases e
      exact ⟨o, I.kIn _ o hk, hd⟩
    · have z : ∃ o, s.heap.get? p = some o /\ o.ExactDict := by
        rcases hk with ⟨kvs, hk⟩ | ⟨kvs, hk⟩
        · obtain ⟨_, _, _, _, o, _, _, e, ex, _⟩ := I.hok p _ hk
          exact ⟨o, e, ex⟩
        · obtain ⟨_, _, _, _, o, _, _, e, ex, _⟩ := I.hok p _ hk
          exact ⟨o, e, ex⟩
      obtain ⟨o, e, ex⟩ := z
      refine ⟨⟨o, e, ex.1⟩, fun a e2 => ?_⟩
      cases e2
      exact ⟨o, e, ex.2.1⟩
    · obtain ⟨o, _, _, _, e, ex, _⟩ := I.hok p _ hk
      refine ⟨⟨o, e, ex.1⟩, fun a e2 => ?_⟩
      cases e2
      exact ⟨o, e, ex.2.1⟩
  | _ => exact False.elim ty
def tBM0 (K : PySem.W.Frag) (T : String) (r : V -> List V -> Hp -> VK -> Prop) (to : TE) : TE := fun σ H Q => to σ H fun x H1 => tyV K T x H1 /\ r x [] H1 Q
def tBM (K : PySem.W.Frag) (T : String) (r : V -> List V -> Hp -> VK -> Prop) (to : TE) (t : TA) : TE := fun σ H Q => to σ H fun x H1 => tyV K T x H1 /\ t σ H1 fun xs H2 => r x xs H2 Q
variable {o e : Expr} {es : List Expr} {to : TE} {t : TA} {name : Str} {apos cpos : Pos} {T id : String} {r : V -> List V -> Hp -> VK -> Prop}
theorem pe_bm0 (pa : PlainAttrs T) (slot : Slot T name id) (hty : typeOf (.builtin id) = pure (.type "method_descriptor")) (hm : MtR X id r) (ho : PE X o to)
    (hbase : attributeBase o name X.env (eval o X.env) = eval o X.env := by rfl) (hline : (apos.endLine == cpos.line) = true := by rfl) : PE X (.Call (.Attribute o name apos) [] [] cpos) (tBM0 X.K T r to) := by
  intro pins s σ H Q I h
  refine wpAny_Call_method0_late hbase hline (thn (ho pins s σ H _ I h) fun v s1 ⟨x, H1, I1, r1, ty, q1⟩ => ?_)
  obtain ⟨h1, h2⟩ := tyV_is I1 r1 ty
  exact ⟨T, id, pa, slot, hty, h1, h2, Calls.callWith_builtin rfl (PySem.evalArgs_none (hm pins s1 σ H1 x [] v [] Q I1 r1 .nil q1))⟩
theorem pe_bm (pa : PlainAttrs T) (slot : Slot T name id) (hty : typeOf (.builtin id) = pure (.type "method_descriptor")) (hm : MtR X id r) (ho : PE X o to) (ha : PA X (e :: es) t)
    (hbase : attributeBase o name X.env (eval o X.env) = eval o X.env := by rfl)
    (hfew : ((backTo cpos (starEach (e :: es) X.env)).all (fun x => !x.1) && (backToKw cpos (keywordEach [] X.env)).all (fun x => x.1.isSome)
      && decide ((e :: es).length + ([] : List Keyword).length + (if ([] : List Keyword).isEmpty then 0 else 1) < 30)) = true := by rfl)
    (hline : (apos.endLine == cpos.line) = true := by rfl) (hs : starEach (e :: es) X.env = (false, eval e X.env) :: starEach es X.env := by rfl) (hplain : (backTo cpos (starEach es X.env)).any (·.1) = false := by rfl) :
    PE X (.Call (.Attribute o name apos) (e :: es) [] cpos) (tBM X.K T r to t) := by
  intro pins s σ H Q I h
  refine wpAny_Call_method_late hbase hfew hline rfl (thn (ho pins s σ H _ I h) fun v s1 ⟨x, H1, I1, r1, ty, q1⟩ => ?_)
  obtain ⟨h1, h2⟩ := tyV_is I1 r1 ty
  refine ⟨T, id, pa, slot, hty, h1, h2, ?_⟩
  have hA := ha cpos pins s1 σ H1 _ I1 q1
  rw [hs] at hA ⊢
  refine Calls.callWith_builtin (by show (false || (backTo cpos (starEach es X.env)).any (·.1)) = false; rw [hplain] <;> rfl) (Calls.evalArgs_plain ?_)
  exact thn hA fun us s2 ⟨vs, H2, I2, r2, q2⟩ => hm pins s2 σ H2 x vs v us Q I2 r1 r2 q2
end
end L2
namespace L2
open PySem PySem.Spec PyProof.Rows
def MtM (X : Cx) (id : String) (r : V -> List V -> Hp -> VK -> Prop) : Prop :=
  ∀ (pins : List (Addr × Obj)) (s : Shared) (σ : St) (H : Hp) (x : V) (xs : List V) (v : Value) (us : List Value) (Q : VK), Inv X pins σ H s -> RelV x v -> Vals xs us -> r x xs H Q ->
    wpAny (model X.prog X.w) X.A (call (.builtin id) (v :: us)) (EP X pins σ Q) X.xe s
theorem Vals.one : ∀ {x : V} {us : List Value}, Vals [x] us -> ∃ u, us = [u] /\ RelV x u
  | _, _, .cons r .nil => ⟨_, rfl, r⟩
theorem Vals.two : ∀ {x y : V} {us : List Value}, Vals [x, y] us -> ∃ u v, us = [u, v] /\ RelV x u /\ RelV y v
  | _, _, _, .cons r (.cons q .nil) => ⟨_, _, rfl, r, q⟩
theorem Vals.zero : ∀ {us : List Value}, Vals [] us -> us = []
  | _, .nil => rfl
theorem Vals.dropLast {xs : List V} {us : List Value} (h : Vals xs us) : Vals xs.dropLast us.dropLast := by
  induction h with
  | nil => exact .nil
  | cons r t ih =>
    cases t with
    | nil => exact .nil
    | cons q t' => exact .cons r ih
theorem Vals.eraseIdx : ∀ {xs : List V} {us : List Value} (i : Nat), Vals xs us -> Vals (xs.eraseIdx i) (us.eraseIdx i)
  | _, _, _, .nil => .nil
  | _, _, 0, .cons _ t => t
  | _, _, i + 1, .cons r t => .cons r (Vals.eraseIdx i t)
theorem Vals.reverse {xs : List V} {us : List Value} (h : Vals xs us) : Vals xs.reverse us.reverse := by
  induction h with
  | nil => exact .nil
  | cons r t ih => rw [List.reverse_cons, List.reverse_cons]; exact Vals.append ih (.cons r .nil)
theorem erase_last {α : Type} (l : List α) : l.eraseIdx (l.length - 1) = l.dropLast := by
  induction l with
  | nil => rfl
  | cons a r ih =>
    cases r with
    | nil => rfl
    | cons b r =>
      have e : (a :: b :: r).length - 1 = ((b :: r).length - 1) + 1 := by
        have h1 : (a :: b :: r).length = r.length + 2 := rfl
        have h2 : (b :: r).length = r.length + 1 := rfl
        omega
      rw [e, List.eraseIdx_cons_succ, ih]
      all_goals rfl
section
variable {X : Cx} {pins : List (Addr × Obj)} {σ : St} {H : Hp} {s : Shared} {l b : Addr} {xs ys zs : List V}
theorem Inv.lset {its its' : List Value} {n : Nat} {f : Array Value -> Array Value} {t' : Nat} (I : Inv X pins σ H s) (hH : H l = some (.lst xs))
    (e : s.heap.get? l = some { cls := .type "list", data := .seq its.toArray n }) (hf : f its.toArray = its'.toArray) (hv : Vals ys its') (hz : ys.length <= sizeLine) :
    Inv X pins σ (upd H l (.lst ys)) { s with heap := s.heap.update l (Obj.mapSeq f), toks := t' } := by
  have q := PySem.IsL.update e f
  rw [hf] at q
  refine I.write (x := l) (e := l) (by rw [hH]; exact trivial) (.inl rfl) (fun b' u hb hu => (Heap.get?_update_other s.heap (Obj.mapSeq f) (Ne.symm hb)).trans hu) ⟨_, q⟩ ?_
  exact ⟨hz, its', _, hv, q⟩
theorem Inv.lstM (I : Inv X pins σ H s) (hH : H l = some (.lst xs)) : xs.length <= sizeLine /\ ∃ (its : List Value) (n : Nat), Vals xs its /\ xs.length = its.length /\ s.heap.get? l = some { cls := .type "list", data := .seq its.toArray n } := by
  obtain ⟨z, its, n, r, e⟩ := I.hok l _ hH
  exact ⟨z, its, n, r, r.length, e⟩
theorem notLongL {n : Nat} (h : n <= sizeLine) : Builtin.List.listTooLong n = false := by
  unfold Builtin.List.listTooLong
  exact decide_eq_false (by omega)
end
section
variable {X : Cx}
def rAppend : V -> List V -> Hp -> VK -> Prop := fun x vs H Q => ∃ l xs y, x = .ref l /\ vs = [y] /\ H l = some (.lst xs) /\ xs.length < sizeLine /\ Q .non (upd H l (.lst (xs ++ [y])))
theorem yT : MtM X "list.append" rAppend := by
  intro pins s σ H x vs v us Q I rx rv h
  obtain ⟨l, xs, y, rfl, rfl, hH, hz, q⟩ := h
  cases rx
  obtain ⟨u, rfl, ru⟩ := rv.one
  obtain ⟨z, its, n, r, hl, e⟩ := I.lstM hH
  refine call_meets F.slot_list_append ⟨_, e, rfl⟩ F.entry_list_append (F.args_list_append_2 _ _) (PySem.list_append l its.toArray n u (by rw [List.size_toArray]; omega)) ⟨e, ?_⟩
  refine ⟨.non, _, I.lset (its' := its ++ [u]) hH e (by simp) (r.append (.cons ru .nil)) ?_, rfl, q⟩
  rw [List.length_append, List.length_singleton]
  omega
def rExtend : V -> List V -> Hp -> VK -> Prop := fun x vs H Q => ∃ l b xs zs, x = .ref l /\ vs = [.ref b] /\ H l = some (.lst xs) /\ H b = some (.lst zs) /\ xs.length + zs.length <= sizeLine /\ Q .non (upd H l (.lst (xs ++ zs)))
theorem mt_extend : MtM X "list.extend" rExtend := by
  intro pins s σ H x vs v us Q I rx rv h
  obtain ⟨l, b, xs, zs, rfl, rfl, hH, hB, hz, q⟩ := h
  cases rx
  obtain ⟨u, rfl, ru⟩ := rv.one
  cases ru
  obtain ⟨z, its, n, r, hl, e⟩ := I.lstM hH
  obtain ⟨z2, its2, n2, r2, hl2, e2⟩ := I.lstM hB
  have hsz : its.toArray.size + its2.toArray.size <= sizeLine := by rw [List.size_toArray, List.size_toArray]; omega
  have hlong : ¬ (!its.toArray.isEmpty && Builtin.List.listTooLong (its.toArray.size + its2.toArray.size)) = true := by
    rw [notLongL hsz, Bool.and_false]
    exact Bool.false_ne_true
  refine call_meets F.slot_list_extend ⟨_, e, rfl⟩ F.entry_list_extend (F.args_list_extend_2 _ _)
    (AutoSeq1.list_extend_list_list_0 l its.toArray n b its2.toArray n2 hlong (by rw [List.size_toArray]; omega) (by omega)) ⟨e, e2, ?_⟩
  refine ⟨.non, _, I.lset (its' := its ++ its2) hH e (by simp) (r.append r2) ?_, rfl, q⟩
  rw [List.length_append]
  omega
def rPop : V -> List V -> Hp -> VK -> Prop := fun x vs H Q => ∃ l xs y, x = .ref l /\ vs = [] /\ H l = some (.lst xs) /\ xs[xs.length - 1]? = some y /\ Q y (upd H l (.lst xs.dropLast))
theorem mt_pop : MtM X "list.pop" rPop := by
  intro pins s σ H x vs v us Q I rx rv h
  obtain ⟨l, xs, y, rfl, rfl, hH, hy, q⟩ := h
  cases rx
  have hus := rv.zero
  subst hus
  obtain ⟨z, its, n, r, hl, e⟩ := I.lstM hH
  obtain ⟨u, hu, ru⟩ := r.get hy
  have hy' : its.toArray[its.toArray.size - 1]? = some u := by
    show its.toArray[its.length - 1]? = some u
    rw [<- Array.getElem?_toList, <- hl]
    exact hu
  refine call_meets F.slot_list_pop ⟨_, e, rfl⟩ F.entry_list_pop (F.args_list_pop_1 _) (MeetsSeq.list_pop_last l its.toArray n u hy' (by rw [List.size_toArray]; omega)) ⟨e, ?_⟩
  refine ⟨y, _, I.lset (its' := its.dropLast) hH e ?_ r.dropLast ?_, ru, q⟩
  · show its.toArray.eraseIdxIfInBounds (its.toArray.size - 1) = its.dropLast.toArray
    rw [List.size_toArray, List.eraseIdxIfInBounds_toArray, erase_last]
  · rw [List.length_dropLast]
    omega
end
section
variable {prog : Program} {w : World} {A : Around} {E : Value -> Shared -> Prop} {s : Shared}
end
section
variable {X : Cx}
end
end L2
namespace Att
open PySem PySem.W PySem.Calls PyProof.Rows
theorem ints_of_wellAll {P : Params} {h : Heap} : ∀ (ns : List Int) (vs : List Value), WellAll P h vs (ns.map WData.int) -> IntsAre vs ns := by
  intro ns
  induction ns with
  | nil =>
    intro vs w
    rw [List.map_nil] at w
    cases w
    exact .nil
  | cons n ns ih =>
    intro vs w
    rw [List.map_cons] at w
    cases w with
    | cons a b =>
      cases a
      exact .cons _ _ (ih _ b)
theorem script_of {l : OpenLaw} {n : Nat} (hn : l.most = some n) {P : Params} {h : Heap} {args : List WData} {vals : List Value}
    (hpre : l.row.toRowW.claim.pre args = true) (hwl : WellAll P h vals args) :
    ∃ a vs ns, vals = [Value.ref a] /\ args = [WData.list (ns.map WData.int)] /\ h.get? a = some { cls := .type "list", data := .seq vs.toArray } /\ IntsAre vs ns /\ ns.length <= n := by
  have hsh : WShape.hasAll [] args [.list .int] = true := (pre_splitW hpre).1
  have hc : l.pre.holds [] { args := args } = true := (pre_splitW hpre).2
  obtain ⟨d, r, rfl, h1, h2⟩ := hasAllW_cons hsh
  obtain rfl := hasAllW_nil h2
  obtain ⟨xs, rfl, h3⟩ := hasW_list h1
  obtain ⟨ns, rfl⟩ := items_int h3
  have hlen : ns.length <= n := by
    unfold OpenLaw.pre at hc
    have h4 : (WTm.not (.lt (.lit (.int (n : Int))) (.len (.arg 0)))).holds [] { args := [.list (ns.map .int)] } = true := by
      have h4 := (holds_andW hc).1
      rw [hn] at h4
      exact h4
    have h5 := condW_of h4 (w_not (w_lt w_lit (w_len_list (w_arg rfl))))
    rw [List.length_map] at h5
    refine Nat.le_of_not_lt fun q => ?_
    have q' : (n : Int) < ((ns.length : Nat) : Int) := by omega
    first
      | (rw [decide_eq_true q'] at h5; exact absurd h5 (by decide))
      | (simp at h5; omega)
  cases hwl with
  | cons w1 w2 =>
    cases w2
    cases w1 with
    | list ho hall => exact ⟨_, _, ns, rfl, rfl, ho, ints_of_wellAll ns _ hall, hlen⟩
theorem post_true (l : OpenLaw) (args : List WData) : l.row.toRowW.claim.post args (.bool true) args = true :=
  postW_of (r := l.row.toRowW) (X := (true == true))
    (show WShape.has [] (.bool true) .bool = true by first | rfl | decide | simp [WShape.has, WShape.arms, WShape.armsAll])
    (show (WTm.eq .res (.lit (.bool true))).value [] { args := args, res := some (.bool true), after := args } = some (.bool (true == true)) from w_eq_bool (w_res rfl) w_lit) rfl
theorem attach_call {l : OpenLaw} {n : Nat} {q : Program} {loose : List Str} {XP : (Str -> Option Value) -> Heap -> Prop} {YP : World -> Heap -> Prop} {d : DefRec}
    (hn : l.most = some n) (hdf : d.params.defaults = [])
    (call : ∀ (w : World) (s₀ s₁ : Shared) (mg mb : Str -> Option Value) (fa : Addr) (o : Obj) (pm cd doc : Value) (a : Addr) (vs : List Value) (ns : List Int),
      Ground q loose [] XP w s₀ mg mb s₁.heap -> YP w s₁.heap ->
      s₁.heap.get? fa = some o -> o.data = .func (docDef d.name d.params d.body d.scope pm cd doc) -> s₁.heap.CodeRec cd d.name -> mg d.name = some (.ref fa) ->
      s₁.heap.get? a = some { cls := .type "list", data := .seq vs.toArray } -> IntsAre vs ns -> ns.length <= n -> s₁.gens = #[] ->
      codeAny (model l.prog w) callerA (.call (.ref fa) ⟨[.ref a], []⟩) (fun r s' => r = .ok (.ret (.bool true)) /\ OldK s₁.heap s'.heap /\ s'.os = s₁.os /\ AllBare s'.gens) s₁) :
    WalkO q loose XP YP l.row.toRowW d [] (fun f vs => PySem.call f vs) := by
  intro w s₀ s₁ mg mb G Y fa o pm cd doc dV kV ho hd hcd hD hmg hg args vals as hpre hlay hrd hwl hlo
  obtain rfl : dV = .none := Dflts.none hD hdf
  obtain rfl : kV = .none := Dflts.noKw hD
  obtain ⟨a, vs, ns, rfl, rfl, hobj, hints, hlen⟩ := script_of hn hpre hwl
  refine enter_call (codeAny_mono (call w s₀ s₁ mg mb fa o pm cd doc a vs ns G Y ho (fd_plain hd) hcd hmg hobj hints hlen hg) fun r s' hq => ?_)
  obtain ⟨rfl, h2, h3, h4⟩ := hq
  exact ⟨.inl ⟨.bool true, .bool true, [], rfl, fun _ => rfl, .bool true, post_true l _, fun _ => ⟨List.Pairwise.nil, fun _ hm => (nomatch hm)⟩⟩, h2, h3, h4⟩
section
variable {prog : Program} {w : World} {A : Around} {E : Value -> Shared -> Prop} {s : Shared} {K : Frag}
end
end Att
namespace L2
open PySem PySem.Spec PyProof.Rows
theorem vals_ints : ∀ {vs : List Value} {ns : List Int}, IntsAre vs ns -> Vals (ns.map V.int) vs
  | _, _, .nil => .nil
  | _, _, .cons n t h => .cons ⟨t, rfl⟩ (vals_ints h)
def Only (H : Hp) : Prop := ∀ b, H b = none \/ ∃ o xs, H b = some (.frz o (.lst xs))
theorem law_call {P : Program} {w : World} {K : PySem.W.Frag} {mg mb : Str -> Option Value} {CX : CXT} {k : Nat} {fa a : Addr} {fd : FuncData} {x : Str} {sp : Sp} {s₁ : Shared} {vs : List Value} {ns : List Int}
    (KX : K.In s₁.heap) (hns : s₁.heap.Ns mainGlobals mg) (hb : s₁.heap.Ns builtinsNs mb) (hbb : ∀ x : Str, x ≠ "__name__" -> mb x = bootBuiltins x) (hlim : s₁.heap.NoLimit) (hg : s₁.gens = #[])
    (ha : s₁.heap.get? a = some { cls := .type "list", data := .seq vs.toArray }) (hi : IntsAre vs ns) (hl : ns.length <= sizeLine) (hr : Room k callerA)
    (F : ∀ base : Heap, K.In base -> base.Ns mainGlobals mg -> FnOk P w K mg base CX k fa fd [x] sp) (hbind : ∀ (s : Shared) (u : Value), BindsTo s fd ⟨[u], []⟩ [(x, u)])
    (hsp : ∀ H : Hp, Only H -> SqL K H a (ns.map V.int) -> sp [.ref a] H (fun v _ => v = .bl true) fun _ _ _ => False)
    (hCX : ∀ H e s', CX [] H s₁ (fun _ _ _ => False) e s' -> False) :
    codeAny (model P w) callerA (.call (.ref fa) ⟨[.ref a], []⟩) (fun r s' => r = .ok (.ret (.bool true)) /\ OldK s₁.heap s'.heap /\ s'.os = s₁.os /\ AllBare s'.gens) s₁ := by
  have rv := vals_ints hi
  have lenV := hi.length
  have core : ∀ H : Hp, Only H -> SqL K H a (ns.map V.int) -> HOk P w H s₁.heap -> (∀ b, H b ≠ none -> b = a) -> (H a ≠ none -> K.lookup a = none) ->
      codeAny (model P w) callerA (.call (.ref fa) ⟨[.ref a], []⟩) (fun r s' => r = .ok (.ret (.bool true)) /\ OldK s₁.heap s'.heap /\ s'.os = s₁.os /\ AllBare s'.gens) s₁ := by
    intro H hO hS hok hA hK
    have base_of : ∀ {b : Addr} {o : Obj}, s₁.heap.get? b = some o -> H b = none -> (hidT s₁.heap H).get? b = some o := fun e n => hidT_get e n
    have noA : ∀ {b : Addr} {o : Obj} {es : Array DictEntry} {ep : Nat}, s₁.heap.get? b = some o -> o.data = .dict es ep -> H b = none := fun {b o es ep} e d => by
      cases q : H b with
      | none => rfl
      | some u =>
        have e' : b = a := hA b (by rw [q]; simp)
        subst e'
        rw [ha] at e; cases e
        have d' : Data.seq vs.toArray _ = Data.dict es ep := d
        cases d'
    have nsK : ∀ {b : Addr} {m : Str -> Option Value}, s₁.heap.Ns b m -> (hidT s₁.heap H).Ns b m := fun {b m} ⟨o, es, ep, e, d, r⟩ => ⟨o, es, ep, base_of e (noA e d), d, r⟩
    have hKb : K.In (hidT s₁.heap H) := fun b o e => base_of (KX b o e) (by
      cases q : H b with
      | none => rfl
      | some u =>
        have e' : b = a := hA b (by rw [q]; simp)
        subst e'
        rw [hK (by rw [q]; simp)] at e; cases e)
    have hM : Mod K mg (hidT s₁.heap H) := ⟨hKb, nsK hns, ⟨mb, nsK hb, hbb⟩, let ⟨mc, h1, h2⟩ := hlim; ⟨mc, nsK h1, h2⟩⟩
    have e0 : Env0 P w K mg (hidT s₁.heap H) callerA [] s₁ H := ⟨rfl, hM, fun b o e => of_hidT e, Nat.le_of_eq (hidT_size _ _), trivial, fun b hb => absurd (show b ∈ ([] : List Addr) from hb) (by simp), hok, .of_eq hg⟩
    refine codeAny_mono ((F _ hKb (nsK hns)).run callerA [] s₁ H ⟨[.ref a], []⟩ [.ref a] [.ref a] _ _ hr e0 (hbind s₁ (.ref a)) (.cons rfl .nil) (hsp H hO hS)) fun r s' h => ?_
    cases r with
    | error e => exact (hCX H e s' h).elim
    | ok fl =>
      cases fl with
      | next => exact False.elim h
      | brk => exact False.elim h
      | cont => exact False.elim h
      | ret u =>
        obtain ⟨v, H', os, bare, un, hok', r', q⟩ := h
        have q' : v = .bl true := q
        subst q'
        obtain rfl : u = Value.bool true := r'
        refine ⟨rfl, OldK.of_keep fun b o e => ?_, os, bare⟩
        cases q : H b with
        | none => exact un.keep b o e q (by intro z; exact absurd (show b ∈ ([] : List Addr) from z) (by simp)) (by simp)
        | some u =>
          rcases hO b with z | ⟨ob, xs, z⟩
          · rw [q] at z; cases z
          · have z2 := un.frzs b ob _ z
            obtain ⟨e1, _⟩ := hok b _ z
            obtain ⟨e2, _⟩ := hok' b _ z2
            rw [e] at e1; cases e1
            exact e2
  cases hk : K.lookup a with
  | some o =>
    have e := KX a o hk
    rw [ha] at e
    cases e
    refine core (fun _ => none) (fun _ => .inl rfl) (.inr ⟨_, vs.toArray, _, hk, rfl, rfl, rfl, by rw [List.size_toArray, lenV]; exact hl, by simpa using rv⟩) (fun b u z => by have z' : (none : Option HO) = some u := z; cases z') (fun b z => absurd rfl z) fun z => absurd rfl z
  | none =>
    refine core (fun b => if b = a then some (.frz { cls := .type "list", data := .seq vs.toArray } (.lst (ns.map V.int))) else none) (fun b => ?_) (.inl (.inr ⟨{ cls := .type "list", data := .seq vs.toArray }, if_pos rfl⟩)) (fun b u z => ?_) (fun b z => ?_) fun _ => hk
    · by_cases hb : b = a
      · exact .inr ⟨_, _, if_pos hb⟩
      · exact .inl (if_neg hb)
    · by_cases hb : b = a
      · have z' := (if_pos hb).symm.trans z
        cases z'
        subst hb
        exact ⟨ha, by rw [List.length_map]; exact hl, vs, _, rv, ha⟩
      · have z' := (if_neg hb).symm.trans z
        cases z'
    · by_cases hb : b = a
      · exact hb
      · exact absurd (if_neg hb) z
end L2
namespace L2
open PySem PySem.Spec PyProof.Rows
theorem walk_of {l : PySem.W.OpenLaw} {n k : Nat} {q : Program} {loose : List Str} {XP : (Str -> Option Value) -> Heap -> Prop} {YP : World -> Heap -> Prop} {d : DefRec} {K : Params -> PySem.W.Frag} {CX : World -> CXT} {sp : World -> Sp} {x : Str}
    (hn : l.most = some n) (hn2 : n <= sizeLine) (hdf : d.params.defaults = []) (hr : Room k callerA)
    (hY : ∀ (w : World) (h : Heap), YP w h -> (K w.params).In h)
    (F : ∀ (w : World) (mg : Str -> Option Value) (fa : Addr) (h : Heap), (K w.params).In h -> h.Ns mainGlobals mg -> mg d.name = some (.ref fa) ->
      ∃ fd : FuncData, (∀ (s : Shared) (u : Value), BindsTo s fd ⟨[u], []⟩ [(x, u)]) /\
        ∀ base : Heap, (K w.params).In base -> base.Ns mainGlobals mg -> FnOk l.prog w (K w.params) mg base (CX w) k fa fd [x] (sp w))
    (hsp : ∀ (w : World) (H : Hp) (a : Addr) (ns : List Int), ns.length <= n -> Only H -> SqL (K w.params) H a (ns.map V.int) -> sp w [.ref a] H (fun v _ => v = .bl true) fun _ _ _ => False)
    (hCX : ∀ (w : World) (H : Hp) (s : Shared) (e : Value) (s' : Shared), CX w [] H s (fun _ _ _ => False) e s' -> False) :
    PySem.W.WalkO q loose XP YP l.row.toRowW d [] (fun f vs => PySem.call f vs) := by
  refine Att.attach_call hn hdf fun w s₀ s₁ mg mb fa o pm cd doc a vs ns G Y ho hd hcd hmg hobj hints hlen hg => ?_
  have KX := hY w _ Y
  obtain ⟨fd, hb, hF⟩ := F w mg fa _ KX G.T.g hmg
  exact law_call KX G.T.g G.T.b G.T.builtins G.T.nolimit hg hobj hints (Nat.le_trans hlen hn2) hr hF hb (fun H hO hS => hsp w H a ns hlen hO hS) fun H e s' => hCX w H s₁ e s'
end L2
namespace L2
open PySem PySem.Spec PyProof.Rows
def inClass (s : Stmt) (j : Nat) : Stmt := match s with
  | .ClassDef _ _ _ body _ _ _ _ _ _ _ => body.getD j (.Pass ⟨0, 0, 0, 0⟩)
  | _ => .Pass ⟨0, 0, 0, 0⟩
def defArgs (s : Stmt) : Arguments := match s with
  | .FunctionDef _ a _ _ _ _ _ _ _ _ => a
  | _ => { posonlyargs := [], args := [], vararg := none, kwonlyargs := [], kw_defaults := [], kwarg := none, defaults := [] }
def defBody (s : Stmt) : List Stmt := match s with
  | .FunctionDef _ _ b _ _ _ _ _ _ _ => b
  | _ => []
def defScope (s : Stmt) : Scope := match s with
  | .FunctionDef _ _ _ _ _ _ sc _ _ _ => sc
  | _ => { kind := .function, names := [], isGenerator := false, isCoroutine := false }
abbrev CX0 : CXT := fun _ _ _ _ _ _ => False
abbrev E0 : XK := fun _ _ _ => False
theorem pass0 {X : Cx} : Passes CX0 X E0 := fun _ _ _ _ _ _ _ h => h.elim
structure Fun (K : PySem.W.Frag) (x qual : Str) (st : Stmt) (f : Addr) (fd : FuncData) : Prop where
  ex : ∃ (oc : Value) (od : Option Addr) (kV doc pm : Value) (an : Option Addr) (cdv ct : Value) (osl : Array (Option Value)),
    fd = fnOf x qual (defArgs st) (defBody st) (defScope st) .none kV doc pm an cdv ct /\ K.lookup f = some ⟨oc, od, .func fd, osl⟩ /\ codeIn K cdv qual = true
  kp : keepIn K (.ref f) = true
section
variable {P : Program} {w : World} {K : PySem.W.Frag} {mg : Str -> Option Value} {base : Heap}
theorem Fun.ok {x qual : Str} {st : Stmt} {f : Addr} {fd : FuncData} {N ps : List Str} {k : Nat} {sp : Sp} (F : Fun K x qual st f fd) (S : FnScope N ps (defScope st)) (len : ∀ vs H Q E, sp vs H Q E -> vs.length = ps.length)
    (hbody : ∀ (cdv : Value) (A : Around) (outer : List Env) (s : Shared) (H : Hp) (vs : List V) (Q : VK) (E : XK), Room k (A.deeper (envOfC qual (defScope st) s.heap.objs.size f cdv)) -> sp vs H Q E ->
      ∃ t, PSs (cxOf CX0 P w K mg base N qual (defScope st) f cdv A outer s H E).nox (defBody st) t /\ t { nx := fun _ H' => Q .non H', rt := Q } (start N vs) H) : FnOk P w K mg base CX0 (k + 1) f fd ps sp := by
  obtain ⟨oc, od, kV, doc, pm, an, cdv, ct, osl, rfl, lk, hcd⟩ := F.ex
  refine fn_of lk hcd S len fun A outer s H vs Q E hr hsp => ?_
  obtain ⟨t, h, q⟩ := hbody cdv A outer s H vs Q E hr hsp
  exact ⟨t, h.nox, q⟩
theorem Fun.binds {x qual : Str} {st : Stmt} {f : Addr} {fd : FuncData} {ps : List Str} (F : Fun K x qual st f fd)
    (h : ∀ (kV doc pm : Value) (an : Option Addr) (cdv ct : Value) (us : List Value), us.length = ps.length -> bindArgs (fnOf x qual (defArgs st) (defBody st) (defScope st) .none kV doc pm an cdv ct) ⟨us, []⟩ = pure (ps.zip us)) : Binds K fd ps [] := by
  obtain ⟨oc, od, kV, doc, pm, an, cdv, ct, osl, rfl, lk, hcd⟩ := F.ex
  exact .all (h kV doc pm an cdv ct)
theorem yK {x qual : Str} {st : Stmt} {f : Addr} {oc : Value} {od an : Option Addr} {osl : Array (Option Value)} {kV doc pm cdv ct : Value} (l : K.lookup f = some ⟨oc, od, .func (fnOf x qual (defArgs st) (defBody st) (defScope st) .none kV doc pm an cdv ct), osl⟩)
    (c : codeIn K cdv qual = true) (k : keepIn K (.ref f) = true) : Fun K x qual st f (fnOf x qual (defArgs st) (defBody st) (defScope st) .none kV doc pm an cdv ct) := ⟨⟨oc, od, kV, doc, pm, an, cdv, ct, osl, rfl, l, c⟩, k⟩
end
theorem hu_of {A : Around} {k : Nat} (hr : Room k A) : A.units + 1 < cLine := Nat.lt_of_le_of_lt (Nat.add_le_add_left (by decide : 1 <= 64) _) hr.units
theorem small1000 {n : Nat} (h : n <= 1000) : n < sizeLine := Nat.lt_of_le_of_lt h (by decide)
section
variable {X : Cx}
theorem pv (i : Nat) {x : Str} {pos : Pos} (hN : X.N[i]? = some x := by rfl) (hv : Vis X.env.scope x := by first | exact Or.inl rfl | exact Or.inr (Or.inl rfl) | exact Or.inr (Or.inr rfl)) (hd : (x == ("__debug__" : Str)) = false := by decide)
    (hcd : (x == ("__classdict__" : Str)) = false := by decide) : PE X (.Name x pos) (tVar i) := pe_var hN hv hd hcd
end
theorem iteF {A B : Prop} (h : B) : if false = true then A else B := by
  rw [if_neg Bool.false_ne_true]
  exact h
theorem iteT {A B : Prop} (h : A) : if true = true then A else B := by
  rw [if_pos rfl]
  exact h
def Same (H H' : Hp) : Prop := ∀ b o, H b = some o -> H' b = some o
theorem Same.refl (H : Hp) : Same H H := fun _ _ h => h
theorem Same.trans {H H1 H2 : Hp} (a : Same H H1) (b : Same H1 H2) : Same H H2 := fun c o h => b c o (a c o h)
theorem Same.free {H H' : Hp} (e : Same H H') {l : Addr} (h : H' l = Option.none) : H l = Option.none := by
  cases q : H l with
  | none => rfl
  | some o =>
    rw [e l o q] at h
    cases h
theorem Same.seq {K : PySem.W.Frag} {H H' : Hp} {a : Addr} {xs : List V} (e : Same H H') (h : SqL K H a xs) : SqL K H' a xs := by
  rcases h with (h | ⟨o, h⟩) | h
  · exact .inl (.inl (e _ _ h))
  · exact .inl (.inr ⟨o, e _ _ h⟩)
  · exact .inr h
end L2
namespace L2
open PySem PySem.Spec PyProof.Rows
section
variable {κ : Type} [DecidableEq κ]
end
end L2
namespace L2
open PySem
section
variable {prog : Program} {w : World} {A : Around} {R : Result -> Shared -> Prop} {s : Shared}
theorem wH {M : Model} {A : Around} {env : Env} {E : Value -> Shared -> Prop} {α : Type} {t : Sem α} {Q Q' : α -> Shared -> Prop} {s : Shared} (h : wpAny M A t Q (fun _ _ => False) s) (hQ : ∀ a s, Q a s -> Q' a s) : wpAny M A t Q' (notedBy M A env E) s :=
  wpAny_mono h hQ fun _ _ z => z.elim
theorem compLoop_gen {elt target iter : Expr} {ifs : List Expr} {scope : Scope} {pos : Pos} {it acc : Value} {env : Env} (I : Nat -> Shared -> Prop)
    (turn : ∀ n s, I n s -> wpAny (model prog w) A (pyNext it) (fun r s₁ => match r with
      | none => R (.ok .next) s₁
      | some v => wpAny (model prog w) A (letOwnedTupleGo target it v) (fun _ s₂ => wpAny (model prog w) A (assign target env v) (fun _ s₃ =>
          wpAny (model prog w) A (forIn ifs true fun c r => if r = true then do let ok <- isTrue c env (eval c env); pure (ForInStep.yield ok) else pure (ForInStep.yield r)) (fun ok s₄ =>
            if ok = true then wpAny (model prog w) A (eval elt env) (fun x s₅ =>
              wpAny (model prog w) A (call (.builtin "list.append") [acc, x]) (fun _ s₆ => ∃ m, m < n /\ I m s₆) (fun _ _ => False) s₅) (fun _ _ => False) s₄
            else ∃ m, m < n /\ I m s₄) (fun _ _ => False) s₃) (fun _ _ => False) s₂) (fun _ _ => False) s₁) (fun _ _ => False) s)
    (n : Nat) (h : I n s) : codeAny (model prog w) A (.compLoop (.ListComp elt [⟨target, iter, ifs, 0⟩] scope pos) 0 it acc env) R s := by
  refine codeAny_loop rfl I (fun n s hI => ?_) n h
  show wpAny _ A ((compTurn (.ListComp elt [⟨target, iter, ifs, 0⟩] scope pos) 0 it acc env).onRaise (fun x => do noteFrame x env; theTreesLotGoes x)) _ _ s
  refine wpAny_noted ?_
  rw [compTurn_list]
  refine wpAny_bind (wpAny_standAt (wpAny_bind (wH (turn n s hI) fun r s₁ h₁ => ?_)))
  cases r with
  | none => exact wpAny_pure h₁
  | some v =>
    refine wpAny_bind (wH h₁ fun _ s₂ h₂ => ?_)
    refine wpAny_bind (wH h₂ fun _ s₃ h₃ => wpAny_bind (wH h₃ fun ok s₄ h₄ => ?_))
    cases ok with
    | false => exact wpAny_pure ⟨rfl, h₄⟩
    | true =>
      exact wpAny_bind (wpAny_bind (wH h₄ fun x s₅ h₅ => wpAny_bind (wH h₅ fun _ s₆ h₆ => wpAny_pure (wpAny_pure ⟨rfl, h₆⟩))))
end
def closL (env : Env) : List (Str × NameKind) -> List (Str × Addr) -> List (Str × Addr)
  | [], acc => acc
  | (n, k) :: r, acc => if k == .free then closL env r ((n, (env.cells.lookup n).getD 0) :: acc) else closL env r acc
theorem closureFor_eq {scope : Scope} {env : Env} (h : ∀ y ∈ scope.names, y.2 = .free -> ∃ c, env.cells.lookup y.1 = some c) : closureFor scope env = pure (closL env scope.names []) := by
  unfold closureFor
  generalize scope.names = l at h
  have go : ∀ (l : List (Str × NameKind)) (acc : List (Str × Addr)), (∀ y ∈ l, y.2 = .free -> ∃ c, env.cells.lookup y.1 = some c) ->
     (forIn l acc (fun (x : Str × NameKind) (r : List (Str × Addr)) => match x with
        | (name, kind) => if (kind == NameKind.free) = true then (do let __do_lift <- cellOf env name; pure (ForInStep.yield ((name, __do_lift) :: r))) else pure (ForInStep.yield r)) : Sem (List (Str × Addr))) = pure (closL env l acc) := by
    intro l
    induction l with
    | nil => intro acc _; rfl
    | cons x r ih =>
      intro acc hl
      obtain ⟨n, k⟩ := x
      rw [List.forIn_cons]
      unfold closL
      by_cases hk : (k == NameKind.free) = true
      · obtain ⟨c, hc⟩ := hl (n, k) List.mem_cons_self (eq_of_beq hk)
        simp only [hk, if_true]
        have hc' : env.cells.lookup n = some c := hc
        unfold cellOf
        rw [hc']
        exact ih _ fun y hy => hl y (List.mem_cons_of_mem _ hy)
      · simp only [hk, if_false]
        exact ih _ fun y hy => hl y (List.mem_cons_of_mem _ hy)
  have e := go l [] h
  simp only [bind_pure]
  exact e
theorem closL_val {env : Env} : ∀ (l : List (Str × NameKind)) (acc : List (Str × Addr)), (∀ x c, acc.lookup x = some c -> (env.cells.lookup x).getD 0 = c) -> ∀ x c, (closL env l acc).lookup x = some c -> (env.cells.lookup x).getD 0 = c
  | [], _, h, x, c, e => h x c e
  | (n, k) :: r, acc, h, x, c, e => by
    unfold closL at e
    by_cases hk : (k == NameKind.free) = true
    · rw [if_pos hk] at e
      refine closL_val r _ (fun y d q => ?_) x c e
      cases hy : y == n with
      | true =>
        rw [List.lookup_cons, hy] at q
        cases q
        rw [eq_of_beq hy]
      | false =>
        rw [List.lookup_cons, hy] at q
        exact h y d q
    · rw [if_neg hk] at e
      exact closL_val r acc h x c e
theorem closL_name {env : Env} : ∀ (l : List (Str × NameKind)) (acc : List (Str × Addr)) (x : Str) (c : Addr), (closL env l acc).lookup x = some c -> (acc.lookup x).isSome = true \/ (x, NameKind.free) ∈ l
  | [], _, x, c, e => .inl (by unfold closL at e; rw [e]; rfl)
  | (n, k) :: r, acc, x, c, e => by
    unfold closL at e
    by_cases hk : (k == NameKind.free) = true
    · rw [if_pos hk] at e
      rcases closL_name r _ x c e with h | h
      · cases hy : x == n with
        | true =>
          have e1 := eq_of_beq hy
          have e2 := eq_of_beq hk
          subst e1; subst e2
          exact .inr List.mem_cons_self
        | false =>
          rw [List.lookup_cons, hy] at h
          exact .inl h
      · exact .inr (List.mem_cons_of_mem _ h)
    · rw [if_neg hk] at e
      rcases closL_name r _ x c e with h | h
      · exact .inl h
      · exact .inr (List.mem_cons_of_mem _ h)
theorem closL_has {env : Env} : ∀ (l : List (Str × NameKind)) (acc : List (Str × Addr)) (x : Str), ((acc.lookup x).isSome = true \/ (x, NameKind.free) ∈ l) -> ((closL env l acc).lookup x).isSome = true
  | [], _, x, h => by
    rcases h with h | h
    · exact h
    · cases h
  | (n, k) :: r, acc, x, h => by
    unfold closL
    by_cases hk : (k == NameKind.free) = true
    · rw [if_pos hk]
      refine closL_has r _ x ?_
      rcases h with h | h
      · refine .inl ?_
        rw [List.lookup_cons]
        cases hy : x == n with
        | true => rfl
        | false => exact h
      · rcases List.mem_cons.mp h with h | h
        · cases h
          refine .inl ?_
          rw [List.lookup_cons, beq_self_eq_true]
          rfl
        · exact .inr h
    · rw [if_neg hk]
      refine closL_has r _ x ?_
      rcases h with h | h
      · exact .inl h
      · rcases List.mem_cons.mp h with h | h
        · cases h
          exact absurd rfl hk
        · exact .inr h
theorem relabel_free {env : Env} : ∀ {names : List (Str × NameKind)} {x : Str}, names.lookup x = some .free ->
    (names.map fun (n, k) => if (k == NameKind.free && env.scope.kind == .function && env.kindOf n == some .cell) then (n, NameKind.cell) else (n, k)).lookup x = some .cell \/
    (names.map fun (n, k) => if (k == NameKind.free && env.scope.kind == .function && env.kindOf n == some .cell) then (n, NameKind.cell) else (n, k)).lookup x = some .free
  | [], _, h => by simp at h
  | (n, k) :: r, x, h => by
    have ih := @relabel_free env r x
    show List.lookup x ((if (k == NameKind.free && env.scope.kind == .function && env.kindOf n == some .cell) = true then (n, NameKind.cell) else (n, k)) :: _) = _ \/ List.lookup x ((if (k == NameKind.free && env.scope.kind == .function && env.kindOf n == some .cell) = true then (n, NameKind.cell) else (n, k)) :: _) = _
    cases hx : x == n with
    | true =>
      simp only [List.lookup_cons, hx] at h
      cases h
      by_cases hc : (NameKind.free == NameKind.free && env.scope.kind == .function && env.kindOf n == some .cell) = true
      · rw [if_pos hc]; left; simp only [List.lookup_cons, hx]
      · rw [if_neg hc]; right; simp only [List.lookup_cons, hx]
    | false =>
      simp only [List.lookup_cons, hx] at h
      by_cases hc : (k == NameKind.free && env.scope.kind == .function && env.kindOf n == some .cell) = true
      · rw [if_pos hc]; simp only [List.lookup_cons, hx]; exact ih h
      · rw [if_neg hc]; simp only [List.lookup_cons, hx]; exact ih h
theorem uS {env : Env} : ∀ {names : List (Str × NameKind)} {x : Str} {k : NameKind}, (k = .cell \/ k = .free) ->
    (names.map fun (n, k) => if (k == NameKind.free && env.scope.kind == .function && env.kindOf n == some .cell) then (n, NameKind.cell) else (n, k)).lookup x = some k -> (x, NameKind.free) ∈ names \/ (x, NameKind.cell) ∈ names
  | [], _, _, _, h => by simp at h
  | (n, k') :: r, x, k, hk, h => by
    have ih := @uS env r x k hk
    have h' : List.lookup x ((if (k' == NameKind.free && env.scope.kind == .function && env.kindOf n == some .cell) = true then (n, NameKind.cell) else (n, k')) :: (r.map fun (n, k) => if (k == NameKind.free && env.scope.kind == .function && env.kindOf n == some .cell) then (n, NameKind.cell) else (n, k))) = some k := h
    cases hx : x == n with
    | true =>
      have e := eq_of_beq hx
      subst e
      by_cases hd : (k' == NameKind.free && env.scope.kind == .function && env.kindOf x == some .cell) = true
      · have e2 : k' = .free := by
          rw [Bool.and_eq_true, Bool.and_eq_true] at hd
          exact eq_of_beq hd.1.1
        subst e2
        exact .inl List.mem_cons_self
      · rw [if_neg hd] at h'
        simp only [List.lookup_cons, hx] at h'
        cases h'
        rcases hk with e | e
        · subst e; exact .inr List.mem_cons_self
        · subst e; exact .inl List.mem_cons_self
    | false =>
      have g : (x, NameKind.free) ∈ r \/ (x, NameKind.cell) ∈ r := by
        refine ih ?_
        by_cases hd : (k' == NameKind.free && env.scope.kind == .function && env.kindOf n == some .cell) = true
        · rw [if_pos hd] at h'; simp only [List.lookup_cons, hx] at h'; exact h'
        · rw [if_neg hd] at h'; simp only [List.lookup_cons, hx] at h'; exact h'
      rcases g with g | g
      · exact .inl (List.mem_cons_of_mem _ g)
      · exact .inr (List.mem_cons_of_mem _ g)
theorem xD : ∀ (l : List (Str × NameKind)) (n : Nat) (acc : List (Str × Addr)), cellsFrom n l acc = cellsFrom n l [] ++ acc
  | [], _, _ => rfl
  | (x, k) :: r, n, acc => by
    unfold cellsFrom
    split
    · rw [xD r (n + 1) ((x, n) :: acc), xD r (n + 1) [(x, n)]]; simp
    · exact xD r n acc
theorem vG : ∀ (l : List (Str × NameKind)) (n : Nat) (x : Str) (c : Addr), (x, c) ∈ cellsFrom n l [] -> (x, NameKind.cell) ∈ l
  | [], _, _, _, h => by cases h
  | (y, k) :: r, n, x, c, h => by
    unfold cellsFrom at h
    split at h
    · rename_i hk
      rw [xD] at h
      rcases List.mem_append.mp h with h | h
      · exact List.mem_cons_of_mem _ (vG r _ x c h)
      · have e : (x, c) = (y, n) := by simpa using h
        cases e
        rw [eq_of_beq hk]
        exact List.mem_cons_self
    · exact List.mem_cons_of_mem _ (vG r _ x c h)
theorem wpAny_newCompEnv {M : Model} {A : Around} {E : Value -> Shared -> Prop} {s : Shared} {scope : Scope} {globals : Addr} {closure : List (Str × Addr)} {qual : Str} {outer : Env} {Q : Env -> Shared -> Prop}
    (hQ : ∀ h', h'.Ns s.heap.objs.size (fun _ => none) -> (∀ b o, s.heap.get? b = some o -> h'.get? b = some o) -> CellsOk h' (s.heap.objs.size + 1) (cellsFrom (s.heap.objs.size + 1) scope.names []) ->
      Q (newEnv scope s.heap.objs.size globals (cellsFrom (s.heap.objs.size + 1) scope.names closure) qual none .none (some outer) builtinsNs) { s with heap := h' }) :
    wpAny M A (newFunctionEnv scope globals closure [] qual none .none (some outer)) Q E s := by
  simp only [newFunctionEnv, Option.isSome_some, if_true]
  refine wpAny_bind (wpAny_alloc ?_)
  refine wpAny_bind (wpAny_layCells _ (fun name kind cells => by cases hkc : kind == NameKind.cell <;> simp [hkc]) _ _ _ _ ?_)
  have ok := cellsFrom_ok scope.names (s.heap.push { cls := .type "dict", data := .dict #[] }) (s.heap.objs.size + 1) [] ⟨fun _ _ hm => (nomatch hm), List.Pairwise.nil⟩ (by rw [Heap.size_push]; exact Nat.le_refl _)
  rw [Heap.size_push] at ok
  rw [show ({ s with heap := s.heap.push { cls := .type "dict", data := .dict #[] } } : Shared).heap.objs.size = s.heap.objs.size + 1 from Heap.size_push ..]
  refine wpAny_bind ?_
  rw [List.forIn_nil]
  exact wpAny_pure (wpAny_pure (hQ _ ((Heap.Ns.new s.heap (.type "dict")).keeps (pushCells_keeps _ _)) (fun b o e => pushCells_keeps _ _ b o (Heap.get?_push_of_some _ e)) ok))
end L2
namespace L2
open PySem PySem.Spec PyProof.Rows
theorem HOk.track {P : Program} {w : World} {H : Hp} {h : Heap} {a : Addr} {o : HO} (x : HOk P w H h) (hn : H a = none) (new : ObjOk P w (upd H a o) h a o) : HOk P w (upd H a o) h := fun b u e => by
  by_cases hb : b = a
  · subst hb; rw [zR] at e; cases e; exact new
  · rw [zQ hb] at e
    exact (x b u e).stay (fun c v _ q => q) (fun c q => by rw [zQ (zP q hn)]; exact q) fun c xs q => by rw [zQ (zP q hn)]; exact q
theorem Un.track {fs ex : List Addr} {H H' : Hp} {h h' : Heap} {a : Addr} {o : HO} (u : Un fs ex H H' h h') (h0 : h.get? a = none) (hn : H a = none) : Un fs ex H (upd H' a o) h h' where
  keep := u.keep
  slot := u.slot
  free := fun b ob q n hx => by
    rw [zQ (fun z => by rw [z, h0] at q; cases q)]; exact u.free b ob q n hx
  there := u.there
  tups := fun b xs q => by rw [zQ (zP q hn)]; exact u.tups b xs q
  frzs := fun b ob xs q => by rw [zQ (zP q hn)]; exact u.frzs b ob xs q
  tbls := fun b ps q => by rw [zQ (zP q hn)]; exact u.tbls b ps q
def nIn (N : List Str) (own : List Str) (ix : List Nat) : List Str := own ++ ix.map fun j => N.getD j Str.empty
def σIn (σ : St) (n : Nat) (ix : List Nat) : St := List.replicate n none ++ ix.map fun j => (σ[j]?).getD none
def cxIn (X : Cx) (scope : Scope) (own : List Str) (ix : List Nat) (C : Addr) (s : Shared) (H : Hp) (fp : List Addr) : Cx :=
  { X with N := nIn X.N own ix, s₀ := s, H₀ := H, env := compEnvC scope (cellsFrom (C + 1) scope.names (closL X.env scope.names [])) C X.env, outer := X.stack, stack := X.stack, ex := fp, fn := fun x => scope.names.lookup x == some .cell, pn := [] }
def compOk (osc : Scope) (oN : List Str) (scope : Scope) (ix : List Nat) : Bool :=
  scope.kind == .function &&
  (scope.names.all fun y => (y.2 != .cell || scope.names.lookup y.1 == some .cell) && (y.2 != .local || scope.names.lookup y.1 == some .local) && (y.2 != .free || (osc.names.lookup y.1 == some .cell || osc.names.lookup y.1 == some .free))) &&
  ix.all fun j => match oN[j]? with
    | some x => scope.names.lookup x == some .free
    | none => false
structure CompSc (osc : Scope) (oN : List Str) (scope : Scope) (ix : List Nat) : Prop where
  kind : scope.kind = .function
  clk : ∀ y ∈ scope.names, y.2 = .cell -> scope.names.lookup y.1 = some .cell
  nm : ∀ y ∈ scope.names, y.2 = .local -> scope.names.lookup y.1 = some .local
  fr : ∀ y ∈ scope.names, y.2 = .free -> osc.names.lookup y.1 = some .cell \/ osc.names.lookup y.1 = some .free
  ix : ∀ j ∈ ix, ∃ x, oN[j]? = some x /\ scope.names.lookup x = some .free
theorem compSc_of {osc : Scope} {oN : List Str} {scope : Scope} {ix : List Nat} (h : compOk osc oN scope ix = true) : CompSc osc oN scope ix := by
  unfold compOk at h
  rw [Bool.and_eq_true, Bool.and_eq_true, List.all_eq_true, List.all_eq_true] at h
  obtain ⟨⟨h1, h2⟩, h3⟩ := h
  refine ⟨eq_of_beq h1, fun y hy e => ?_, fun y hy e => ?_, fun y hy e => ?_, fun j hj => ?_⟩
  · have q := h2 y hy
    rw [Bool.and_eq_true, Bool.and_eq_true] at q
    rcases Bool.or_eq_true _ _ ▸ q.1.1 with z | z
    · exact absurd e (bne_iff_ne.mp z)
    · exact eq_of_beq z
  · have q := h2 y hy
    rw [Bool.and_eq_true, Bool.and_eq_true] at q
    rcases Bool.or_eq_true _ _ ▸ q.1.2 with z | z
    · exact absurd e (bne_iff_ne.mp z)
    · exact eq_of_beq z
  · have q := h2 y hy
    rw [Bool.and_eq_true, Bool.and_eq_true] at q
    rcases Bool.or_eq_true _ _ ▸ q.2 with z | z
    · exact absurd e (bne_iff_ne.mp z)
    · rcases Bool.or_eq_true _ _ ▸ z with z | z
      · exact .inl (eq_of_beq z)
      · exact .inr (eq_of_beq z)
  · have q := h3 j hj
    cases e : oN[j]? with
    | none => rw [e] at q; cases q
    | some x => rw [e] at q; exact ⟨x, rfl, eq_of_beq q⟩
section
variable {X : Cx} {pins : List (Addr × Obj)} {σ : St} {H : Hp} {s : Shared} {scope : Scope} {own : List Str} {ix : List Nat}
theorem clos_cells (I : Inv X pins σ H s) (sc : CompSc X.env.scope X.N scope ix) : ∀ y ∈ scope.names, y.2 = .free -> ∃ c, X.env.cells.lookup y.1 = some c := fun y hy e => by
  rcases sc.fr y hy e with q | q
  · exact I.ok.has y.1 (.inl q)
  · exact I.ok.has y.1 (.inr q)
theorem clos_get (I : Inv X pins σ H s) (sc : CompSc X.env.scope X.N scope ix) {x : Str} {c : Addr} (e : (closL X.env scope.names []).lookup x = some c) : X.env.cells.lookup x = some c := by
  have h1 := closL_val (env := X.env) scope.names [] (fun x c q => by simp at q) x c e
  rcases closL_name (env := X.env) scope.names [] x c e with q | q
  · simp at q
  · obtain ⟨c', hc⟩ := clos_cells I sc (x, .free) q rfl
    have hc' : X.env.cells.lookup x = some c' := hc
    rw [hc'] at h1
    rw [hc']
    exact congrArg some h1
theorem clos_has (I : Inv X pins σ H s) (sc : CompSc X.env.scope X.N scope ix) {x : Str} {c : Addr} (hx : (x, NameKind.free) ∈ scope.names) (e : X.env.cells.lookup x = some c) : (closL X.env scope.names []).lookup x = some c := by
  have h1 := closL_has (env := X.env) scope.names [] x (.inr hx)
  obtain ⟨c', hc⟩ := Option.isSome_iff_exists.mp h1
  rw [hc]
  have := clos_get I sc hc
  rw [e] at this
  exact this.symm
theorem wV {C : Addr} (I : Inv X pins σ H s) (sc : CompSc X.env.scope X.N scope ix) {x : Str} {c : Addr} (e : (cellsFrom (C + 1) scope.names (closL X.env scope.names [])).lookup x = some c) : (x, c) ∈ cellsFrom (C + 1) scope.names [] \/ X.env.cells.lookup x = some c := by
  rw [xD, List.lookup_append] at e
  cases h : (cellsFrom (C + 1) scope.names []).lookup x with
  | some d => rw [h] at e; cases e; exact .inl (PySem.mem_of_lookup h)
  | none => rw [h] at e; exact .inr (clos_get I sc e)
theorem σIn_get {n : Nat} {i : Nat} {v : V} (h : (σIn σ n ix)[i]? = some (some v)) : ∃ j, ix[i - n]? = some j /\ σ[j]? = some (some v) /\ n <= i := by
  unfold σIn at h
  by_cases hi : i < n
  · rw [List.getElem?_append_left (by simpa using hi), List.getElem?_replicate] at h
    rw [if_pos hi] at h
    cases h
  · rw [List.getElem?_append_right (by simpa using hi), List.length_replicate, List.getElem?_map] at h
    cases e : ix[i - n]? with
    | none => rw [e] at h; cases h
    | some j =>
      rw [e] at h
      have h' : (σ[j]?).getD none = some v := Option.some.inj h
      refine ⟨j, rfl, ?_, by omega⟩
      cases e2 : σ[j]? with
      | none => rw [e2] at h'; cases h'
      | some o => rw [e2] at h'; exact congrArg some h'
theorem Inv.comp {m₀ : Str -> Option Value} {C : Addr} {h₁ : Heap} {fp : List Addr} {t' : Nat} (I : Inv X pins σ H s) (sc : CompSc X.env.scope X.N scope ix) (fo : ∀ b ∈ fp, FpOk X pins H b) (fex : ∀ b ∈ fp, b < s.heap.objs.size)
    (hC : s.heap.objs.size <= C) (hns : h₁.Ns C m₀) (hk : ∀ b o, s.heap.get? b = some o -> h₁.get? b = some o) (co : CellsOk h₁ (C + 1) (cellsFrom (C + 1) scope.names [])) : Inv (cxIn X scope own ix C s H fp) [] (σIn σ own.length ix) H { s with heap := h₁, toks := t' } := by
  have lt : ∀ {b : Addr}, b < s.heap.objs.size -> b ≠ C := fun {b} hb => Nat.ne_of_lt (Nat.lt_of_lt_of_le hb hC)
  have oldC : ∀ {x : Str} {c : Addr}, X.env.cells.lookup x = some c -> c < C + 1 := fun {x c} e => by
    obtain ⟨v, q⟩ := I.cell x c e
    exact Nat.lt_succ_of_lt (Nat.lt_of_lt_of_le q.lt hC)
  have cellK : ∀ {x : Str} {c : Addr}, X.env.cells.lookup x = some c -> ∀ v, s.heap.IsCell c v -> h₁.IsCell c v := fun {x c} _ v ⟨o, ho, hd⟩ => ⟨o, hk _ _ ho, hd⟩
  refine ⟨⟨I.ok.mod, sc.kind, I.ok.glob, I.ok.blt, hC, fun x y c h1 h2 => ?_, fun x hx => ?_, fun x c h e => by
    have h' : scope.names.lookup x = some .cell := eq_of_beq h
    have e' : (cellsFrom (C + 1) scope.names (closL X.env scope.names [])).lookup x = some c := e
    rw [xD, List.lookup_append] at e'
    obtain ⟨d, hd⟩ := Option.isSome_iff_exists.mp (cellsFrom_some scope.names (C + 1) [] (.inl h'))
    rw [hd] at e'
    cases e'
    exact Nat.le_trans hC (Nat.le_of_succ_le (co.empty _ _ (PySem.mem_of_lookup hd)).2), I.ok.hd, I.ok.frames, .inl rfl, fun b hb => ?_, I.bs, Nat.le_trans I.ok.bsz I.sz, fun b o e hb => ?_, fun b hb z => ?_, I.stack, I.stkFree⟩,
    rfl, I.bare, Un.kept hk, ⟨m₀, hns, fun i x v h1 h2 h3 => ?_⟩, fun x c h => ?_, I.hok.fresh hC, fun x c h => ?_, fun p hp => ?_, I.hok.kept hk, ?_⟩
  · rcases wV I sc h1 with q1 | q1
    · rcases wV I sc h2 with q2 | q2
      · exact name_of_addr co.apart q1 q2
      · exact absurd (Nat.lt_of_lt_of_le (oldC q2) (co.empty _ _ q1).2) (Nat.lt_irrefl _)
    · rcases wV I sc h2 with q2 | q2
      · exact absurd (Nat.lt_of_lt_of_le (oldC q1) (co.empty _ _ q2).2) (Nat.lt_irrefl _)
      · exact I.ok.inj x y c q1 q2
  · have hm : (x, NameKind.free) ∈ scope.names \/ (x, NameKind.cell) ∈ scope.names := by
      rcases hx with hx | hx
      · exact uS (env := X.env) (.inl rfl) hx
      · exact uS (env := X.env) (.inr rfl) hx
    refine Option.isSome_iff_exists.mp ?_
    show ((cellsFrom (C + 1) scope.names (closL X.env scope.names [])).lookup x).isSome = true
    rcases hm with hm | hm
    · exact cellsFrom_some _ _ _ (.inr (closL_has (env := X.env) scope.names [] x (.inr hm)))
    · exact cellsFrom_some _ _ _ (.inl (sc.clk _ hm rfl))
  · obtain ⟨f0, f1, f2, f3, f4, f5⟩ := fo b hb
    refine ⟨lt (fex b hb), fun x c h => ?_⟩
    rcases wV I sc h with q | q
    · exact fun z => absurd (Nat.lt_of_lt_of_le (fex b hb) (Nat.le_trans hC (Nat.le_of_succ_le (z ▸ (co.empty _ _ q).2)))) (Nat.lt_irrefl _)
    · exact f4 x c q
  · obtain ⟨f0, f1, f2, f3, f4, f5⟩ := fo b hb
    rcases f3 with z | z
    · exact I.ok.noex b o e z
    · exact absurd (Nat.lt_of_lt_of_le (Heap.lt_size e) (Nat.le_trans I.ok.bsz z)) (Nat.lt_irrefl _)
  · obtain ⟨f0, f1, f2, f3, f4, f5⟩ := fo b hb
    rcases List.mem_cons.mp (I.stkSub b z) with z | z
    · exact f1 z
    · exact f2 z
  · obtain ⟨j, hj, hv, hn⟩ := σIn_get h2
    obtain ⟨y, hy, hf⟩ := sc.ix j (List.mem_of_getElem? hj)
    have e : y = x := by
      have h1' : (nIn X.N own ix)[i]? = some x := h1
      unfold nIn at h1'
      rw [List.getElem?_append_right hn, List.getElem?_map, hj] at h1'
      have h1'' : X.N.getD j Str.empty = x := Option.some.inj h1'
      rw [List.getD_eq_getElem?_getD, hy] at h1''
      exact h1''
    subst e
    have hm : (y, NameKind.free) ∈ scope.names := PySem.mem_of_lookup hf
    have vis : Vis X.env.scope y := by
      rcases sc.fr _ hm rfl with q | q
      · exact .inr (.inl q)
      · exact .inr (.inr q)
    obtain ⟨m, _, hl⟩ := I.loc
    obtain ⟨u, r, l⟩ := hl j y v hy hv vis
    refine ⟨u, r, ?_⟩
    rcases l with ⟨hk', _⟩ | ⟨_, c, hc, hcell⟩
    · have hk'' : X.env.scope.names.lookup y = some .local := hk'
      rcases sc.fr _ hm rfl with q | q
      · have q' : X.env.scope.names.lookup y = some .cell := q
        rw [hk''] at q'; cases q'
      · have q' : X.env.scope.names.lookup y = some .free := q
        rw [hk''] at q'; cases q'
    · refine .inr ⟨relabel_free (env := X.env) hf, c, ?_, cellK hc _ hcell⟩
      show (cellsFrom (C + 1) scope.names (closL X.env scope.names [])).lookup y = some c
      rw [xD, List.lookup_append, clos_has I sc hm hc]
      cases e : (cellsFrom (C + 1) scope.names []).lookup y with
      | none => rfl
      | some d =>
        have q := sc.clk _ (vG _ _ _ _ (PySem.mem_of_lookup e)) rfl
        have q' : scope.names.lookup y = some .cell := q
        rw [hf] at q'; cases q'
  · rcases wV I sc h with q | q
    · exact ⟨_, (co.empty _ _ q).1⟩
    · obtain ⟨v, z⟩ := I.cell x c q
      exact ⟨v, cellK q v z⟩
  · rcases wV I sc h with q | q
    · exact I.hok.fresh (Nat.le_trans hC (Nat.le_of_succ_le (co.empty _ _ q).2))
    · exact I.freeC x c q
  · exact absurd (show p ∈ ([] : List (Addr × Obj)) from hp) (by simp)
  · show (σIn σ own.length ix).length = (nIn X.N own ix).length
    unfold σIn nIn
    simp
end
def PIfs (X : Cx) (ifs : List Expr) (t : TT) : Prop :=
  ∀ (pins : List (Addr × Obj)) (s : Shared) (σ : St) (H : Hp) (Q : Bool -> Hp -> Prop), Inv X pins σ H s -> t σ H Q ->
    wpAny (model X.prog X.w) X.A (forIn ifs true fun c r => if r = true then do let ok <- isTrue c X.env (eval c X.env); pure (ForInStep.yield ok) else pure (ForInStep.yield r)) (TP X pins σ Q) X.xe s
def tIf0 : TT := fun _ H Q => Q true H
theorem vA {X : Cx} : PIfs X [] tIf0 := fun _ _ _ H _ I h => wpAny_tests_nil ⟨H, I, h⟩
theorem pif_one {X : Cx} {c : Expr} {t : TT} (h : PT X c t) : PIfs X [c] t := fun pins s σ H Q I q => wpAny_tests_one (h pins s σ H Q I q)
def rComp (n : Nat) (ix : List Nat) (g : TG) (tc : TT) (te : TE) (σ : St) (Q : VK) (J : It) (H1 : Hp) : Prop :=
  ∃ W : Nat -> Nat -> List V -> St -> Hp -> Prop, (∃ m, W 0 m [] (σIn σ n ix) H1) /\ ∀ i m ys σ2 H2, W i m ys σ2 H2 ->
    (J.stop i H2 /\ ys.length <= sizeLine /\ ∀ p, H2 p = none -> Q (.ref p) (upd H2 p (.lst ys))) \/
    (J.go i H2 /\ ys.length < sizeLine /\ ∃ N : List V -> St -> Hp -> Prop, (∀ ys' σ' H', N ys' σ' H' -> ∃ m', m' < m /\ W (i + 1) m' ys' σ' H') /\
      ∀ x H3, J.yld i H2 x H3 -> g x σ2 H3 fun σ4 H4 => tc σ4 H4 fun b H5 => if b = true then te σ4 H5 fun y H6 => N (ys ++ [y]) σ4 H6 else N ys σ4 H5)
def tComp (n : Nat) (ix : List Nat) (wi : TI) (g : TG) (tc : TT) (te : TE) : TE := fun σ H Q => wi σ H (rComp n ix g tc te σ Q)
def BEnd (X : Cx) (pins : List (Addr × Obj)) (σ : St) (Q : VK) (acc : Value) (C : Addr) (s' : Shared) : Prop :=
  ∃ p H', acc = .ref p /\ Inv X pins σ H' s' /\ (∃ m, s'.heap.Ns C m) /\ FpOk X pins H' C /\ Q (.ref p) H'
theorem thx {X : Cx} {α : Type} {M : Model} {A : Around} {t : Sem α} {Q Q' : α -> Shared -> Prop} {E : Value -> Shared -> Prop} {s : Shared} (hx : X.xe = fun _ _ => False) (h : wpAny M A t Q X.xe s) (hQ : ∀ a s, Q a s -> Q' a s) : wpAny M A t Q' E s :=
  wpAny_mono h hQ fun e s' z => by rw [hx] at z; exact z.elim
section
variable {X : Cx} {elt tg iter : Expr} {ifs : List Expr} {scope : Scope} {pos : Pos} {own : List Str} {ix : List Nat} {wi : TI} {g : TG} {tc : TT} {te : TE}
theorem comp_block {pins : List (Addr × Obj)} {σ : St} {H : Hp} {s : Shared} {Q : VK} {it : Addr} {fp : List Addr} {tn : Nat -> Heap -> Prop} {J : It} {E : Value -> Shared -> Prop} {RR : Value -> Addr -> Result -> Shared -> Prop}
    (hx : X.xe = fun _ _ => False) (hc : X.calm = true) (sc : CompSc X.env.scope X.N scope ix) (I : Inv X pins σ H s) (T : Turn X.prog X.w X.K tg J fp it tn) (st : tn 0 s.heap) (fo : ∀ b ∈ fp, FpOk X pins H b)
    (hg : ∀ C s H fp, PG (cxIn X scope own ix C s H fp) tg g) (hif : ∀ C s H fp, PIfs (cxIn X scope own ix C s H fp) ifs tc) (he : ∀ C s H fp, PE (cxIn X scope own ix C s H fp) elt te)
    (rd : rComp own.length ix g tc te σ Q J H) (hRR : ∀ acc C s', BEnd X pins σ Q acc C s' -> RR acc C (.ok .next) s') :
    wpAny (model X.prog X.w) X.A (newList []) (fun acc s₃ => wpAny (model X.prog X.w) X.A (newFunctionEnv scope X.env.globals (closL X.env scope.names []) [] X.env.qual none .none (some X.env)) (fun cenv s₄ =>
      codeAny (model X.prog X.w) X.A (.compStart (.ListComp elt [⟨tg, iter, ifs, 0⟩] scope pos) 0 (.ref it) acc { cenv with scope := relabel scope X.env }) (RR acc cenv.locals) s₄) E s₃) E s := by
  refine wpAny_newObj_type (wpAny_newCompEnv (fun h₁ hns₁ hsb₁ co => ?_))
  dsimp only at hns₁ hsb₁ co ⊢
  generalize hD' : s.heap.objs.size = D at hns₁ hsb₁ co ⊢
  generalize hH2 : s.heap.push { cls := .type "list", dict := none, data := .seq ([] : List Value).toArray } = G at hns₁ hsb₁ co ⊢
  generalize hC' : G.objs.size = C at hns₁ hsb₁ co ⊢
  have hC : C = D + 1 := by rw [<- hC', <- hH2, Heap.size_push, hD']
  have hDC : D ≠ C := by rw [hC]; exact Nat.ne_of_lt (Nat.lt_succ_self _)
  have hle : s.heap.objs.size <= C := by rw [hC, hD']; exact Nat.le_succ _
  have old : ∀ b o, s.heap.get? b = some o -> h₁.get? b = some o := fun b o e => by
    exact hsb₁ b o (hH2 ▸ Heap.get?_push_of_some _ e)
  have oD : h₁.get? D = some { cls := .type "list", data := .seq ([] : List Value).toArray 0 } := by
    refine hsb₁ D _ ?_
    rw [<- hH2, <- hD']
    exact Heap.get?_push_size _ rfl
  have fex : ∀ b ∈ fp, b < s.heap.objs.size := fun b hb => by
    obtain ⟨o, e, _⟩ := T.obj 0 _ st b hb
    exact Heap.lt_size e
  have nDf : ∀ b ∈ fp, b ≠ D := fun b hb => by rw [<- hD']; exact Nat.ne_of_lt (fex b hb)
  have sD : s.heap.get? D = none := by
    cases e : s.heap.get? D with
    | none => rfl
    | some o => exact absurd (Heap.lt_size e) (by rw [hD']; exact Nat.lt_irrefl _)
  have hDn : H D = none := I.hok.fresh (by rw [hD']; exact Nat.le_refl _)
  have I0 : Inv (cxIn X scope own ix C s H fp) [] (σIn σ own.length ix) H { s with heap := h₁ } := I.comp sc fo fex hle hns₁ old co
  have st0 : tn 0 h₁ := T.keep 0 _ _ st fun b _ o e => old b o e
  have hx' : (cxIn X scope own ix C s H fp).xe = fun _ _ => False := hx
  have Dloc : D ≠ (cxIn X scope own ix C s H fp).env.locals := hDC
  have Dex : D ∈ (cxIn X scope own ix C s H fp).ex \/ (cxIn X scope own ix C s H fp).s₀.heap.objs.size <= D := .inr (by show s.heap.objs.size <= D; rw [hD']; exact Nat.le_refl _)
  have Dfs : D ∉ (cxIn X scope own ix C s H fp).fs := I0.nofs (a := D) |> fun k => fun z => by
    have z' : D ∈ frs X.stack := z
    rcases List.mem_cons.mp (I.stkSub D z') with q | q
    · exact absurd (q ▸ I.lt) (by rw [hD']; exact Nat.lt_irrefl _)
    · exact I.nofs (by rw [hD']; exact Nat.le_refl _) q
  have Dcell : ∀ x c, (cxIn X scope own ix C s H fp).env.cells.lookup x = some c -> c ≠ D := fun x c e z => by
    rcases wV I sc e with q | q
    · have w1 := (co.empty _ _ q).2
      rw [z, hC] at w1
      omega
    · obtain ⟨v, q⟩ := I.cell x c q
      exact absurd (Nat.lt_of_lt_of_le q.lt (by rw [z, hD']; exact Nat.le_refl _)) (Nat.lt_irrefl _)
  have fo' : ∀ {H' : Hp} {pl : List (Addr × Obj)}, (∀ b ∈ fp, H' b = none) -> (∀ p ∈ pl, p.1 = D) -> ∀ b ∈ fp, FpOk (cxIn X scope own ix C s H fp) pl H' b := fun {H' pl} hn hp b hb => by
    obtain ⟨f0, f1, f2, f3, f4, f5⟩ := fo b hb
    refine ⟨hn b hb, (I0.ok.exf b hb).1, I0.ok.exfs b hb, .inl hb, (I0.ok.exf b hb).2, fun p hp' z => ?_⟩
    rcases List.mem_append.mp hp' with q | q
    · exact absurd (show p ∈ ([] : List (Addr × Obj)) from q) (by simp)
    · exact nDf b hb (by rw [<- z]; exact hp p q)
  obtain ⟨W, ⟨m0, w0⟩, step⟩ := rd
  have loop : codeAny (model X.prog X.w) X.A (.compLoop (.ListComp elt [⟨tg, iter, ifs, 0⟩] scope pos) 0 (.ref it) (.ref D) (cxIn X scope own ix C s H fp).env) (RR (.ref D) C) { s with heap := h₁ } := by
    refine compLoop_gen (fun n s' => ∃ i ys σ' H' its k, Inv (cxIn X scope own ix C s H fp) [] σ' H' s' /\ tn i s'.heap /\ (∀ b ∈ fp, H' b = none) /\ H' D = none /\ s'.heap.get? D = some { cls := .type "list", data := .seq (List.toArray its) k } /\ Vals ys its /\ W i n ys σ' H') ?_ m0
      ⟨0, [], _, H, [], 0, I0, st0, fun b hb => (fo b hb).1, hDn, oD, .nil, w0⟩
    rintro n s1 ⟨i, ys, σ1, H1, its, k, I1, tn1, fr1, D1, o1, rv1, w1⟩
    have J1 : Inv (cxIn X scope own ix C s H fp) [(D, { cls := .type "list", data := .seq (List.toArray its) k })] σ1 H1 s1 := I1.pins_of fun p hp => by
      have e : p = (D, { cls := .type "list", data := .seq (List.toArray its) k }) := by simpa using hp
      subst e
      exact ⟨o1, D1, Dloc, Dfs, fun v z => by cases z⟩
    have single : ∀ p ∈ [((D, { cls := .type "list", data := .seq (List.toArray its) k }) : Addr × Obj)], p.1 = D := fun p hp => by
      have e : p = (D, { cls := .type "list", data := .seq (List.toArray its) k }) := by simpa using hp
      rw [e]
    rcases step i n ys σ1 H1 w1 with ⟨stop, hz, qn⟩ | ⟨go, hz, N, hN, stp⟩
    · refine thn (T.done (cxIn X scope own ix C s H fp) rfl rfl rfl hc i _ s1 σ1 H1 _ J1 (fo' fr1 single) tn1 stop) fun r s2 ⟨hr, I2⟩ => ?_
      subst hr
      obtain ⟨e2, _⟩ := I2.pin (D, { cls := .type "list", data := .seq (List.toArray its) k }) (List.mem_append_right _ (by simp))
      obtain ⟨m2, hns2, _⟩ := I2.loc
      refine hRR _ _ _ ⟨D, upd H1 D (.lst ys), rfl, ?_, ⟨m2, hns2⟩, ?_, qn D D1⟩
      · refine I.call' (ch := fp) I2.os (Un.track I2.base sD hDn) (I2.hok.track D1 ⟨hz, its, k, rv1, e2⟩) I2.bare fun b hb => ?_
        obtain ⟨f0, f1, f2, f3, f4, f5⟩ := fo b hb
        exact ⟨f3, f1, f4, f5⟩
      · refine I.fpOk hle ?_
        rw [zQ hDC.symm]
        exact I2.free
    · refine thn (T.item (cxIn X scope own ix C s H fp) rfl rfl rfl hc i _ s1 σ1 H1 _ J1 (fo' fr1 single) tn1 go) fun r s2 ⟨u, hr, h2⟩ => ?_
      subst hr
      refine thn h2 fun _ s3 ⟨x, H3, I3, rx, y3, tn3, fr3⟩ => ?_
      have I3' := I3.pinned (fo' fr3 single) (T.obj _ _ tn3)
      refine thx hx' (hg C s H fp _ s3 σ1 H3 x u _ I3' rx (stp x H3 y3)) fun _ s4 ⟨σ4, H4, I4, q4⟩ => ?_
      refine thx hx' (hif C s H fp _ s4 σ4 H4 _ I4 q4) fun b s5 ⟨H5, I5, q5⟩ => ?_
      have back : ∀ {σ7 : St} {H7 : Hp} {s7 : Shared}, Inv (cxIn X scope own ix C s H fp) ([(D, { cls := .type "list", data := .seq (List.toArray its) k })] ++ pinsAt fp s3.heap) σ7 H7 s7 ->
          tn (i + 1) s7.heap /\ (∀ b ∈ fp, H7 b = none) /\ H7 D = none /\ s7.heap.get? D = some { cls := .type "list", data := .seq (List.toArray its) k } := fun {σ7 H7 s7} I7 => by
        have pinD := I7.pin (D, { cls := .type "list", data := .seq (List.toArray its) k }) (List.mem_append_right _ (List.mem_append_left _ (by simp)))
        refine ⟨T.keep _ _ _ tn3 fun b hb o e => (I7.pin (b, o) (List.mem_append_right _ (List.mem_append_right _ (vO hb e)))).1, fun b hb => ?_, pinD.2.1, pinD.1⟩
        obtain ⟨o, e, d⟩ := T.obj _ _ tn3 b hb
        exact (I7.pin (b, o) (List.mem_append_right _ (List.mem_append_right _ (vO hb e)))).2.1
      cases b with
      | false =>
        obtain ⟨m', hm, w'⟩ := hN _ _ _ (show N ys σ4 H5 from q5)
        obtain ⟨b1, b2, b3, b4⟩ := back I5
        exact ⟨m', hm, i + 1, ys, σ4, H5, its, k, I5.pins_of (fun p hp => absurd hp (by simp)), b1, b2, b3, b4, rv1, w'⟩
      | true =>
        rw [if_pos rfl]
        refine thx hx' (he C s H fp _ s5 σ4 H5 _ I5 q5) fun v s6 ⟨y, H6, I6, ry, q6⟩ => ?_
        obtain ⟨m', hm, w'⟩ := hN _ _ _ q6
        obtain ⟨b1, b2, b3, b4⟩ := back I6
        have zl : its.length = ys.length := rv1.length.symm
        refine call_meets F.slot_list_append ⟨_, b4, rfl⟩ F.entry_list_append (F.args_list_append_2 _ _) (PySem.list_append D its.toArray k v (by rw [List.size_toArray]; omega)) ⟨b4, ?_⟩
        have q := PySem.IsL.update b4 (fun xs => xs.push v)
        have keep : ∀ b o, b ≠ D -> s6.heap.get? b = some o -> (s6.heap.update D (Obj.mapSeq fun xs => xs.push v)).get? b = some o := fun b o hb e => (Heap.get?_update_other s6.heap _ (Ne.symm hb)).trans e
        refine ⟨m', hm, i + 1, ys ++ [y], σ4, H6, its ++ [v], (if (its.toArray.push v).size == its.toArray.size then k else k + 1), ?_, T.keep _ _ _ b1 (fun b hb o e => keep b o (nDf b hb) e), b2, b3, ?_, rv1.append (.cons ry .nil), w'⟩
        · exact (I6.pins_of (pins' := []) fun p hp => absurd hp (by simp)).turned (t' := s6.toks) keep b3 Dloc Dex Dcell fun p hp => absurd (show p ∈ ([] : List (Addr × Obj)) from hp) (by simp)
        · rw [show (its ++ [v]).toArray = its.toArray.push v by simp]
          exact q
  exact codeAny_compStart_list loop (T.self X.A 0 _ _ _ st0 loop)
theorem vC (hx : X.xe = fun _ _ => False) (hc : X.calm = true) (ho : compOk X.env.scope X.N scope ix = true) (hi : PI X tg iter wi)
    (hg : ∀ C s H fp, PG (cxIn X scope own ix C s H fp) tg g) (hif : ∀ C s H fp, PIfs (cxIn X scope own ix C s H fp) ifs tc) (he : ∀ C s H fp, PE (cxIn X scope own ix C s H fp) elt te)
    (hs : ∀ x, foldedSetIterable iter X.env x = pure x := by intro _; rfl) : PE X (.ListComp elt [⟨tg, iter, ifs, 0⟩] scope pos) (tComp own.length ix wi g tc te) := by
  intro pins s σ H Q I h
  have sc := compSc_of ho
  rw [eval_ListComp]
  refine wpAny_comprehension_free (use := none) rfl hs (closureFor_eq (clos_cells I sc)) sc.kind sc.nm (thn (hi pins s σ H _ I h) fun v s1 h1 => thn h1 fun itv s2 h2 => ?_)
  obtain ⟨it, fp, tn, J, H2, e, I2, T, st2, f2, rd⟩ := h2
  subst e
  refine comp_block (RR := fun acc C => compPost (model X.prog X.w) X.A X.xe none (EP X pins σ Q) acc C) hx hc sc I2 T st2 f2 hg hif he rd ?_
  rintro acc C s' ⟨p, H', rfl, I', ⟨m, hns⟩, fC, q⟩
  obtain ⟨f0, f1, f2, f3, f4, f5⟩ := fC
  exact ⟨m, hns, fun h' hs' => ⟨.ref p, H', I'.turned (t' := s'.toks) (fun b o hb e => (hs'.2 b hb).trans e) f0 f1 f3 f4 f5, rfl, q⟩⟩
theorem ps_comp {i : Nat} {x : Str} {pos' spos : Pos} (hN : X.N.Nodup) (hi' : X.N[i]? = some x) (hxl : X.env.scope.names.lookup x = some .local) (hx : X.xe = fun _ _ => False) (hc : X.calm = true) (ho : compOk X.env.scope X.N scope ix = true) (hi : PI X tg iter wi)
    (hg : ∀ C s H fp, PG (cxIn X scope own ix C s H fp) tg g) (hif : ∀ C s H fp, PIfs (cxIn X scope own ix C s H fp) ifs tc) (he : ∀ C s H fp, PE (cxIn X scope own ix C s H fp) elt te)
    (hsw : swapsWith (.ListComp elt [⟨tg, iter, ifs, 0⟩] scope pos) (some (.Name x pos')) spos.line X.env = pure true := by rfl)
    (hs : ∀ x, foldedSetIterable iter X.env x = pure x := by intro _; rfl) : PS X (.Assign [.Name x pos'] (.ListComp elt [⟨tg, iter, ifs, 0⟩] scope pos) spos) (tAsg (tComp own.length ix wi g tc te) (gName i)) := by
  intro pins s σ H D I h
  have sc := compSc_of ho
  rw [exec_Assign_Name_used _ _ _ _ hsw]
  refine wpAny_bind (wpAny_standAt (wpAny_bind ?_))
  show wpAny _ X.A (do let _ <- comprehension (.ListComp elt [⟨tg, iter, ifs, 0⟩] scope pos) scope X.env _ (newList []) false (eval iter X.env) (some (assign (.Name x pos') X.env))) _ _ s
  refine wpAny_bind (wpAny_mono (wpAny_comprehension_free (use := some (assign (.Name x pos') X.env)) (Q := fun _ s' => SP X pins D .next s') rfl hs (closureFor_eq (clos_cells I sc)) sc.kind sc.nm
    (thn (hi pins s σ H _ I h) fun v s1 h1 => thn h1 fun itv s2 h2 => ?_)) (fun _ s' hq => wpAny_pure (wpAny_pure hq)) fun _ _ e => e)
  obtain ⟨it, fp, tn, J, H2, e, I2, T, st2, f2, rd⟩ := h2
  subst e
  refine comp_block (RR := fun acc C => compPost (model X.prog X.w) X.A X.xe (some (assign (.Name x pos') X.env)) (fun _ s' => SP X pins D .next s') acc C) hx hc sc I2 T st2 f2 hg hif he rd ?_
  rintro acc C s' ⟨p, H', rfl, I', ⟨m, hns⟩, fC, q⟩
  obtain ⟨f0, f1, f2, f3, f4, f5⟩ := fC
  show wpAny _ X.A (assign (.Name x pos') X.env (.ref p)) _ _ _
  refine wpAny_assign_Name (store_ok2 (v := .ref p) I' hN hi' (.inl hxl) rfl (fun s'' I'' ⟨a, hsa, ha⟩ => ?_) (.inr hxl))
  have haC : C ≠ a := by
    rcases ha with ha | ha
    · rw [ha]; exact f1
    · exact (f4 x a ha).symm
  exact ⟨m, hns.sameBut hsa haC, fun h' hs' => ⟨_, H', I''.turned (t' := s''.toks) (fun b o hb e => (hs'.2 b hb).trans e) f0 f1 f3 f4 f5, q⟩⟩
end
section
variable {n : Nat} {ix : List Nat} {g : TG} {tc : TT} {te : TE} {σ : St} {Q : VK} {H : Hp}
theorem comp_list {K : PySem.W.Frag} {a : Addr} {xs : List V} (Pv : Nat -> List V -> St -> Hp -> Prop) (h0 : Pv 0 [] (σIn σ n ix) H) (hl : ∀ i ys σ H, i <= xs.length -> Pv i ys σ H -> SqL K H a xs /\ ys.length <= i) (hz : xs.length < sizeLine)
    (hs : ∀ i x ys σ H, xs[i]? = some x -> Pv i ys σ H -> g x σ H fun σ4 H4 => tc σ4 H4 fun b H5 => if b = true then te σ4 H5 fun y H6 => Pv (i + 1) (ys ++ [y]) σ4 H6 else Pv (i + 1) ys σ4 H5)
    (hd : ∀ ys σ H, Pv xs.length ys σ H -> ∀ p, H p = none -> Q (.ref p) (upd H p (.lst ys))) : rComp n ix g tc te σ Q (Itl K a) H := by
  refine ⟨fun i m ys σ H => m = xs.length - i /\ i <= xs.length /\ Pv i ys σ H, ⟨xs.length, by simp, Nat.zero_le _, h0⟩, ?_⟩
  rintro i m ys σ H ⟨rfl, hi, p⟩
  obtain ⟨q, hy⟩ := hl i ys σ H hi p
  by_cases hlt : i < xs.length
  · refine .inr ⟨⟨xs, xs[i], q, by simp [hlt]⟩, by omega, Pv (i + 1), fun ys' σ' H' p' => ⟨xs.length - (i + 1), by omega, rfl, hlt, p'⟩, fun x H' y => ?_⟩
    obtain ⟨e, y⟩ := y
    subst e
    exact hs i x ys σ _ (y xs q) p
  · have e : i = xs.length := by omega
    subst e
    exact .inl ⟨⟨xs, q, Nat.le_refl _⟩, by omega, hd ys σ H p⟩
end
end L2
namespace L2
open PySem PySem.Spec PyProof.Rows
def Ite (K : PySem.W.Frag) (a : Addr) : It :=
  ⟨fun i H => ∃ xs x, SqL K H a xs /\ xs[i]? = some x, fun i H v H' => ∃ t x, v = .ref t /\ H t = none /\ H' = upd H t (.tup [.int i, x]) /\ ∀ xs, SqL K H a xs -> xs[i]? = some x, fun i H => ∃ xs, SqL K H a xs /\ xs.length <= i⟩
theorem turn_enum {P : Program} {w : World} {K : PySem.W.Frag} {elts : List Expr} {k : Nat} {tp : Pos} (a e it : Addr) (hne : e ≠ it) :
    Turn P w K (.Tuple elts k tp) (Ite K a) [e, it] e (fun i h => (∃ old, IsEnum h e it ((i : Nat) : Int) old) /\ h.IsListIter it a i) where
  mem := by simp
  obj := fun i h st b hb => by
    obtain ⟨⟨old, he⟩, o, ho, c, d⟩ := st
    have hb' : b = e \/ b = it := by simpa using hb
    rcases hb' with rfl | rfl
    · exact ⟨_, he, fun v z => by
        have z' : Data.fields _ = Data.cell v := z
        cases z'⟩
    · exact ⟨o, ho, fun v z => by rw [d] at z; cases z⟩
  keep := fun i h h' st k => ⟨let ⟨old, he⟩ := st.1; ⟨old, k e (by simp) _ he⟩, st.2.at fun o q => k it (by simp) o q⟩
  item := by
    intro X hP hw hK hc i pins s σ H E I hf st hg
    subst hP hw hK
    obtain ⟨xs, x, hq, hx⟩ := hg
    obtain ⟨its, rv, p, hz⟩ := I.list hq
    obtain ⟨u, hu, ru⟩ := rv.get hx
    obtain ⟨⟨old, he⟩, hit⟩ := st
    obtain ⟨f0, f1, f2, f3, f4, f5⟩ := hf e (by simp)
    obtain ⟨g0, g1, g2, g3, g4, g5⟩ := hf it (by simp)
    refine wpAny_pyNext_enum_item he hit p.isList (x := u) (by simpa using hu) hne fun h₁ heo hit₁ ht₁ hz₁ hk₁ => ?_
    refine ⟨_, rfl, wpAny_letOwnedTupleGo_enum (s := { s with heap := h₁, toks := s.toks + 1 }) heo fun h₂ he₂ hs₂ => ?_⟩
    replace hs₂ : Heap.SameBut e h₁ h₂ := hs₂
    have hel : e < s.heap.objs.size := Heap.lt_size he
    have nT : H s.heap.objs.size = none := I.hok.fresh (Nat.le_refl _)
    have ht₂ : h₂.get? s.heap.objs.size = some { cls := .type "tuple", data := .seq #[.int i s.toks, u] } := (hs₂.2 _ (Nat.ne_of_gt hel)).trans ht₁
    have kk : ∀ b o, b ≠ e -> b ≠ it -> s.heap.get? b = some o -> h₂.get? b = some o := fun b o h1 h2 q => (hs₂.2 b h1).trans (hk₁ b o h1 h2 q)
    have lt : ∀ b o, s.heap.get? b = some o -> b ≠ s.heap.objs.size := fun b o q => Nat.ne_of_lt (Heap.lt_size q)
    have there : ∀ b o, s.heap.get? b = some o -> b ∉ [e, it] -> ∃ o', h₂.get? b = some o' := fun b o q hx => ⟨o, kk b o (fun z => hx (by simp [z])) (fun z => hx (by simp [z])) q⟩
    have U : Un (frs X.stack) [e, it] H (upd H s.heap.objs.size (.tup [.int i, x])) s.heap h₂ :=
      ⟨fun b o q _ _ hx => kk b o (fun z => hx (by simp [z])) (fun z => hx (by simp [z])) q, fun b o q _ _ hx => ⟨o.slots, kk b o (fun z => hx (by simp [z])) (fun z => hx (by simp [z])) q⟩,
        fun b o q n _ => by rw [zQ (lt b o q)]; exact n, there, fun b ys q => by rw [zQ (zP q nT)]; exact q, fun b o ys q => by rw [zQ (zP q nT)]; exact q, fun b ps q => ⟨#[], by rw [zQ (zP q nT), q]; simp⟩⟩
    have ok : HOk X.prog X.w (upd H s.heap.objs.size (.tup [.int i, x])) h₂ := fun b o q => by
      by_cases hb : b = s.heap.objs.size
      · subst hb
        rw [zR] at q
        cases q
        exact ⟨by show 2 <= sizeLine; decide, [.int i s.toks, u], .cons ⟨_, rfl⟩ (.cons ru .nil), ⟨_, ht₂, rfl, _, rfl⟩⟩
      · rw [zQ hb] at q
        refine (I.hok b o q).stay (fun c v hc' z => ?_) (fun c z => by rw [zQ (zP z nT)]; exact z) fun c ys z => by rw [zQ (zP z nT)]; exact z
        have hcs : ∃ o', H c = some o' := by
          rcases hc' with rfl | hc'
          · exact ⟨o, q⟩
          · exact ⟨_, hc'⟩
        obtain ⟨o', ho'⟩ := hcs
        exact kk c v (zP ho' f0) (zP ho' g0) z
    have I2 := I.call (h' := h₂) (g' := s.gens) (t' := s.toks + 1) (d' := s.drawn) (ch := [e, it]) U ok I.bare fun b hb => by
      have hb' : b = e \/ b = it := by simpa using hb
      rcases hb' with rfl | rfl
      · exact ⟨f3, f1, f4, f5⟩
      · exact ⟨g3, g1, g4, g5⟩
    refine ⟨.ref s.heap.objs.size, _, I2, rfl, ⟨s.heap.objs.size, x, rfl, nT, rfl, fun ys hy => by rw [I.list_inj hy hq]; exact hx⟩, ⟨⟨_, by rw [show ((i + 1 : Nat) : Int) = (i : Int) + 1 by push_cast; rfl]; exact he₂⟩, hit₁.extBut hs₂.extBut hne.symm⟩, fun b hb => ?_⟩
    have hb' : b = e \/ b = it := by simpa using hb
    obtain ⟨o2, ho2, _⟩ := hit
    rcases hb' with rfl | rfl
    · rw [zQ (Nat.ne_of_lt hel)]; exact f0
    · rw [zQ (Nat.ne_of_lt (Heap.lt_size ho2))]; exact g0
  done := by
    intro X hP hw hK hc i pins s σ H E I hf st hg
    subst hP hw hK
    obtain ⟨xs, hq, hx⟩ := hg
    obtain ⟨its, rv, p, hz⟩ := I.list hq
    obtain ⟨⟨old, he⟩, hit⟩ := st
    obtain ⟨g0, g1, g2, g3, g4, g5⟩ := hf it (by simp)
    have hl := rv.length
    exact wpAny_pyNext_enum_end (I.ok.hd hc) he hit p.isList (by simp; omega) fun h' eb => ⟨rfl, I.turned (t' := s.toks) (fun b o hb e => eb b o hb e) g0 g1 g3 g4 g5⟩
  self := fun _ _ _ _ _ st h => let ⟨⟨_, he⟩, _⟩ := st; wpAny_pyIter_enum he h
def iEnum (K : PySem.W.Frag) (ta : TA) : TI := fun σ H R => ta σ H fun vs H1 => ∃ a, vs = [.ref a] /\ (∃ xs, SqL K H1 a xs) /\ R (Ite K a) H1
theorem boot_enumerate' : bootBuiltins "enumerate" = some (.type "enumerate") := by decide +kernel
theorem pi_enum {X : Cx} {elts : List Expr} {k : Nat} {tp : Pos} {a : Expr} {ta : TA} {p pos : Pos} (hg : Gl X "enumerate") (hm : X.mg "enumerate" = none) (ha : PA X [a] ta) (hs : starEach [a] X.env = [(false, eval a X.env)] := by rfl) :
    PI X (.Tuple elts k tp) (.Call (.Name "enumerate" p) [a] [] pos) (iEnum X.K ta) := by
  intro pins s σ H R I h
  refine Call_ (ld_blt I hg hm boot_enumerate' (PyProof.Rows.callWith_type1 (thn (ha pos pins s σ H _ I h) fun us s1 ⟨vs, H1, I1, r1, q1⟩ => ?_) hs rfl))
  obtain ⟨l, e, ⟨xs, hq⟩, q⟩ := q1
  subst e
  cases r1 with
  | cons r rr =>
    cases rr
    cases r
    obtain ⟨its, rv, p, hz⟩ := I1.list hq
    refine call_enumerate_list p.isList fun h' hE hI hsz hk => wpAny_pyIter_enum hE ?_
    have I2 : Inv X pins σ H1 { s1 with heap := h', toks := s1.toks } := I1.kept hk
    refine ⟨s1.heap.objs.size + 1, [s1.heap.objs.size + 1, s1.heap.objs.size], _, _, H1, rfl, I2, turn_enum l _ _ (Nat.succ_ne_self _), ⟨⟨.none, hE⟩, hI⟩, fun b hb => ?_, q⟩
    have hb' : b = s1.heap.objs.size + 1 \/ b = s1.heap.objs.size := by simpa using hb
    rcases hb' with rfl | rfl
    · exact I1.fpOk (Nat.le_succ _) (I1.hok.fresh (Nat.le_succ _))
    · exact I1.fpOk (Nat.le_refl _) (I1.hok.fresh (Nat.le_refl _))
theorem for_enum {K : PySem.W.Frag} {a : Addr} {xs : List V} {g : TG} {tb : TS} {D : Ends} {σ : St} {H : Hp} (Pv : Nat -> St -> Hp -> Prop) (h0 : Pv 0 σ H) (hl : ∀ i σ H, i <= xs.length -> Pv i σ H -> SqL K H a xs)
    (hs : ∀ i x t σ H, xs[i]? = some x -> H t = none -> Pv i σ H -> g (.ref t) σ (upd H t (.tup [.int i, x])) fun σ2 H2 => tb { D with nx := Pv (i + 1), ct := Pv (i + 1), bk := D.nx } σ2 H2) (hd : ∀ σ H, Pv xs.length σ H -> D.nx σ H) :
    ∃ W : Nat -> Nat -> St -> Hp -> Prop, (∃ m, W 0 m σ H) /\ ∀ i m σ H, W i m σ H ->
      ((Ite K a).stop i H /\ D.nx σ H) \/ ((Ite K a).go i H /\ ∃ N : St -> Hp -> Prop, (∀ σ' H', N σ' H' -> ∃ m', m' < m /\ W (i + 1) m' σ' H') /\ ∀ x H', (Ite K a).yld i H x H' -> g x σ H' fun σ2 H2 => tb { D with nx := N, ct := N, bk := D.nx } σ2 H2) := by
  refine ⟨fun i m σ H => m = xs.length - i /\ i <= xs.length /\ Pv i σ H, ⟨xs.length, by simp, Nat.zero_le _, h0⟩, ?_⟩
  rintro i m σ H ⟨rfl, hi, p⟩
  have q := hl i σ H hi p
  by_cases hlt : i < xs.length
  · refine .inr ⟨⟨xs, xs[i], q, by simp [hlt]⟩, Pv (i + 1), fun σ' H' p' => ⟨xs.length - (i + 1), by omega, rfl, hlt, p'⟩, fun x H' y => ?_⟩
    obtain ⟨t, x', rfl, ht, rfl, y⟩ := y
    exact hs i x' t σ H (y xs q) ht p
  · have e : i = xs.length := by omega
    subst e
    exact .inl ⟨⟨xs, q, Nat.le_refl _⟩, hd σ H p⟩
def tFs (a : Str) (te : TE) : TE := fun σ H Q => te σ H fun x H1 => (∃ i, x = .int i /\ i.natAbs.log2 < 1920 /\ Q (.str (a ++ Str.ofString (toString i))) H1) \/ ∃ z, x = .str z /\ z.length <= 1000 /\ Q (.str (a ++ z)) H1
theorem str_app_len (x y : Str) : (x ++ y).length = x.length + y.length := by rw [<- strLen_append]
theorem pe_fs {X : Cx} {a : Str} {j : Nat} {e : Expr} {te : TE} {p1 p2 pos : Pos} (he : PE X e te) (hl : a.length <= 1000) : PE X (.JoinedStr [.Constant (.str a) j p1, .FormattedValue e (-1) none p2] pos) (tFs a te) := by
  intro pins s σ H Q I h
  refine JoinedStr_many (joinParts_cons (Calls.Constant_str ?_))
  have e0 : (Str.empty ++ a) = a := by
    cases a with
    | mk c => show Str.mk _ = _; simp [Str.empty]
  refine ⟨by rw [e0]; exact Nat.le_trans hl (by decide), ?_⟩
  rw [e0]
  have I0 := I.tok (s.toks + 1)
  refine joinParts_cons (FormattedValue_plain (thn (he pins _ σ H _ I0 h) fun u s1 ⟨x, H1, I1, r1, q1⟩ => ?_))
  rcases q1 with ⟨i, rfl, hd, q⟩ | ⟨z, rfl, hz, q⟩
  · obtain ⟨t, rfl⟩ := r1
    refine formatField_int_small hd ?_
    have len : (a ++ Str.ofString (toString i)).length <= sizeLine := by
      have := int_text_len_1921 hd
      rw [str_app_len]
      exact Nat.le_trans (show a.length + (Str.ofString (toString i)).length <= 4000 by omega) (by decide)
    refine ⟨len, joinParts_nil ?_ len⟩
    exact ⟨.str (a ++ Str.ofString (toString i)), H1, (I1.tok (s1.toks + 1 + 1)).tok _, ⟨_, rfl⟩, q⟩
  · obtain ⟨t, rfl⟩ := r1
    have len : (a ++ z).length <= sizeLine := by
      rw [str_app_len]
      exact Nat.le_trans (show a.length + z.length <= 4000 by omega) (by decide)
    refine formatField_str (fun t' tk => ?_) (Nat.le_trans hz (by decide))
    refine ⟨len, joinParts_nil ?_ len⟩
    exact ⟨.str (a ++ z), H1, (I1.tok tk).tok _, ⟨_, rfl⟩, q⟩
def rIsi (K : PySem.W.Frag) (c : Value) : List V -> Hp -> VK -> Prop := fun xs H Q => ∃ x y t b, xs = [x, y] /\ RelV y c /\ TyOf K H x t /\ kitOne K t c = some b /\ Q (.bl b) H
theorem call_isi {X : Cx} {c : Value} (hc : ∀ y u, RelV y c -> RelV y u -> u = c) : CallR X (.builtin "isinstance") (rIsi X.K c) := by
  intro pins s σ H xs us Q I r h
  obtain ⟨x, y, t, b, rfl, ry, ty, e, q⟩ := h
  obtain ⟨u, v, rfl, ru, rv⟩ := r.two
  obtain rfl := hc y v ry rv
  exact isinst_ok I ru ty e fun tk => ⟨.bl b, H, I.tok tk, rfl, q⟩
theorem rel_ty {n : String} : ∀ y u, RelV y (.type n) -> RelV y u -> u = .type n := fun y u h1 h2 => by
  cases y <;> first
    | (cases h1; done)
    | (obtain ⟨_, e⟩ := h1; cases e; done)
    | (cases h1; cases h2; rfl)
end L2
namespace L2
open PySem PySem.Spec PyProof.Rows
end L2
namespace L2
open PySem PySem.Spec PyProof.Rows
theorem name_if0 {i : Nat} {x : V} {σ : St} {H : Hp} {A B : St -> Hp -> Prop} (h : A (σ.set i (some x)) H) : gName i x σ H (fun σ4 H4 => tIf0 σ4 H4 fun b H5 => if b = true then A σ4 H5 else B σ4 H5) := by
  show if true = true then A (σ.set i (some x)) H else B (σ.set i (some x)) H
  rw [if_pos rfl]
  exact h
theorem pg_tupK {X : Cx} {K : PySem.W.Frag} (h : X.K = K) {es : List Expr} {k : Nat} {t : TGs} {n : Nat} {pos : Pos} (hc : X.calm = true) (ht : PGs X es t)
    (hn : (assignEach es X.env).length = n := by rfl) (hst : (assignEach es X.env).findIdx? (·.1) = none := by rfl) : PG X (.Tuple es k pos) (gTup K n t) := by
  subst h
  exact pg_tup hc ht hn hst
end L2
namespace Ts
open PySem L2
theorem xV {H : Hp} {p : Addr} (h : H p = none) (o : HO) : Same H (upd H p o) := fun b u q => by rw [zQ (zP q h)]; exact q
theorem _root_.L2.Same.put {H H' : Hp} {p : Addr} (s : Same H H') (h : H p = none) (o : HO) : Same H (upd H' p o) := fun b u q => by rw [zQ (zP q h)]; exact s b u q
def A2 {α β : Type} (R : α -> β -> Prop) : List α -> List β -> Prop
  | [], [] => True
  | x :: xs, y :: ys => R x y /\ A2 R xs ys
  | _, _ => False
section
variable {α β : Type} {R R' : α -> β -> Prop}
theorem A2.len : ∀ {xs : List α} {ys : List β}, A2 R xs ys -> xs.length = ys.length
  | [], [], _ => rfl
  | _ :: _, _ :: _, h => congrArg (· + 1) (A2.len h.2)
  | [], _ :: _, h => h.elim
  | _ :: _, [], h => h.elim
theorem A2.imp (f : ∀ x y, R x y -> R' x y) : ∀ {xs : List α} {ys : List β}, A2 R xs ys -> A2 R' xs ys
  | [], [], _ => trivial
  | _ :: _, _ :: _, h => ⟨f _ _ h.1, A2.imp f h.2⟩
  | [], _ :: _, h => h.elim
  | _ :: _, [], h => h.elim
theorem A2.app : ∀ {xs : List α} {ys : List β} {xs' : List α} {ys' : List β}, A2 R xs ys -> A2 R xs' ys' -> A2 R (xs ++ xs') (ys ++ ys')
  | [], [], _, _, _, h => h
  | _ :: _, _ :: _, _, _, h, h' => ⟨h.1, A2.app h.2 h'⟩
  | [], _ :: _, _, _, h, _ => h.elim
  | _ :: _, [], _, _, h, _ => h.elim
theorem A2.snoc {xs : List α} {ys : List β} {x : α} {y : β} (h : A2 R xs ys) (r : R x y) : A2 R (xs ++ [x]) (ys ++ [y]) := h.app ⟨r, trivial⟩
theorem A2.at1 : ∀ {xs : List α} {ys : List β} {i : Nat} {x : α}, A2 R xs ys -> xs[i]? = some x -> ∃ y, ys[i]? = some y /\ R x y
  | [], _, _, _, _, e => by simp at e
  | _ :: _, _ :: _, 0, _, h, e => by simp at e; subst e; exact ⟨_, rfl, h.1⟩
  | _ :: _, _ :: _, i + 1, _, h, e => by
    obtain ⟨y, h1, h2⟩ := A2.at1 (i := i) h.2 (by simpa using e)
    exact ⟨y, by simpa using h1, h2⟩
  | _ :: _, [], _, _, h, _ => h.elim
theorem A2.at2 : ∀ {xs : List α} {ys : List β} {i : Nat} {y : β}, A2 R xs ys -> ys[i]? = some y -> ∃ x, xs[i]? = some x /\ R x y
  | _, [], _, _, _, e => by simp at e
  | _ :: _, _ :: _, 0, _, h, e => by simp at e; subst e; exact ⟨_, rfl, h.1⟩
  | _ :: _, _ :: _, i + 1, _, h, e => by
    obtain ⟨y, h1, h2⟩ := A2.at2 (i := i) h.2 (by simpa using e)
    exact ⟨y, by simpa using h1, h2⟩
  | [], _ :: _, _, _, h, _ => h.elim
theorem A2.set {x : α} {y : β} (r : R x y) : ∀ {xs : List α} {ys : List β} (i : Nat), A2 R xs ys -> A2 R (xs.set i x) (ys.set i y)
  | [], [], _, _ => trivial
  | _ :: _, _ :: _, 0, h => ⟨r, h.2⟩
  | _ :: _, _ :: _, i + 1, h => ⟨h.1, A2.set r i h.2⟩
  | [], _ :: _, _, h => h.elim
  | _ :: _, [], _, h => h.elim
theorem A2.of_map {f : β -> α} (h : ∀ y, R (f y) y) : ∀ ys : List β, A2 R (ys.map f) ys
  | [] => trivial
  | y :: ys => ⟨h y, A2.of_map h ys⟩
end
class Rp (K : PySem.W.Frag) (α : Type) where
  rp : Hp -> V -> α -> Prop
  mono : ∀ {F F' : Hp} {v : V} {a : α}, Same F F' -> rp F v a -> rp F' v a
abbrev rp (K : PySem.W.Frag) {α : Type} [Rp K α] : Hp -> V -> α -> Prop := Rp.rp (K := K)
class Nn (K : PySem.W.Frag) (α : Type) [Rp K α] : Prop where
  nn : ∀ {F : Hp} {v : V} {a : α}, rp K F v a -> v ≠ .non
class Sc (K : PySem.W.Frag) (α : Type) [Rp K α] where
  val : α -> V
  is : ∀ {F : Hp} {v : V} {a : α}, rp K F v a ↔ v = val a
  inj : ∀ {a b : α}, val a = val b -> a = b
section
variable {K : PySem.W.Frag}
instance : Rp K Int := ⟨fun _ v n => v = .int n, fun _ h => h⟩
instance : Rp K Bool := ⟨fun _ v n => v = .bl n, fun _ h => h⟩
instance : Rp K Str := ⟨fun _ v n => v = .str n, fun _ h => h⟩
instance : Rp K Unit := ⟨fun _ v _ => v = .non, fun _ h => h⟩
instance {α : Type} [Rp K α] : Rp K (Option α) := ⟨fun F v a => match a with
  | none => v = .non
  | some x => v ≠ .non /\ rp K F v x, fun {F F' v a} s h => match a, h with
  | none, h => h
  | some x, h => ⟨h.1, Rp.mono s h.2⟩⟩
instance {α : Type} [Rp K α] : Rp K (List α) := ⟨fun F v xs => ∃ p vs, v = .ref p /\ F p = some (.lst vs) /\ A2 (rp K F) vs xs, fun s ⟨p, vs, h1, h2, h3⟩ => ⟨p, vs, h1, s _ _ h2, h3.imp fun _ _ => Rp.mono s⟩⟩
instance {α β : Type} [Rp K α] [Rp K β] : Rp K (α × β) := ⟨fun F v x => ∃ p a b, v = .ref p /\ F p = some (.tup [a, b]) /\ rp K F a x.1 /\ rp K F b x.2, fun s ⟨p, a, b, h1, h2, h3, h4⟩ => ⟨p, a, b, h1, s _ _ h2, Rp.mono s h3, Rp.mono s h4⟩⟩
structure Scr where
  ns : List Int
instance : Rp K Scr := ⟨fun F v x => ∃ p, v = .ref p /\ SqL K F p (x.ns.map V.int), fun s ⟨p, h1, h2⟩ => ⟨p, h1, s.seq h2⟩⟩
instance : Nn K Int := ⟨fun h => by cases h; intro e; cases e⟩
instance : Nn K Bool := ⟨fun h => by cases h; intro e; cases e⟩
instance : Nn K Str := ⟨fun h => by cases h; intro e; cases e⟩
instance {α : Type} [Rp K α] : Nn K (List α) := ⟨fun ⟨_, _, h, _⟩ => by rw [h]; intro e; cases e⟩
instance {α β : Type} [Rp K α] [Rp K β] : Nn K (α × β) := ⟨fun ⟨_, _, _, h, _⟩ => by rw [h]; intro e; cases e⟩
instance : Sc K Int := ⟨V.int, Iff.rfl, fun h => by cases h; rfl⟩
instance : Sc K Bool := ⟨V.bl, Iff.rfl, fun h => by cases h; rfl⟩
instance : Sc K Str := ⟨V.str, Iff.rfl, fun h => by cases h; rfl⟩
instance {α : Type} [Rp K α] [Sc K α] [Nn K α] : Sc K (Option α) := ⟨fun a => match a with
  | none => .non
  | some x => Sc.val K x, fun {F v a} => match a with
  | none => Iff.rfl
  | some x => ⟨fun h => Sc.is.mp h.2, fun h => ⟨Nn.nn (K := K) (F := F) (a := x) (Sc.is.mpr h), Sc.is.mpr h⟩⟩, fun {a b} h => match a, b, h with
  | none, none, _ => rfl
  | some x, some y, h => by rw [Sc.inj (K := K) (a := x) (b := y) h]
  | none, some y, h => absurd h.symm (Nn.nn (K := K) (F := fun _ => none) (a := y) (Sc.is.mpr rfl))
  | some x, none, h => absurd h (Nn.nn (K := K) (F := fun _ => none) (a := x) (Sc.is.mpr rfl))⟩
theorem rp_sc {α : Type} [Rp K α] [Sc K α] {F F' : Hp} {v : V} {a : α} (h : rp K F v a) : rp K F' v a := Sc.is.mpr (Sc.is.mp h)
inductive Md | nw | fz | hp
def dif (H H0 : Hp) : Hp := fun b => match H0 b with
  | none => H b
  | some _ => none
def ext (Fa H0 H : Hp) : Hp := fun b => match H0 b with
  | none => H b
  | some _ => Fa b
structure Bs where
  Fa : Hp
  H0 : Hp
abbrev Own := List (Addr × HO)
def reg (B : Bs) (F H : Hp) : Md -> Hp
  | .nw => dif F B.H0
  | .fz => F
  | .hp => H
theorem dif_le {H H0 : Hp} : Same (dif H H0) H := fun b o h => by
  unfold dif at h
  cases e : H0 b with
  | none => rw [e] at h; exact h
  | some u => rw [e] at h; cases h
theorem uH {H H0 : Hp} {b : Addr} (h : H0 b = none) : dif H H0 b = H b := by
  unfold dif
  rw [h]
theorem xS {H H' H0 : Hp} (s : Same H H') : Same (dif H H0) (dif H' H0) := fun b o h => by
  unfold dif at h ⊢
  cases e : H0 b with
  | none => rw [e] at h; exact s b o h
  | some u => rw [e] at h; cases h
structure Ok (B : Bs) (F : Hp) (O : Own) (H : Hp) : Prop where
  fh : Same F H
  h0 : Same B.H0 H
  fa : ∀ b o, F b = some o -> B.Fa b = some o \/ B.H0 b = none
  fo : ∀ x ∈ O, F x.1 = none /\ B.H0 x.1 = none /\ H x.1 = some x.2
  nd : (O.map (·.1)).Nodup
structure Grow (B : Bs) (F H : Hp) (O : Own) (F' H' : Hp) : Prop where
  ff : Same F F'
  hh : Same H H'
  ok : Ok B F' O H'
  nw : ∀ b, F b = none -> H b ≠ none -> F' b = none
section
variable {B : Bs} {F H F' H' F2 H2 : Hp} {O : Own}
theorem Grow.refl (k : Ok B F O H) : Grow B F H O F H := ⟨.refl _, .refl _, k, fun _ h _ => h⟩
theorem Grow.trans (a : Grow B F H O F' H') (b : Grow B F' H' O F2 H2) : Grow B F H O F2 H2 :=
  ⟨a.ff.trans b.ff, a.hh.trans b.hh, b.ok, fun q h1 h2 => b.nw q (a.nw q h1 h2) fun e => h2 (a.hh.free e)⟩
theorem Grow.new (k : Ok B F O H) {p : Addr} (h : H p = none) (o : HO) : Grow B F H O (upd F p o) (upd H p o) := by
  have fp := k.fh.free h
  refine ⟨xV fp o, xV h o, ⟨fun b u e => ?_, k.h0.put (k.h0.free h) o, fun b u e => ?_, fun x hx => ?_, k.nd⟩, fun b h1 h2 => ?_⟩
  · by_cases q : b = p
    · subst q; rw [zR] at e ⊢; exact e
    · rw [zQ q] at e ⊢; exact k.fh b u e
  · by_cases q : b = p
    · subst q; exact .inr (k.h0.free h)
    · rw [zQ q] at e; exact k.fa b u e
  · obtain ⟨a1, a2, a3⟩ := k.fo x hx
    have q : x.1 ≠ p := zP a3 h
    exact ⟨by rw [zQ q]; exact a1, a2, by rw [zQ q]; exact a3⟩
  · rw [zQ fun e => h2 (by rw [e]; exact h)]; exact h1
theorem wI (g : Grow B F H O F' H') (md : Md) : Same (reg B F H md) (reg B F' H' md) := match md with
  | .nw => xS g.ff
  | .fz => g.ff
  | .hp => g.hh
end
inductive Slot (K : PySem.W.Frag) : Type 1
  | un
  | fz (n : Bool) {α : Type} [Rp K α] (a : α)
  | hs {α : Type} [Rp K α] (a : α)
  | nu {α : Type} [Rp K α] (a : α)
  | ow (n : Bool) {α : Type} [Rp K α] (xs : List α)
  | od {α : Type} [Rp K α] (kvs : List (Key × α))
abbrev mdb : Bool -> Md
  | true => .nw
  | false => .fz
def lo (F : Hp) (O : Own) (H : Hp) : Hp := fun b => if (F b).isSome || (O.any fun x => x.1 == b) then none else H b
inductive SlotsOk (B : Bs) (F L H : Hp) : List (Slot K) -> St -> Own -> Prop
  | nil : SlotsOk B F L H [] [] []
  | un {sl : List (Slot K)} {σ : St} {O : Own} {x : Option V} : SlotsOk B F L H sl σ O -> SlotsOk B F L H (.un :: sl) (x :: σ) O
  | fz {n : Bool} {α : Type} [Rp K α] {a : α} {sl : List (Slot K)} {σ : St} {O : Own} {v : V} : rp K (reg B F H (mdb n)) v a -> SlotsOk B F L H sl σ O -> SlotsOk B F L H (.fz n a :: sl) (some v :: σ) O
  | hs {α : Type} [Rp K α] {a : α} {sl : List (Slot K)} {σ : St} {O : Own} {v : V} : rp K H v a -> SlotsOk B F L H sl σ O -> SlotsOk B F L H (.hs a :: sl) (some v :: σ) O
  | nu {α : Type} [Rp K α] {a : α} {sl : List (Slot K)} {σ : St} {O : Own} {v : V} : rp K (dif L B.H0) v a -> SlotsOk B F L H sl σ O -> SlotsOk B F L H (.nu a :: sl) (some v :: σ) O
  | ow {n : Bool} {α : Type} [Rp K α] {xs : List α} {sl : List (Slot K)} {σ : St} {O : Own} {p : Addr} {vs : List V} : A2 (rp K (reg B F H (mdb n))) vs xs -> SlotsOk B F L H sl σ O -> SlotsOk B F L H (.ow n xs :: sl) (some (.ref p) :: σ) ((p, .lst vs) :: O)
  | od {α : Type} [Rp K α] {kvs : List (Key × α)} {sl : List (Slot K)} {σ : St} {O : Own} {p : Addr} {ks : List (Key × V)} : A2 (fun (x : Key × V) (y : Key × α) => x.1 = y.1 /\ rp K F x.2 y.2) ks kvs -> SlotsOk B F L H sl σ O -> SlotsOk B F L H (.od kvs :: sl) (some (.ref p) :: σ) ((p, .dK ks) :: O)
def At (B : Bs) (sl : List (Slot K)) (F : Hp) (O : Own) (H : Hp) (σ : St) : Prop := Ok B F O H /\ SlotsOk B F (lo F O H) H sl σ O
abbrev isOw : Slot K -> Bool
  | @Slot.ow _ _ _ _ _ => true
  | @Slot.od _ _ _ _ => true
  | _ => false
abbrev isHs : Slot K -> Bool
  | @Slot.hs _ _ _ _ => true
  | _ => false
section
variable {B : Bs} {F H F' H' L L' : Hp} {O O' : Own} {sl : List (Slot K)} {σ : St}
theorem wN (n : Bool) (hF : Same F F') : Same (reg B F H (mdb n)) (reg B F' H' (mdb n)) := match n with
  | true => xS hF
  | false => hF
theorem SlotsOk.mono (hF : Same F F') (hL : Same L L') (hH : Same H H') (h : SlotsOk B F L H sl σ O) : SlotsOk B F' L' H' sl σ O := by
  induction h with
  | nil => exact .nil
  | un _ ih => exact .un ih
  | fz r _ ih => exact .fz (Rp.mono (wN _ hF) r) ih
  | hs r _ ih => exact .hs (Rp.mono hH r) ih
  | nu r _ ih => exact .nu (Rp.mono (xS hL) r) ih
  | ow r _ ih => exact .ow (r.imp fun _ _ => Rp.mono (wN _ hF)) ih
  | od r _ ih => exact .od (r.imp fun _ _ z => ⟨z.1, Rp.mono hF z.2⟩) ih
theorem SlotsOk.mut (hL : Same L L') (h : SlotsOk B F L H sl σ O) (hn : sl.all (fun s => !isHs s) = true) : SlotsOk B F L' H' sl σ O := by
  induction h with
  | nil => exact .nil
  | un _ ih => exact .un (ih (by rw [List.all_cons, Bool.and_eq_true] at hn; exact hn.2))
  | fz r _ ih => exact .fz (Rp.mono (wN _ (.refl _)) r) (ih (by rw [List.all_cons, Bool.and_eq_true] at hn; exact hn.2))
  | hs r _ ih => rw [List.all_cons, Bool.and_eq_true] at hn; exact absurd hn.1 (by simp)
  | nu r _ ih => exact .nu (Rp.mono (xS hL) r) (ih (by rw [List.all_cons, Bool.and_eq_true] at hn; exact hn.2))
  | ow r _ ih => exact .ow (r.imp fun _ _ => Rp.mono (wN _ (.refl _))) (ih (by rw [List.all_cons, Bool.and_eq_true] at hn; exact hn.2))
  | od r _ ih => exact .od r (ih (by rw [List.all_cons, Bool.and_eq_true] at hn; exact hn.2))
theorem lo_mono (g : Grow B F H O F' H') : Same (lo F O H) (lo F' O H') := fun b o h => by
  unfold lo at h ⊢
  cases e : (F b).isSome || (O.any fun x => x.1 == b) with
  | true => rw [e] at h; cases h
  | false =>
    rw [e] at h
    have hb : H b = some o := h
    rw [Bool.or_eq_false_iff] at e
    have f' : F' b = none := g.nw b (by cases q : F b with | none => rfl | some u => rw [q] at e; cases e.1) (by rw [hb]; intro z; cases z)
    rw [f', e.2]
    exact g.hh b o hb
theorem At.grow (h : At B sl F O H σ) (g : Grow B F H O F' H') : At B sl F' O H' σ := ⟨g.ok, h.2.mono g.ff (lo_mono g) g.hh⟩
theorem SlotsOk.fz_at {n : Bool} {α : Type} [Rp K α] {a : α} (h : SlotsOk B F L H sl σ O) : ∀ {i : Nat}, sl[i]? = some (.fz n a) -> ∃ v, σ[i]? = some (some v) /\ rp K (reg B F H (mdb n)) v a := by
  induction h with
  | nil => intro i e; simp at e
  | fz r _ ih =>
    intro i e
    cases i with
    | zero => simp only [List.getElem?_cons_zero] at e; cases e; exact ⟨_, rfl, r⟩
    | succ i => exact ih (by simpa using e)
  | _ =>
    rename_i ih
    intro i e
    cases i with
    | zero => simp only [List.getElem?_cons_zero] at e; cases e
    | succ i => exact ih (by simpa using e)
theorem SlotsOk.hs_at {α : Type} [Rp K α] {a : α} (h : SlotsOk B F L H sl σ O) : ∀ {i : Nat}, sl[i]? = some (.hs a) -> ∃ v, σ[i]? = some (some v) /\ rp K H v a := by
  induction h with
  | nil => intro i e; simp at e
  | hs r _ ih =>
    intro i e
    cases i with
    | zero => simp only [List.getElem?_cons_zero] at e; cases e; exact ⟨_, rfl, r⟩
    | succ i => exact ih (by simpa using e)
  | _ =>
    rename_i ih
    intro i e
    cases i with
    | zero => simp only [List.getElem?_cons_zero] at e; cases e
    | succ i => exact ih (by simpa using e)
theorem SlotsOk.nu_at {α : Type} [Rp K α] {a : α} (h : SlotsOk B F L H sl σ O) : ∀ {i : Nat}, sl[i]? = some (.nu a) -> ∃ v, σ[i]? = some (some v) /\ rp K (dif L B.H0) v a := by
  induction h with
  | nil => intro i e; simp at e
  | nu r _ ih =>
    intro i e
    cases i with
    | zero => simp only [List.getElem?_cons_zero] at e; cases e; exact ⟨_, rfl, r⟩
    | succ i => exact ih (by simpa using e)
  | _ =>
    rename_i ih
    intro i e
    cases i with
    | zero => simp only [List.getElem?_cons_zero] at e; cases e
    | succ i => exact ih (by simpa using e)
theorem SlotsOk.put {s s' : Slot K} {x : Option V} (h : SlotsOk B F L H sl σ O) (new : ∀ (sl : List (Slot K)) (σ : St) (O : Own), SlotsOk B F L H sl σ O -> SlotsOk B F L H (s' :: sl) (x :: σ) O) : ∀ {i : Nat}, sl[i]? = some s -> isOw s = false -> SlotsOk B F L H (sl.set i s') (σ.set i x) O := by
  induction h with
  | nil => intro i e; simp at e
  | un g ih =>
    intro i e o
    cases i with
    | zero => exact new _ _ _ g
    | succ i => exact .un (ih (by simpa using e) o)
  | fz r g ih =>
    intro i e o
    cases i with
    | zero => exact new _ _ _ g
    | succ i => exact .fz r (ih (by simpa using e) o)
  | hs r g ih =>
    intro i e o
    cases i with
    | zero => exact new _ _ _ g
    | succ i => exact .hs r (ih (by simpa using e) o)
  | nu r g ih =>
    intro i e o
    cases i with
    | zero => exact new _ _ _ g
    | succ i => exact .nu r (ih (by simpa using e) o)
  | ow r g ih =>
    intro i e o
    cases i with
    | zero => simp only [List.getElem?_cons_zero] at e; cases e; cases o
    | succ i => exact .ow r (ih (by simpa using e) o)
  | od r g ih =>
    intro i e o
    cases i with
    | zero => simp only [List.getElem?_cons_zero] at e; cases e; cases o
    | succ i => exact .od r (ih (by simpa using e) o)
theorem SlotsOk.own {s s' : Slot K} {x : Option V} {c : Addr × HO} (h : SlotsOk B F L H sl σ O) (new : ∀ (sl : List (Slot K)) (σ : St) (O : Own), SlotsOk B F L H sl σ O -> SlotsOk B F L H (s' :: sl) (x :: σ) (c :: O)) :
    ∀ {i : Nat}, sl[i]? = some s -> isOw s = false -> ∃ O1 O2, O = O1 ++ O2 /\ SlotsOk B F L H (sl.set i s') (σ.set i x) (O1 ++ c :: O2) := by
  induction h with
  | nil => intro i e; simp at e
  | un g ih =>
    intro i e o
    cases i with
    | zero => exact ⟨[], _, rfl, new _ _ _ g⟩
    | succ i => obtain ⟨O1, O2, q, z⟩ := ih (by simpa using e) o; exact ⟨O1, O2, q, .un z⟩
  | fz r g ih =>
    intro i e o
    cases i with
    | zero => exact ⟨[], _, rfl, new _ _ _ g⟩
    | succ i => obtain ⟨O1, O2, q, z⟩ := ih (by simpa using e) o; exact ⟨O1, O2, q, .fz r z⟩
  | hs r g ih =>
    intro i e o
    cases i with
    | zero => exact ⟨[], _, rfl, new _ _ _ g⟩
    | succ i => obtain ⟨O1, O2, q, z⟩ := ih (by simpa using e) o; exact ⟨O1, O2, q, .hs r z⟩
  | nu r g ih =>
    intro i e o
    cases i with
    | zero => exact ⟨[], _, rfl, new _ _ _ g⟩
    | succ i => obtain ⟨O1, O2, q, z⟩ := ih (by simpa using e) o; exact ⟨O1, O2, q, .nu r z⟩
  | ow r g ih =>
    intro i e o
    cases i with
    | zero => simp only [List.getElem?_cons_zero] at e; cases e; cases o
    | succ i => obtain ⟨O1, O2, q, z⟩ := ih (by simpa using e) o; exact ⟨_ :: O1, O2, by rw [q] <;> rfl, .ow r z⟩
  | od r g ih =>
    intro i e o
    cases i with
    | zero => simp only [List.getElem?_cons_zero] at e; cases e; cases o
    | succ i => obtain ⟨O1, O2, q, z⟩ := ih (by simpa using e) o; exact ⟨_ :: O1, O2, by rw [q] <;> rfl, .od r z⟩
theorem SlotsOk.ow_at {n : Bool} {α : Type} [Rp K α] {xs : List α} (h : SlotsOk B F L H sl σ O) : ∀ {i : Nat}, sl[i]? = some (.ow n xs) ->
    ∃ O1 O2 p vs, O = O1 ++ (p, .lst vs) :: O2 /\ σ[i]? = some (some (.ref p)) /\ A2 (rp K (reg B F H (mdb n))) vs xs /\
      (∀ (s' : Slot K) (x : Option V) (c : Addr × HO), (∀ (sl : List (Slot K)) (σ : St) (O : Own), SlotsOk B F L H sl σ O -> SlotsOk B F L H (s' :: sl) (x :: σ) (c :: O)) -> SlotsOk B F L H (sl.set i s') (σ.set i x) (O1 ++ c :: O2)) /\
      (∀ (s' : Slot K) (x : Option V), (∀ (sl : List (Slot K)) (σ : St) (O : Own), SlotsOk B F L H sl σ O -> SlotsOk B F L H (s' :: sl) (x :: σ) O) -> SlotsOk B F L H (sl.set i s') (σ.set i x) (O1 ++ O2)) := by
  induction h with
  | nil => intro i e; simp at e
  | un g ih =>
    intro i e
    cases i with
    | zero => simp only [List.getElem?_cons_zero] at e; cases e
    | succ i => obtain ⟨O1, O2, p, vs, q, h1, h2, h3, h4⟩ := ih (by simpa using e); exact ⟨O1, O2, p, vs, q, h1, h2, fun s' x c z => .un (h3 s' x c z), fun s' x z => .un (h4 s' x z)⟩
  | fz r g ih =>
    intro i e
    cases i with
    | zero => simp only [List.getElem?_cons_zero] at e; cases e
    | succ i => obtain ⟨O1, O2, p, vs, q, h1, h2, h3, h4⟩ := ih (by simpa using e); exact ⟨O1, O2, p, vs, q, h1, h2, fun s' x c z => .fz r (h3 s' x c z), fun s' x z => .fz r (h4 s' x z)⟩
  | hs r g ih =>
    intro i e
    cases i with
    | zero => simp only [List.getElem?_cons_zero] at e; cases e
    | succ i => obtain ⟨O1, O2, p, vs, q, h1, h2, h3, h4⟩ := ih (by simpa using e); exact ⟨O1, O2, p, vs, q, h1, h2, fun s' x c z => .hs r (h3 s' x c z), fun s' x z => .hs r (h4 s' x z)⟩
  | nu r g ih =>
    intro i e
    cases i with
    | zero => simp only [List.getElem?_cons_zero] at e; cases e
    | succ i => obtain ⟨O1, O2, p, vs, q, h1, h2, h3, h4⟩ := ih (by simpa using e); exact ⟨O1, O2, p, vs, q, h1, h2, fun s' x c z => .nu r (h3 s' x c z), fun s' x z => .nu r (h4 s' x z)⟩
  | ow r g ih =>
    intro i e
    cases i with
    | zero => simp only [List.getElem?_cons_zero] at e; cases e; exact ⟨[], _, _, _, rfl, rfl, r, fun s' x c z => z _ _ _ g, fun s' x z => z _ _ _ g⟩
    | succ i => obtain ⟨O1, O2, p, vs, q, h1, h2, h3, h4⟩ := ih (by simpa using e); exact ⟨_ :: O1, O2, p, vs, by rw [q] <;> rfl, h1, h2, fun s' x c z => .ow r (h3 s' x c z), fun s' x z => .ow r (h4 s' x z)⟩
  | od r g ih =>
    intro i e
    cases i with
    | zero => simp only [List.getElem?_cons_zero] at e; cases e
    | succ i => obtain ⟨O1, O2, p, vs, q, h1, h2, h3, h4⟩ := ih (by simpa using e); exact ⟨_ :: O1, O2, p, vs, by rw [q] <;> rfl, h1, h2, fun s' x c z => .od r (h3 s' x c z), fun s' x z => .od r (h4 s' x z)⟩
theorem SlotsOk.od_at {α : Type} [Rp K α] {kvs : List (Key × α)} (h : SlotsOk B F L H sl σ O) : ∀ {i : Nat}, sl[i]? = some (.od kvs) ->
    ∃ O1 O2 p ks, O = O1 ++ (p, .dK ks) :: O2 /\ σ[i]? = some (some (.ref p)) /\ A2 (fun (x : Key × V) (y : Key × α) => x.1 = y.1 /\ rp K F x.2 y.2) ks kvs /\
      (∀ (s' : Slot K) (x : Option V) (c : Addr × HO), (∀ (sl : List (Slot K)) (σ : St) (O : Own), SlotsOk B F L H sl σ O -> SlotsOk B F L H (s' :: sl) (x :: σ) (c :: O)) -> SlotsOk B F L H (sl.set i s') (σ.set i x) (O1 ++ c :: O2)) /\
      (∀ (s' : Slot K) (x : Option V), (∀ (sl : List (Slot K)) (σ : St) (O : Own), SlotsOk B F L H sl σ O -> SlotsOk B F L H (s' :: sl) (x :: σ) O) -> SlotsOk B F L H (sl.set i s') (σ.set i x) (O1 ++ O2)) := by
  induction h with
  | nil => intro i e; simp at e
  | un g ih =>
    intro i e
    cases i with
    | zero => simp only [List.getElem?_cons_zero] at e; cases e
    | succ i => obtain ⟨O1, O2, p, vs, q, h1, h2, h3, h4⟩ := ih (by simpa using e); exact ⟨O1, O2, p, vs, q, h1, h2, fun s' x c z => .un (h3 s' x c z), fun s' x z => .un (h4 s' x z)⟩
  | fz r g ih =>
    intro i e
    cases i with
    | zero => simp only [List.getElem?_cons_zero] at e; cases e
    | succ i => obtain ⟨O1, O2, p, vs, q, h1, h2, h3, h4⟩ := ih (by simpa using e); exact ⟨O1, O2, p, vs, q, h1, h2, fun s' x c z => .fz r (h3 s' x c z), fun s' x z => .fz r (h4 s' x z)⟩
  | hs r g ih =>
    intro i e
    cases i with
    | zero => simp only [List.getElem?_cons_zero] at e; cases e
    | succ i => obtain ⟨O1, O2, p, vs, q, h1, h2, h3, h4⟩ := ih (by simpa using e); exact ⟨O1, O2, p, vs, q, h1, h2, fun s' x c z => .hs r (h3 s' x c z), fun s' x z => .hs r (h4 s' x z)⟩
  | nu r g ih =>
    intro i e
    cases i with
    | zero => simp only [List.getElem?_cons_zero] at e; cases e
    | succ i => obtain ⟨O1, O2, p, vs, q, h1, h2, h3, h4⟩ := ih (by simpa using e); exact ⟨O1, O2, p, vs, q, h1, h2, fun s' x c z => .nu r (h3 s' x c z), fun s' x z => .nu r (h4 s' x z)⟩
  | od r g ih =>
    intro i e
    cases i with
    | zero => simp only [List.getElem?_cons_zero] at e; cases e; exact ⟨[], _, _, _, rfl, rfl, r, fun s' x c z => z _ _ _ g, fun s' x z => z _ _ _ g⟩
    | succ i => obtain ⟨O1, O2, p, vs, q, h1, h2, h3, h4⟩ := ih (by simpa using e); exact ⟨_ :: O1, O2, p, vs, by rw [q] <;> rfl, h1, h2, fun s' x c z => .od r (h3 s' x c z), fun s' x z => .od r (h4 s' x z)⟩
  | ow r g ih =>
    intro i e
    cases i with
    | zero => simp only [List.getElem?_cons_zero] at e; cases e
    | succ i => obtain ⟨O1, O2, p, vs, q, h1, h2, h3, h4⟩ := ih (by simpa using e); exact ⟨_ :: O1, O2, p, vs, by rw [q] <;> rfl, h1, h2, fun s' x c z => .ow r (h3 s' x c z), fun s' x z => .ow r (h4 s' x z)⟩
end
end
end Ts
namespace Ts
open PySem L2
section
variable {K : PySem.W.Frag} {B : Bs} {F H F' H' L L' : Hp} {O O' O1 O2 : Own} {sl : List (Slot K)} {σ : St} {p : Addr} {o o' : HO}
theorem nd_mid {α : Type} {a b : List α} {x : α} : (a ++ x :: b).Nodup ↔ (a ++ b).Nodup /\ x ∉ a ++ b := by
  have q : (a ++ x :: b).Perm (x :: (a ++ b)) := List.perm_middle
  rw [q.nodup_iff, List.nodup_cons]
  exact ⟨fun h => ⟨h.2, h.1⟩, fun h => ⟨h.2, h.1⟩⟩
theorem Ok.add (k : Ok B F (O1 ++ O2) H) (h : H p = none) : Ok B F (O1 ++ (p, o) :: O2) (upd H p o) := by
  refine ⟨fun b u e => ?_, k.h0.put (k.h0.free h) o, k.fa, fun x hx => ?_, ?_⟩
  · rw [zQ (zP (k.fh b u e) h)]; exact k.fh b u e
  · have hx' : x = (p, o) \/ x ∈ O1 ++ O2 := by
      rcases List.mem_append.mp hx with z | z
      · exact .inr (List.mem_append.mpr (.inl z))
      · rcases List.mem_cons.mp z with z | z
        · exact .inl z
        · exact .inr (List.mem_append.mpr (.inr z))
    rcases hx' with rfl | hx'
    · exact ⟨k.fh.free h, k.h0.free h, zR⟩
    · obtain ⟨a1, a2, a3⟩ := k.fo x hx'
      exact ⟨a1, a2, by rw [zQ (zP a3 h)]; exact a3⟩
  · rw [List.map_append, List.map_cons, nd_mid, <- List.map_append]
    refine ⟨k.nd, fun z => ?_⟩
    obtain ⟨x, hx, e⟩ := List.mem_map.mp z
    obtain ⟨_, _, a3⟩ := k.fo x hx
    have e' : x.1 = p := e
    rw [e', h] at a3
    cases a3
theorem Ok.one (k : Ok B F (O1 ++ (p, o) :: O2) H) : F p = none /\ B.H0 p = none /\ H p = some o := k.fo (p, o) (List.mem_append.mpr (.inr List.mem_cons_self))
theorem Ok.ndp (k : Ok B F (O1 ++ (p, o) :: O2) H) : ∀ x ∈ O1 ++ O2, x.1 ≠ p := fun x hx e => by
  have q := k.nd
  rw [List.map_append, List.map_cons, nd_mid, <- List.map_append] at q
  exact q.2 (List.mem_map.mpr ⟨x, hx, e⟩)
theorem Ok.drop (k : Ok B F (O1 ++ (p, o) :: O2) H) : Ok B F (O1 ++ O2) H := by
  refine ⟨k.fh, k.h0, k.fa, fun x hx => k.fo x ?_, ?_⟩
  · rcases List.mem_append.mp hx with z | z
    · exact List.mem_append.mpr (.inl z)
    · exact List.mem_append.mpr (.inr (List.mem_cons_of_mem _ z))
  · have q := k.nd
    rw [List.map_append, List.map_cons, nd_mid, <- List.map_append] at q
    exact q.1
theorem Ok.chg (k : Ok B F (O1 ++ (p, o) :: O2) H) (o' : HO) : Ok B F (O1 ++ (p, o') :: O2) (upd H p o') := by
  obtain ⟨a1, a2, a3⟩ := k.one
  refine ⟨k.fh.put a1 o', k.h0.put a2 o', k.fa, fun x hx => ?_, ?_⟩
  · have hx' : x = (p, o') \/ x ∈ O1 ++ O2 := by
      rcases List.mem_append.mp hx with z | z
      · exact .inr (List.mem_append.mpr (.inl z))
      · rcases List.mem_cons.mp z with z | z
        · exact .inl z
        · exact .inr (List.mem_append.mpr (.inr z))
    rcases hx' with rfl | hx'
    · exact ⟨a1, a2, zR⟩
    · obtain ⟨b1, b2, b3⟩ := k.drop.fo x hx'
      exact ⟨b1, b2, by rw [zQ (k.ndp x hx')]; exact b3⟩
  · have q := k.nd
    rw [List.map_append, List.map_cons] at q ⊢
    exact q
theorem Ok.freeze (k : Ok B F (O1 ++ (p, o) :: O2) H) : Ok B (upd F p o) (O1 ++ O2) H := by
  obtain ⟨a1, a2, a3⟩ := k.one
  refine ⟨fun b u e => ?_, k.h0, fun b u e => ?_, fun x hx => ?_, k.drop.nd⟩
  · by_cases q : b = p
    · subst q; rw [zR] at e; cases e; exact a3
    · rw [zQ q] at e; exact k.fh b u e
  · by_cases q : b = p
    · subst q; exact .inr a2
    · rw [zQ q] at e; exact k.fa b u e
  · obtain ⟨b1, b2, b3⟩ := k.drop.fo x hx
    exact ⟨by rw [zQ (k.ndp x hx)]; exact b1, b2, b3⟩
theorem lo_add (h : H p = none) : Same (lo F (O1 ++ O2) H) (lo F (O1 ++ (p, o) :: O2) (upd H p o)) := fun b u e => by
  unfold lo at e ⊢
  by_cases q : b = p
  · subst q
    split at e
    · cases e
    · rw [h] at e; cases e
  · rw [zQ q]
    have z : ((O1 ++ (p, o) :: O2).any fun x => x.1 == b) = ((O1 ++ O2).any fun x => x.1 == b) := by
      rw [List.any_append, List.any_append, List.any_cons]
      have : (p == b) = false := by simp; exact fun e => q e.symm
      simp [this]
    rw [z]
    exact e
theorem lo_chg : Same (lo F (O1 ++ (p, o) :: O2) H) (lo F (O1 ++ (p, o') :: O2) (upd H p o')) := fun b u e => by
  unfold lo at e ⊢
  by_cases q : b = p
  · subst q
    rw [List.any_append, List.any_cons] at e
    simp at e
  · rw [zQ q]
    have z : ((O1 ++ (p, o) :: O2).any fun x => x.1 == b) = ((O1 ++ (p, o') :: O2).any fun x => x.1 == b) := by
      rw [List.any_append, List.any_append, List.any_cons, List.any_cons]
    rw [<- z]
    exact e
theorem lo_drop : Same (lo F (O1 ++ (p, o) :: O2) H) (lo F (O1 ++ O2) H) := fun b u e => by
  unfold lo at e ⊢
  split at e
  · cases e
  · rename_i h
    rw [if_neg]
    · exact e
    · rw [List.any_append, List.any_cons] at h
      rw [List.any_append]
      simp at h ⊢
      exact ⟨h.1, h.2.1, h.2.2.2⟩
theorem lo_freeze : Same (lo F (O1 ++ (p, o) :: O2) H) (lo (upd F p o) (O1 ++ O2) H) := fun b u e => by
  unfold lo at e ⊢
  split at e
  · cases e
  · rename_i h
    rw [List.any_append, List.any_cons] at h
    simp at h
    have q : b ≠ p := fun z => h.2.2.1 z.symm
    rw [zQ q, if_neg]
    · exact e
    · rw [List.any_append]
      simp
      exact ⟨h.1, h.2.1, h.2.2.2⟩
theorem Ok.called (k : Ok B F O H) (s : Same H H') : Grow B F H O (ext F H H') H' := by
  have e1 : ∀ b o, ext F H H' b = some o -> F b = some o \/ H b = none := fun b o h => by
    unfold ext at h
    cases q : H b with
    | none => exact .inr rfl
    | some u => rw [q] at h; exact .inl h
  refine ⟨fun b o h => ?_, s, ⟨fun b o h => ?_, k.h0.trans s, fun b o h => ?_, fun x hx => ?_, k.nd⟩, fun b h1 h2 => ?_⟩
  · unfold ext
    rw [k.fh b o h]
    exact h
  · unfold ext at h
    cases q : H b with
    | none => rw [q] at h; exact h
    | some u => rw [q] at h; rw [<- k.fh b o h]; exact (s b u q).trans q.symm
  · rcases e1 b o h with z | z
    · exact k.fa b o z
    · exact .inr (k.h0.free z)
  · obtain ⟨a1, a2, a3⟩ := k.fo x hx
    refine ⟨?_, a2, s _ _ a3⟩
    unfold ext
    rw [a3]
    exact a1
  · unfold ext
    cases q : H b with
    | none => exact absurd q h2
    | some u => exact h1
theorem ext_new (h0 : Same B.H0 H) (s : Same H H') : Same (dif H' H) (dif (ext F H H') B.H0) := fun b o h => by
  unfold dif at h
  cases q : H b with
  | none =>
    rw [q] at h
    rw [uH (h0.free q)]
    unfold ext
    rw [q]
    exact h
  | some u => rw [q] at h; cases h
variable {md md1 md2 : Md} {α β γ : Type} [Rp K α] [Rp K β] [Rp K γ] {t t1 t2 : TE} {m : Option α} {m1 : Option β} {m2 : Option γ}
def Ex (B : Bs) (sl : List (Slot K)) (md : Md) (t : TE) {α : Type} [Rp K α] (m : Option α) : Prop :=
  ∀ a, m = some a -> ∀ (F : Hp) (O : Own) (H : Hp) (σ : St) (Q : VK), At B sl F O H σ -> (∀ (v : V) (F' H' : Hp), Grow B F H O F' H' -> rp K (reg B F' H' md) v a -> Q v H') -> t σ H Q
def Et (B : Bs) (sl : List (Slot K)) (t : TT) (m : Option Bool) : Prop :=
  ∀ a, m = some a -> ∀ (F : Hp) (O : Own) (H : Hp) (σ : St) (Q : Bool -> Hp -> Prop), At B sl F O H σ -> (∀ (F' H' : Hp), Grow B F H O F' H' -> Q a H') -> t σ H Q
inductive Ar (R : Hp) : List (Slot K) -> List V -> Prop
  | nil : Ar R [] []
  | cons {n : Bool} {α : Type} [Rp K α] {a : α} {v : V} {sl : List (Slot K)} {vs : List V} : rp K R v a -> Ar R sl vs -> Ar R (.fz n a :: sl) (v :: vs)
def Ea (B : Bs) (sl : List (Slot K)) (md : Md) (t : TA) {A : Type} (as : A -> List (Slot K)) (m : Option A) : Prop :=
  ∀ a, m = some a -> ∀ (F : Hp) (O : Own) (H : Hp) (σ : St) (Q : List V -> Hp -> Prop), At B sl F O H σ -> (∀ (vs : List V) (F' H' : Hp), Grow B F H O F' H' -> Ar (reg B F' H' md) (as a) vs -> Q vs H') -> t σ H Q
theorem Ex.sc [Sc K α] (h : Ex B sl md t m) : Ex B sl md1 t m := fun a ha F O H σ Q s k => h a ha F O H σ Q s fun v F' H' g r => k v F' H' g (rp_sc r)
theorem ex_some [Nn K α] (h : Ex B sl md t m) : Ex B sl md t (m.bind fun a => some (some a)) := fun a ha F O H σ Q s k => by
  cases m with
  | none => cases ha
  | some a' =>
    cases (show some (some a') = some a from ha)
    exact h a' rfl F O H σ Q s fun v F' H' g r => k v F' H' g ⟨Nn.nn (K := K) r, r⟩
theorem yE {n : Bool} {a : α} (i : Nat) (hs : sl[i]? = some (.fz n a)) : Ex B sl (mdb n) (tVar i) (some a) := fun a' ha F O H σ Q s k => by
  cases ha
  obtain ⟨v, h1, h2⟩ := s.2.fz_at hs
  exact ⟨v, h1, k v F H (.refl s.1) h2⟩
theorem zD [Sc K α] {n : Bool} {a : α} (i : Nat) (hs : sl[i]? = some (.fz n a)) : Ex B sl md (tVar i) (some a) := (yE i hs).sc
theorem lo_le : Same (lo F O H) H := fun b o h => by
  unfold lo at h
  split at h
  · cases h
  · exact h
theorem reg_le (k : Ok B F O H) (n : Bool) : Same (reg B F H (mdb n)) H := match n with
  | true => dif_le.trans k.fh
  | false => k.fh
theorem zH {n : Bool} {a : α} (i : Nat) (hs : sl[i]? = some (.fz n a)) : Ex B sl .hp (tVar i) (some a) := fun a' ha F O H σ Q s k => by
  cases ha
  obtain ⟨v, h1, h2⟩ := s.2.fz_at hs
  exact ⟨v, h1, k v F H (.refl s.1) (Rp.mono (reg_le s.1 n) h2)⟩
theorem vE {n : Bool} {xs : List α} (i : Nat) (hs : sl[i]? = some (.ow n xs)) : Ex B sl .hp (tVar i) (some xs) := fun a' ha F O H σ Q s k => by
  cases ha
  obtain ⟨O1, O2, p, vs, rfl, h1, h2, _⟩ := s.2.ow_at hs
  exact ⟨_, h1, k _ F H (.refl s.1) ⟨p, vs, rfl, s.1.one.2.2, h2.imp fun _ _ => Rp.mono (reg_le s.1 n)⟩⟩
theorem ex_c [Sc K α] (a : α) : Ex B sl md (tC (Sc.val K a)) (some a) := fun a' ha F O H σ Q s k => by cases ha; exact k _ F H (.refl s.1) (Sc.is.mpr rfl)
theorem zJ (i : Int) : Ex B sl md (tC (.int i)) (some i) := ex_c (K := K) i
theorem ex_bl (i : Bool) : Ex B sl md (tC (.bl i)) (some i) := ex_c (K := K) i
theorem ex_str (i : Str) : Ex B sl md (tC (.str i)) (some i) := ex_c (K := K) i
theorem ex_none : Ex B sl md (tC .non) (some (none : Option α)) := fun a' ha F O H σ Q s k => by cases ha; exact k _ F H (.refl s.1) rfl
theorem bind2 {f : β -> γ -> Option α} {c : α} (h : (m1.bind fun a => m2.bind fun b => f a b) = some c) : ∃ a b, m1 = some a /\ m2 = some b /\ f a b = some c := by
  cases m1 with
  | none => cases h
  | some a =>
    cases m2 with
    | none => cases h
    | some b => exact ⟨a, b, rfl, rfl, h⟩
theorem ex_op {r : R2} {f : β -> γ -> Option α} [Sc K α] (hr : ∀ (a : β) (b : γ) (c : α) (v w : V) (H : Hp) (Q : VK), f a b = some c -> rp K H v a -> rp K H w b -> Q (Sc.val K c) H -> r v w H Q)
    (h1 : Ex B sl .hp t1 m1) (h2 : Ex B sl .hp t2 m2) : Ex B sl md (tOp r t1 t2) (m1.bind fun a => m2.bind fun b => f a b) := fun c hc F O H σ Q s k => by
  obtain ⟨a, b, ha, hb, hf⟩ := bind2 hc
  refine h1 a ha F O H σ _ s fun v F' H' g r1 => ?_
  refine h2 b hb F' O H' σ _ (s.grow g) fun w F2 H2 g2 r2 => ?_
  exact hr a b c v w H2 Q hf (Rp.mono g2.hh r1) r2 (k _ F2 H2 (g.trans g2) (Sc.is.mpr rfl))
theorem yD {m' : Option Bool} (h : Ex B sl md t m') : Et B sl (tTest t) m' := fun c hc F O H σ Q s k => h c hc F O H σ _ s fun v F' H' g r => ⟨c, r, k F' H' g⟩
theorem et_b {m' : Option Bool} (h : Ex B sl md t m') : Et B sl (tB t) m' := fun c hc F O H σ Q s k => h c hc F O H σ _ s fun v F' H' g r => ⟨c, r, k F' H' g⟩
theorem et_not {t : TT} {n : Option Bool} (h : Et B sl t n) : Et B sl (tNot t) (n.bind fun c => some !c) := fun c hc F O H σ Q s k => by
  cases n with
  | none => cases hc
  | some c' =>
    cases (show some (!c') = some c from hc)
    exact h c' rfl F O H σ _ s fun F' H' g => k F' H' g
theorem ex_not {n : Option Bool} (h : Ex B sl .hp t n) : Ex B sl md (tNotV t) (n.bind fun c => some !c) := fun c hc F O H σ Q s k => by
  cases n with
  | none => cases hc
  | some c' =>
    cases (show some (!c') = some c from hc)
    refine h c' rfl F O H σ _ s fun v F' H' g r => ?_
    cases r
    exact ⟨c', rfl, k _ F' H' g rfl⟩
theorem et_and {t u : TT} {n n' : Option Bool} (h : Et B sl t n) (h' : Et B sl u n') : Et B sl (tAnd t u) (n.bind fun c => if c = true then n' else some false) := fun c hc F O H σ Q s k => by
  cases n with
  | none => cases hc
  | some c' =>
    refine h c' rfl F O H σ _ s fun F' H' g => ?_
    cases c' with
    | true => exact iteT (h' c (by simpa using hc) F' O H' σ _ (s.grow g) fun F2 H2 g2 => k F2 H2 (g.trans g2))
    | false => cases (show some false = some c from by simpa using hc); exact iteF (k F' H' g)
theorem et_or {t u : TT} {n n' : Option Bool} (h : Et B sl t n) (h' : Et B sl u n') : Et B sl (tOr t u) (n.bind fun c => if c = true then some true else n') := fun c hc F O H σ Q s k => by
  cases n with
  | none => cases hc
  | some c' =>
    refine h c' rfl F O H σ _ s fun F' H' g => ?_
    cases c' with
    | true => cases (show some true = some c from by simpa using hc); exact iteT (k F' H' g)
    | false => exact iteF (h' c (by simpa using hc) F' O H' σ _ (s.grow g) fun F2 H2 g2 => k F2 H2 (g.trans g2))
theorem ex_and {n n' : Option Bool} (h : Ex B sl .hp t1 n) (h' : Ex B sl .hp t2 n') : Ex B sl md (tAndV t1 t2) (n.bind fun c => if c = true then n' else some false) := fun c hc F O H σ Q s k => by
  cases n with
  | none => cases hc
  | some c' =>
    refine h c' rfl F O H σ _ s fun v F' H' g r => ?_
    cases r
    refine ⟨c', rfl, ?_⟩
    cases c' with
    | true => exact iteT (h' c (by simpa using hc) F' O H' σ _ (s.grow g) fun v F2 H2 g2 r2 => k v F2 H2 (g.trans g2) (rp_sc r2))
    | false => cases (show some false = some c from by simpa using hc); exact iteF (k _ F' H' g rfl)
theorem ex_ife {t : TT} {n : Option Bool} {m m' : Option α} (h : Et B sl t n) (h1 : Ex B sl md t1 m) (h2 : Ex B sl md t2 m') : Ex B sl md (tIf t t1 t2) (n.bind fun c => if c = true then m else m') := fun c hc F O H σ Q s k => by
  cases n with
  | none => cases hc
  | some c' =>
    refine h c' rfl F O H σ _ s fun F' H' g => ?_
    cases c' with
    | true => exact iteT (h1 c (by simpa using hc) F' O H' σ _ (s.grow g) fun v F2 H2 g2 r2 => k v F2 H2 (g.trans g2) r2)
    | false => exact iteF (h2 c (by simpa using hc) F' O H' σ _ (s.grow g) fun v F2 H2 g2 r2 => k v F2 H2 (g.trans g2) r2)
theorem zU : Ea B sl md tNil (fun _ : Unit => []) (some ()) := fun a ha F O H σ Q s k => k [] F H (.refl s.1) .nil
theorem zG {tr : TA} {A : Type} {as : A -> List (Slot K)} {ma : Option A} (h1 : Ex B sl md t m) (h2 : Ea B sl md tr as ma) : Ea B sl md (tCons t tr) (fun x : α × A => .fz false x.1 :: as x.2) (m.bind fun a => ma.bind fun b => some (a, b)) := fun c hc F O H σ Q s k => by
  cases m with
  | none => cases hc
  | some a =>
    cases ma with
    | none => cases hc
    | some b =>
      cases (show some (a, b) = some c from hc)
      refine h1 a rfl F O H σ _ s fun v F' H' g r1 => ?_
      refine h2 b rfl F' O H' σ _ (s.grow g) fun vs F2 H2 g2 r2 => ?_
      exact k (v :: vs) F2 H2 (g.trans g2) (.cons (Rp.mono (wI g2 md) r1) r2)
theorem reg_upd (k : Ok B F O H) (h : H p = none) (md : Md) : reg B (upd F p o) (upd H p o) md p = some o := match md with
  | .nw => by show dif (upd F p o) B.H0 p = _; rw [uH (k.h0.free h)]; exact zR
  | .fz => zR
  | .hp => zR
def cap : Nat := 100000
theorem cap_lt {n : Nat} (h : n < cap) : n < sizeLine := Nat.lt_trans h (by decide)
theorem cap_le {n : Nat} (h : n <= cap) : n <= sizeLine := Nat.le_trans h (by decide)
def El (B : Bs) (sl : List (Slot K)) (md : Md) (t : TA) {α : Type} [Rp K α] (m : Option (List α)) : Prop :=
  ∀ a, m = some a -> ∀ (F : Hp) (O : Own) (H : Hp) (σ : St) (Q : List V -> Hp -> Prop), At B sl F O H σ -> (∀ (vs : List V) (F' H' : Hp), Grow B F H O F' H' -> A2 (rp K (reg B F' H' md)) vs a -> Q vs H') -> t σ H Q
theorem el_nil : El B sl md tNil (some ([] : List α)) := fun a ha F O H σ Q s k => by cases ha; exact k [] F H (.refl s.1) trivial
theorem wO {tr : TA} {ma : Option (List α)} (h1 : Ex B sl md t m) (h2 : El B sl md tr ma) : El B sl md (tCons t tr) (m.bind fun a => ma.bind fun b => some (a :: b)) := fun c hc F O H σ Q s k => by
  cases m with
  | none => cases hc
  | some a =>
    cases ma with
    | none => cases hc
    | some b =>
      cases (show some (a :: b) = some c from hc)
      refine h1 a rfl F O H σ _ s fun v F' H' g r1 => ?_
      refine h2 b rfl F' O H' σ _ (s.grow g) fun vs F2 H2 g2 r2 => ?_
      exact k (v :: vs) F2 H2 (g.trans g2) ⟨Rp.mono (wI g2 md) r1, r2⟩
def Eo (B : Bs) (sl : List (Slot K)) (md : Md) (t : TE) {α : Type} [Rp K α] (m : Option (List α)) : Prop :=
  ∀ a, m = some a -> ∀ (F : Hp) (O : Own) (H : Hp) (σ : St) (Q : VK), At B sl F O H σ -> (∀ (p : Addr) (vs : List V) (F' H' : Hp), Grow B F H O F' H' -> H' p = none -> A2 (rp K (reg B F' H' md)) vs a -> Q (.ref p) (upd H' p (.lst vs))) -> t σ H Q
theorem Eo.ex {m : Option (List α)} (h : Eo B sl md t m) : Ex B sl md t m := fun a ha F O H σ Q s k => h a ha F O H σ Q s fun p vs F' H' g hp r => by
  have g2 := Grow.new g.ok hp (.lst vs)
  exact k _ _ _ (g.trans g2) ⟨p, vs, rfl, reg_upd g.ok hp md, r.imp fun _ _ => Rp.mono (wI g2 md)⟩
theorem wM : Eo B sl md (tLst tNil) (some ([] : List α)) := fun a ha F O H σ Q s k => by
  cases ha
  exact ⟨Nat.zero_le _, fun p hp => k p [] F H (.refl s.1) hp trivial⟩
theorem eo_lst {t : TA} {ma : Option (List α)} (h : El B sl md t ma) (hl : ∀ a, ma = some a -> a.length <= cap) : Eo B sl md (tLst t) ma := fun a ha F O H σ Q s k =>
  h a ha F O H σ _ s fun vs F' H' g r => ⟨by rw [r.len]; exact cap_le (hl a ha), fun p hp => k p vs F' H' g hp r⟩
theorem ex_tup2 (h1 : Ex B sl md t1 m1) (h2 : Ex B sl md t2 m2) : Ex B sl md (tTup (tCons t1 (tCons t2 tNil))) (m1.bind fun a => m2.bind fun b => some (a, b)) := fun c hc F O H σ Q s kk => by
  obtain ⟨a, b, ha, hb, hf⟩ := bind2 hc
  cases hf
  refine h1 a ha F O H σ _ s fun v F' H' g r1 => ?_
  refine h2 b hb F' O H' σ _ (s.grow g) fun w F2 H2 g2 r2 => ?_
  refine ⟨by show 2 <= sizeLine; decide, fun p hp => ?_⟩
  have g3 := Grow.new g2.ok hp (.tup [v, w])
  exact kk _ _ _ (g.trans (g2.trans g3)) ⟨p, v, w, rfl, reg_upd g2.ok hp md, Rp.mono (wI (g2.trans g3) md) r1, Rp.mono (wI g3 md) r2⟩
def spF (K : PySem.W.Frag) (al : Bool) {A β : Type} [Rp K β] (as : A -> List (Slot K)) (f : A -> Option β) : Sp := fun vs H Q _ =>
  ∃ a b Fa, Same Fa H /\ f a = some b /\ Ar Fa (as a) vs /\ ∀ v H', Same H H' -> rp K (if al = true then ext Fa H H' else dif H' H) v b -> Q v H'
theorem zO {A : Type} {as : A -> List (Slot K)} {f : A -> Option β} {ta : TA} {ma : Option A} (h : Ea B sl .hp ta as ma) : Ex B sl md (tCall (spF K false as f) [] E0 ta) (ma.bind f) := fun c hc F O H σ Q s kk => by
  cases ma with
  | none => cases hc
  | some a =>
    refine h a rfl F O H σ _ s fun vs F' H' g r => ?_
    rw [List.append_nil]
    refine ⟨a, c, H', .refl _, hc, r, fun v H2 s2 r2 => ?_⟩
    have g2 := g.ok.called s2
    refine kk v _ H2 (g.trans g2) ?_
    have r3 := Rp.mono (ext_new (F := F') g.ok.h0 s2) r2
    exact match md with
    | .nw => r3
    | .fz => Rp.mono dif_le r3
    | .hp => Rp.mono (dif_le.trans g2.ok.fh) r3
end
end Ts
namespace Ts
open PySem L2
def push {α : Type} (xs : List α) (a : α) : Option (List α) := if xs.length < cap then some (xs ++ [a]) else none
def setAt {α : Type} (xs : List α) (i : Int) (a : α) : Option (List α) := (ixN xs.length i).bind fun j => some (xs.set j a)
def rangeM (n : Int) : Option (List Int) := if -(2 ^ 62) <= n /\ n < 2 ^ 62 then some ((List.range n.toNat).map Int.ofNat) else none
def foldM {S α : Type} (step : S -> α -> Option S) : List α -> S -> Option S
  | [], s => some s
  | x :: xs, s => (step s x).bind fun s' => foldM step xs s'
inductive Out (S β : Type) | nx (s : S) | rt (b : β)
def foldX {S α β : Type} (step : S -> α -> Option (Out S β)) : List α -> S -> Option (Out S β)
  | [], s => some (.nx s)
  | x :: xs, s => (step s x).bind fun o => match o with
    | .nx s' => foldX step xs s'
    | .rt b => some (.rt b)
def whileM {S : Type} (c : S -> Option Bool) (body : S -> Option S) : Nat -> S -> Option S
  | 0, _ => none
  | k + 1, s => (c s).bind fun b => if b = true then (body s).bind fun s' => whileM c body k s' else some s
def compM {α β : Type} (c : α -> Option Bool) (f : α -> Option β) : List α -> Option (List β)
  | [] => some []
  | x :: xs => (c x).bind fun b => if b = true then (f x).bind fun y => (compM c f xs).bind fun ys => some (y :: ys) else compM c f xs
def Out.els {S β : Type} (o : Out S β) (f : S -> Option β) : Option β := match o with
  | .nx s => f s
  | .rt b => some b
def Out.thn {S S' β : Type} (o : Out S β) (f : S -> Option (Out S' β)) : Option (Out S' β) := match o with
  | .nx s => f s
  | .rt b => some (.rt b)
theorem foldM_app {S α : Type} (step : S -> α -> Option S) : ∀ (xs ys : List α) (s : S), foldM step (xs ++ ys) s = (foldM step xs s).bind fun s' => foldM step ys s'
  | [], ys, s => rfl
  | x :: xs, ys, s => by
    show (step s x).bind _ = ((step s x).bind _).bind _
    cases step s x with
    | none => rfl
    | some s' => exact foldM_app step xs ys s'
theorem foldM_take {S α : Type} {step : S -> α -> Option S} {xs : List α} {s s1 : S} (h : foldM step xs s = some s1) {i : Nat} {x : α} (hx : xs[i]? = some x) : ∃ a b, foldM step (xs.take i) s = some a /\ step a x = some b /\ foldM step (xs.take (i + 1)) s = some b := by
  have e : xs = xs.take (i + 1) ++ xs.drop (i + 1) := (List.take_append_drop _ _).symm
  have e2 : xs.take (i + 1) = xs.take i ++ [x] := by rw [List.take_add_one, hx] <;> rfl
  rw [e, foldM_app] at h
  cases q : foldM step (xs.take (i + 1)) s with
  | none => rw [q] at h; cases h
  | some b =>
    have q' := q
    rw [e2, foldM_app] at q'
    cases z : foldM step (xs.take i) s with
    | none => rw [z] at q'; cases q'
    | some a =>
      rw [z] at q'
      have q2 : (step a x).bind (fun s' => some s') = some b := q'
      refine ⟨a, b, rfl, ?_, rfl⟩
      cases w : step a x with
      | none => rw [w] at q2; cases q2
      | some c => rw [w] at q2; exact q2
section
variable {K : PySem.W.Frag} {B : Bs} {F H F' H' G : Hp} {O : Own} {sl sl2 : List (Slot K)} {σ : St} {md : Md} {α β γ : Type} [Rp K α] [Rp K β] [Rp K γ] {t u v : TS} {te : TE} {m : Option α} {S S' : Type} {al : Bool}
def Sg (B : Bs) (G : Hp) (sl : List (Slot K)) (σ : St) (H : Hp) : Prop := ∃ F O, Same G F /\ At B sl F O H σ
def Rt (K : PySem.W.Frag) {β : Type} [Rp K β] (B : Bs) (al : Bool) (b : β) (v : V) (H' : Hp) : Prop := Same B.H0 H' /\ rp K (if al = true then ext B.Fa B.H0 H' else dif H' B.H0) v b
def Sn (B : Bs) (sl : List (Slot K)) (t : TS) {S : Type} (L : S -> List (Slot K)) (m : Option S) : Prop :=
  ∀ a, m = some a -> ∀ (G : Hp) (D : Ends) (σ : St) (H : Hp), Sg B G sl σ H -> (∀ σ' H', Sg B G (L a) σ' H' -> D.nx σ' H') -> t D σ H
def SB (B : Bs) (sl : List (Slot K)) (t : TS) (al : Bool) {β : Type} [Rp K β] (m : Option β) : Prop :=
  ∀ b, m = some b -> ∀ (G : Hp) (D : Ends) (σ : St) (H : Hp), Sg B G sl σ H -> (∀ v H', Rt K B al b v H' -> D.rt v H') -> t D σ H
def XE (B : Bs) (G : Hp) (al : Bool) (L : S -> List (Slot K)) (D : Ends) (o : Out S β) : Prop := match o with
  | .nx s => ∀ σ' H', Sg B G (L s) σ' H' -> D.nx σ' H'
  | .rt b => ∀ v H', Rt K B al b v H' -> D.rt v H'
def Sx (B : Bs) (sl : List (Slot K)) (t : TS) (al : Bool) {S β : Type} [Rp K β] (L : S -> List (Slot K)) (m : Option (Out S β)) : Prop :=
  ∀ o, m = some o -> ∀ (G : Hp) (D : Ends) (σ : St) (H : Hp), Sg B G sl σ H -> XE B G al L D o -> t D σ H
theorem SB.of {m' m : Option β} (h : SB B sl t al m) (q : m = m') : SB B sl t al m' := q ▸ h
theorem Sn.of {L : S -> List (Slot K)} {m m' : Option S} (h : Sn B sl t L m) (q : m = m') : Sn B sl t L m' := q ▸ h
inductive Le : List (Slot K) -> List (Slot K) -> Prop
  | nil : Le [] []
  | eq {s : Slot K} {a b : List (Slot K)} : Le a b -> Le (s :: a) (s :: b)
  | un {s : Slot K} {a b : List (Slot K)} : Le a b -> Le (s :: a) (.un :: b)
  | fr {n : Bool} {α : Type} [Rp K α] {xs : List α} {a b : List (Slot K)} : Le a b -> Le (.ow n xs :: a) (.fz n xs :: b)
  | old {α : Type} [Rp K α] {x : α} {a b : List (Slot K)} : Le a b -> Le (.fz true x :: a) (.fz false x :: b)
theorem SlotsOk.le {P : Own} (h : Le sl sl2) : ∀ {F : Hp} {σ : St} {O : Own}, Ok B F (P ++ O) H -> SlotsOk B F (lo F (P ++ O) H) H sl σ O -> ∃ F' O', Same F F' /\ Ok B F' (P ++ O') H /\ Same (lo F (P ++ O) H) (lo F' (P ++ O') H) /\ SlotsOk B F' (lo F' (P ++ O') H) H sl2 σ O' := by
  induction h generalizing P with
  | nil => intro F σ O k h; cases h; exact ⟨F, [], .refl _, k, .refl _, .nil⟩
  | eq _ ih =>
    intro F σ O k h
    cases h with
    | un h => obtain ⟨F', O', a, b, c, d⟩ := ih k h; exact ⟨F', O', a, b, c, .un d⟩
    | fz r h => obtain ⟨F', O', a, b, c, d⟩ := ih k h; exact ⟨F', O', a, b, c, .fz (Rp.mono (wN _ a) r) d⟩
    | hs r h => obtain ⟨F', O', a, b, c, d⟩ := ih k h; exact ⟨F', O', a, b, c, .hs r d⟩
    | nu r h => obtain ⟨F', O', a, b, c, d⟩ := ih k h; exact ⟨F', O', a, b, c, .nu (Rp.mono (xS c) r) d⟩
    | @ow _ _ _ _ _ _ O p vs r h =>
      have e : P ++ (p, HO.lst vs) :: O = (P ++ [(p, HO.lst vs)]) ++ O := by simp
      rw [e] at k h
      obtain ⟨F', O', a, b, c, d⟩ := ih k h
      have e' : (P ++ [(p, HO.lst vs)]) ++ O' = P ++ (p, HO.lst vs) :: O' := by simp
      rw [e'] at b c d
      rw [<- e] at c
      exact ⟨F', _ :: O', a, b, c, .ow (r.imp fun _ _ => Rp.mono (wN _ a)) d⟩
    | @od _ _ _ _ _ O p vs r h =>
      have e : P ++ (p, HO.dK vs) :: O = (P ++ [(p, HO.dK vs)]) ++ O := by simp
      rw [e] at k h
      obtain ⟨F', O', a, b, c, d⟩ := ih k h
      have e' : (P ++ [(p, HO.dK vs)]) ++ O' = P ++ (p, HO.dK vs) :: O' := by simp
      rw [e'] at b c d
      rw [<- e] at c
      exact ⟨F', _ :: O', a, b, c, .od (r.imp fun _ _ z => ⟨z.1, Rp.mono a z.2⟩) d⟩
  | un _ ih =>
    intro F σ O k h
    cases h with
    | un h => obtain ⟨F', O', a, b, c, d⟩ := ih k h; exact ⟨F', O', a, b, c, .un d⟩
    | fz r h => obtain ⟨F', O', a, b, c, d⟩ := ih k h; exact ⟨F', O', a, b, c, .un d⟩
    | hs r h => obtain ⟨F', O', a, b, c, d⟩ := ih k h; exact ⟨F', O', a, b, c, .un d⟩
    | nu r h => obtain ⟨F', O', a, b, c, d⟩ := ih k h; exact ⟨F', O', a, b, c, .un d⟩
    | ow r h => obtain ⟨F', O', a, b, c, d⟩ := ih k.drop (h.mono (.refl _) lo_drop (.refl _)); exact ⟨F', O', a, b, lo_drop.trans c, .un d⟩
    | od r h => obtain ⟨F', O', a, b, c, d⟩ := ih k.drop (h.mono (.refl _) lo_drop (.refl _)); exact ⟨F', O', a, b, lo_drop.trans c, .un d⟩
  | @fr n _ _ _ _ _ _ ih =>
    intro F σ O k h
    cases h with
    | @ow _ _ _ _ _ _ O p vs r h =>
      obtain ⟨a1, a2, a3⟩ := k.one
      have sf : Same F (upd F p (.lst vs)) := xV a1 _
      obtain ⟨F', O', a, b, c, d⟩ := ih k.freeze (h.mono sf lo_freeze (.refl _))
      refine ⟨F', O', sf.trans a, b, lo_freeze.trans c, .fz ⟨p, vs, rfl, ?_, r.imp fun _ _ => Rp.mono (wN _ (sf.trans a))⟩ d⟩
      cases n with
      | true => exact (uH a2).trans (a _ _ zR)
      | false => exact a _ _ zR
  | old _ ih =>
    intro F σ O k h
    cases h with
    | fz r h => obtain ⟨F', O', a, b, c, d⟩ := ih k h; exact ⟨F', O', a, b, c, .fz (Rp.mono (dif_le.trans a) r) d⟩
theorem Sg.le (h : Sg B G sl σ H) (l : Le sl sl2) : Sg B G sl2 σ H := by
  obtain ⟨F, O, g, k, s⟩ := h
  obtain ⟨F', O', a, b, _, d⟩ := SlotsOk.le (P := []) l k s
  exact ⟨F', O', g.trans a, b, d⟩
theorem Sg.grow {O' : Own} (g : Same G F) (h : At B sl F O' H σ) (gr : Grow B F H O' F' H') : Sg B G sl σ H' := ⟨F', O', g.trans gr.ff, h.grow gr⟩
theorem zM (L : S -> List (Slot K)) (s : S) (h : Le sl (L s)) : Sn B sl tNext L (some s) := fun a ha G D σ H q k => by cases ha; exact k σ H (q.le h)
theorem zI {L : S -> List (Slot K)} {L' : S' -> List (Slot K)} {m1 : Option S} {f : S -> Option S'} (h1 : Sn B sl t L m1) (h2 : ∀ s, Sn B (L s) u L' (f s)) : Sn B sl (tSeq t u) L' (m1.bind f) := fun a ha G D σ H q k => by
  cases m1 with
  | none => cases ha
  | some s => exact h1 s rfl G _ σ H q fun σ' H' q' => h2 s a ha G D σ' H' q' k
theorem zN {L : S -> List (Slot K)} {m1 : Option S} {f : S -> Option β} (h1 : Sn B sl t L m1) (h2 : ∀ s, SB B (L s) u al (f s)) : SB B sl (tSeq t u) al (m1.bind f) := fun a ha G D σ H q k => by
  cases m1 with
  | none => cases ha
  | some s => exact h1 s rfl G _ σ H q fun σ' H' q' => h2 s a ha G D σ' H' q' k
theorem sb_consx {L : S -> List (Slot K)} {m1 : Option (Out S β)} {f : S -> Option β} (h1 : Sx B sl t al L m1) (h2 : ∀ s, SB B (L s) u al (f s)) : SB B sl (tSeq t u) al (m1.bind fun o => o.els f) := fun a ha G D σ H q k => by
  cases m1 with
  | none => cases ha
  | some o =>
    cases o with
    | nx s => exact h1 _ rfl G _ σ H q fun σ' H' q' => h2 s a ha G D σ' H' q' k
    | rt b => cases ha; exact h1 _ rfl G { D with nx := u D } σ H q k
theorem sx_nil (L : S -> List (Slot K)) (s : S) (h : Le sl (L s)) : Sx B sl tNext al L (some (.nx s) : Option (Out S β)) := fun a ha G D σ H q k => by cases ha; exact k σ H (q.le h)
theorem rt_of (k : Ok B F' O H') (n : Bool) {v : V} {b : β} (r : rp K (reg B F' H' (mdb n)) v b) (hn : n = !al) : Rt K B al b v H' := by
  refine ⟨k.h0, ?_⟩
  cases al with
  | false => subst hn; exact Rp.mono (xS k.fh) r
  | true =>
    subst hn
    refine Rp.mono (fun b o h => ?_) r
    have h : F' b = some o := h
    show ext B.Fa B.H0 H' b = some o
    unfold ext
    cases q : B.H0 b with
    | none => exact k.fh b o h
    | some u =>
      rcases k.fa b o h with z | z
      · exact z
      · rw [q] at z; cases z
theorem yS {m : Option β} (h : Ex B sl (mdb !al) te m) : SB B sl (tSeq (tRet te) u) al m := fun b hb G D σ H s k => by
  obtain ⟨F, O, g, a⟩ := s
  exact h b hb F O H σ _ a fun v F' H' gr r => k v H' (rt_of gr.ok (!al) r rfl)
theorem dif_upd {p : Addr} {o : HO} {H0 : Hp} (h : F p = none) : Same (dif F H0) (dif (upd F p o) H0) := xS (xV h o)
theorem vR {n : Bool} {xs : List α} (i : Nat) (hs : sl[i]? = some (.ow n xs)) (hn : n = !al) : SB B sl (tSeq (tRet (tVar i)) u) al (some xs) := fun b hb G D σ H s k => by
  cases hb
  obtain ⟨F, O, g, a⟩ := s
  obtain ⟨O1, O2, p, vs, rfl, h1, h2, _⟩ := a.2.ow_at hs
  obtain ⟨a1, a2, a3⟩ := a.1.one
  refine ⟨_, h1, k _ H (rt_of a.1.freeze n ⟨p, vs, rfl, ?_, h2.imp fun _ _ => Rp.mono ?_⟩ hn)⟩
  · cases n with
    | true => exact (uH a2).trans zR
    | false => exact zR
  · cases n with
    | true => exact dif_upd a1
    | false => exact xV a1 _
theorem wR {c : TT} {n : Option Bool} {L : S -> List (Slot K)} {m1 m2 : Option S} (hc : Et B sl c n) (h1 : Sn B sl t L m1) (h2 : Sn B sl u L m2) : Sn B sl (tIfS c t u) L (n.bind fun b => if b = true then m1 else m2) := fun a ha G D σ H s k => by
  cases n with
  | none => cases ha
  | some b =>
    obtain ⟨F, O, g, z⟩ := s
    refine hc b rfl F O H σ _ z fun F' H' gr => ?_
    cases b with
    | true => exact iteT (h1 a (by simpa using ha) G D σ H' (Sg.grow g z gr) k)
    | false => exact iteF (h2 a (by simpa using ha) G D σ H' (Sg.grow g z gr) k)
theorem sb_ifr {c : TT} {n : Option Bool} {m1 m2 : Option β} (hc : Et B sl c n) (h1 : SB B sl t al m1) (h2 : SB B sl u al m2) : SB B sl (tSeq (tIfS c t tNext) u) al (n.bind fun b => if b = true then m1 else m2) := fun a ha G D σ H s k => by
  cases n with
  | none => cases ha
  | some b =>
    obtain ⟨F, O, g, z⟩ := s
    refine hc b rfl F O H σ _ z fun F' H' gr => ?_
    cases b with
    | true => exact iteT (h1 a (by simpa using ha) G _ σ H' (Sg.grow g z gr) k)
    | false => exact iteF (h2 a (by simpa using ha) G D σ H' (Sg.grow g z gr) k)
theorem sx_ifr {c : TT} {n : Option Bool} {m1 : Option β} {L : S -> List (Slot K)} {m2 : Option (Out S β)} (hc : Et B sl c n) (h1 : SB B sl t al m1) (h2 : Sx B sl u al L m2) :
    Sx B sl (tSeq (tIfS c t tNext) u) al L (n.bind fun b => if b = true then m1.bind fun b => some (.rt b) else m2) := fun a ha G D σ H s k => by
  cases n with
  | none => cases ha
  | some b =>
    obtain ⟨F, O, g, z⟩ := s
    refine hc b rfl F O H σ _ z fun F' H' gr => ?_
    cases b with
    | true =>
      have e := (show (m1.bind fun b => some (Out.rt b)) = some a by simpa using ha)
      cases m1 with
      | none => cases e
      | some b => cases e; exact iteT (h1 b rfl G _ σ H' (Sg.grow g z gr) k)
    | false => exact iteF (h2 a (by simpa using ha) G D σ H' (Sg.grow g z gr) k)
theorem Sg.set {s : Slot K} {i : Nat} {n : Bool} {a : α} {v : V} {O : Own} (g : Same G F) (h : At B sl F O H σ) (hs : sl[i]? = some s) (ho : isOw s = false) (r : rp K (reg B F H (mdb n)) v a) : Sg B G (sl.set i (.fz n a)) (σ.set i (some v)) H :=
  ⟨F, O, g, h.1, h.2.put (fun _ _ _ z => .fz r z) hs ho⟩
theorem yJ {s : Slot K} (n : Bool) (i : Nat) (hs : sl[i]? = some s) (ho : isOw s = false) (h : Ex B sl (mdb n) te m) : Sn B sl (tAsg te (gName i)) (fun a => sl.set i (.fz n a)) m := fun a ha G D σ H s k => by
  obtain ⟨F, O, g, z⟩ := s
  exact h a ha F O H σ _ z fun v F' H' gr r => k _ _ (Sg.set (g.trans gr.ff) (z.grow gr) hs ho r)
theorem sn_expr (h : Ex B sl md te m) : Sn B sl (tDrop te) (fun _ => sl) m := fun a ha G D σ H s k => by
  obtain ⟨F, O, g, z⟩ := s
  exact h a ha F O H σ _ z fun v F' H' gr r => k _ _ (Sg.grow g z gr)
theorem At.own {s : Slot K} {i : Nat} {n : Bool} {xs : List α} {vs : List V} {p : Addr} (h : At B sl F O H σ) (hs : sl[i]? = some s) (ho : isOw s = false) (hp : H p = none) (r : A2 (rp K (reg B F H (mdb n))) vs xs) :
    ∃ O', At B (sl.set i (.ow n xs)) F O' (upd H p (.lst vs)) (σ.set i (some (.ref p))) := by
  obtain ⟨k, z0⟩ := h
  obtain ⟨O1, O2, rfl, z⟩ := z0.own (s' := .ow n xs) (x := some (.ref p)) (c := (p, .lst vs)) (fun _ _ _ z => .ow r z) hs ho
  exact ⟨_, k.add hp, z.mono (.refl _) (lo_add hp) (xV hp _)⟩
theorem wJ {s : Slot K} {m : Option (List α)} (n : Bool) (i : Nat) (hs : sl[i]? = some s) (ho : isOw s = false) (h : Eo B sl (mdb n) te m) : Sn B sl (tAsg te (gName i)) (fun a => sl.set i (.ow n a)) m := fun a ha G D σ H s k => by
  obtain ⟨F, O, g, z⟩ := s
  refine h a ha F O H σ _ z fun p vs F' H' gr hp r => k _ _ ?_
  obtain ⟨O', z'⟩ := (z.grow gr).own hs ho hp r
  exact ⟨F', O', g.trans gr.ff, z'⟩
theorem sn_dnew {s : Slot K} (i : Nat) (hs : sl[i]? = some s) (ho : isOw s = false) : Sn B sl (tAsg tDNewK (gName i)) (fun _ => sl.set i (.od ([] : List (Key × α)))) (some ()) := fun a ha G D σ H s k => by
  obtain ⟨F, O, g, k0, z0⟩ := s
  intro p hp
  refine k _ _ ?_
  obtain ⟨O1, O2, rfl, z'⟩ := z0.own (s' := .od ([] : List (Key × α))) (x := some (.ref p)) (c := (p, .dK [])) (fun _ _ _ z => .od trivial z) hs ho
  exact ⟨F, _, g, k0.add hp, z'.mono (.refl _) (lo_add hp) (xV hp _)⟩
theorem set_self {α : Type} : ∀ {l : List α} {i : Nat} {x : α}, l[i]? = some x -> l.set i x = l
  | [], _, _, h => by simp at h
  | _ :: _, 0, _, h => by simp at h; subst h; rfl
  | _ :: l, i + 1, _, h => congrArg _ (set_self (l := l) (i := i) (by simpa using h))
theorem all_set {P : Slot K -> Bool} {s : Slot K} (hs : P s = true) : ∀ {l : List (Slot K)} {i : Nat}, l.all P = true -> (l.set i s).all P = true
  | [], _, h => h
  | _ :: _, 0, h => by rw [List.all_cons, Bool.and_eq_true] at h; rw [List.set_cons_zero, List.all_cons, Bool.and_eq_true]; exact ⟨hs, h.2⟩
  | _ :: l, i + 1, h => by rw [List.all_cons, Bool.and_eq_true] at h; rw [List.set_cons_succ, List.all_cons, Bool.and_eq_true]; exact ⟨h.1, all_set hs h.2⟩
theorem At.chg {i : Nat} {n : Bool} {xs : List α} (h : At B sl F O H σ) (hs : sl[i]? = some (.ow n xs)) (hh : sl.all (fun s => !isHs s) = true) : ∃ p vs, σ[i]? = some (some (.ref p)) /\ H p = some (.lst vs) /\ A2 (rp K (reg B F H (mdb n))) vs xs /\
    ∀ (ws : List V) (ys : List α), A2 (rp K (reg B F H (mdb n))) ws ys -> ∃ O', At B (sl.set i (.ow n ys)) F O' (upd H p (.lst ws)) σ := by
  obtain ⟨k, z0⟩ := h
  obtain ⟨O1, O2, p, vs, rfl, h1, h2, h3, _⟩ := z0.ow_at hs
  refine ⟨p, vs, h1, k.one.2.2, h2, fun ws ys r => ⟨_, k.chg (.lst ws), ?_⟩⟩
  have z := h3 (.ow n ys) (some (.ref p)) (p, .lst ws) fun _ _ _ z => .ow r z
  rw [set_self h1] at z
  exact z.mut lo_chg (all_set rfl hh)
theorem At.chgD {i : Nat} {kvs : List (Key × α)} (h : At B sl F O H σ) (hs : sl[i]? = some (.od kvs)) (hh : sl.all (fun s => !isHs s) = true) : ∃ p ks, σ[i]? = some (some (.ref p)) /\ H p = some (.dK ks) /\ A2 (fun (x : Key × V) (y : Key × α) => x.1 = y.1 /\ rp K F x.2 y.2) ks kvs /\
    ∀ (ws : List (Key × V)) (ys : List (Key × α)), A2 (fun (x : Key × V) (y : Key × α) => x.1 = y.1 /\ rp K F x.2 y.2) ws ys -> ∃ O', At B (sl.set i (.od ys)) F O' (upd H p (.dK ws)) σ := by
  obtain ⟨k, z0⟩ := h
  obtain ⟨O1, O2, p, vs, rfl, h1, h2, h3, _⟩ := z0.od_at hs
  refine ⟨p, vs, h1, k.one.2.2, h2, fun ws ys r => ⟨_, k.chg (.dK ws), ?_⟩⟩
  have z := h3 (.od ys) (some (.ref p)) (p, .dK ws) fun _ _ _ z => .od r z
  rw [set_self h1] at z
  exact z.mut lo_chg (all_set rfl hh)
theorem yV {n : Bool} {xs : List α} (i : Nat) (hs : sl[i]? = some (.ow n xs)) (hh : sl.all (fun s => !isHs s) = true) (h : Ex B sl (mdb n) te m) :
    Sn B sl (tDrop (tBM K "list" rAppend (tVar i) (tCons te tNil))) (fun ys => sl.set i (.ow n ys)) (m.bind fun a => push xs a) := fun ys ha G D σ H s k => by
  cases m with
  | none => cases ha
  | some a =>
    have ha' : push xs a = some ys := ha
    unfold push at ha'
    split at ha'
    case isFalse => cases ha'
    rename_i hl
    cases ha'
    obtain ⟨F, O, g, z⟩ := s
    obtain ⟨p, vs, h1, h2, h3, _⟩ := z.chg hs hh
    refine ⟨_, h1, .inl ⟨rfl, _, SqL.of h2⟩, ?_⟩
    refine h a rfl F O H σ _ z fun v F' H' gr r => ?_
    obtain ⟨p', vs', h1', h2', h3', h4'⟩ := (z.grow gr).chg hs hh
    have e := h1.symm.trans h1'
    cases e
    obtain ⟨O', z'⟩ := h4' (vs' ++ [v]) (xs ++ [a]) (h3'.snoc r)
    exact ⟨p, vs', v, rfl, rfl, h2', cap_lt (by rw [h3'.len]; exact hl), k _ _ ⟨F', O', g.trans gr.ff, z'⟩⟩
theorem sn_setix {n : Bool} {xs : List α} {mi : Option Int} {ti : TE} (i : Nat) (hs : sl[i]? = some (.ow n xs)) (hh : sl.all (fun s => !isHs s) = true) (hv : Ex B sl (mdb n) te m) (hi : Ex B sl .hp ti mi) :
    Sn B sl (tAsg te (gSub (tVar i) ti rSetL)) (fun ys => sl.set i (.ow n ys)) (m.bind fun a => mi.bind fun k => setAt xs k a) := fun ys ha G D σ H s k => by
  cases m with
  | none => cases ha
  | some a =>
    cases mi with
    | none => cases ha
    | some ix =>
      have ha' : setAt xs ix a = some ys := ha
      obtain ⟨F, O, g, z⟩ := s
      refine hv a rfl F O H σ _ z fun v F' H' gr r => ?_
      obtain ⟨p, vs, h1, h2, h3, _⟩ := (z.grow gr).chg hs hh
      refine ⟨_, h1, ?_⟩
      refine hi ix rfl F' O H' σ _ (z.grow gr) fun w F2 H2 gr2 rw => ?_
      cases rw
      obtain ⟨p', vs', h1', h2', h3', h4'⟩ := ((z.grow gr).grow gr2).chg hs hh
      have e := h1.symm.trans h1'
      cases e
      unfold setAt at ha'
      cases ej : ixN xs.length ix with
      | none => rw [ej] at ha'; cases ha'
      | some jj =>
        rw [ej] at ha'
        cases ha'
        obtain ⟨O', z'⟩ := h4' (vs'.set jj v) (xs.set jj a) (h3'.set (Rp.mono (wI gr2 (mdb n)) r) jj)
        exact ⟨p, vs', ix, jj, rfl, rfl, h2', by rw [h3'.len, ej], k _ _ ⟨F2, O', (g.trans gr.ff).trans gr2.ff, z'⟩⟩
end
end Ts
namespace Ts
open PySem L2
section
variable {K : PySem.W.Frag} {B : Bs} {F H F' H' G : Hp} {O : Own} {sl sl2 : List (Slot K)} {σ : St} {md : Md} {α β γ : Type} [Rp K α] [Rp K β] [Rp K γ] {tb u v : TS} {te : TE} {m : Option α} {S S' : Type} {al n : Bool}
theorem foldX_app {S α β : Type} (step : S -> α -> Option (Out S β)) : ∀ (xs ys : List α) (s : S), foldX step (xs ++ ys) s = (foldX step xs s).bind fun o => o.thn fun s' => foldX step ys s'
  | [], ys, s => rfl
  | x :: xs, ys, s => by
    show (step s x).bind _ = ((step s x).bind _).bind _
    cases step s x with
    | none => rfl
    | some o =>
      cases o with
      | nx s' => exact foldX_app step xs ys s'
      | rt b => rfl
theorem foldX_take {S α β : Type} {step : S -> α -> Option (Out S β)} {xs : List α} {s a : S} {i : Nat} {x : α} (h : foldX step (xs.take i) s = some (.nx a)) (hx : xs[i]? = some x) : foldX step (xs.take (i + 1)) s = step a x := by
  have e2 : xs.take (i + 1) = xs.take i ++ [x] := by rw [List.take_add_one, hx] <;> rfl
  rw [e2, foldX_app, h]
  show (step a x).bind _ = step a x
  cases step a x with
  | none => rfl
  | some o => cases o <;> rfl
theorem foldX_end {S α β : Type} {step : S -> α -> Option (Out S β)} {xs : List α} {s : S} {o : Out S β} {i : Nat} {b : β} (h : foldX step xs s = some o) (hi : foldX step (xs.take i) s = some (.rt b)) : o = .rt b := by
  rw [<- List.take_append_drop i xs, foldX_app, hi] at h
  cases h
  rfl
theorem foldX_some {S α β : Type} {step : S -> α -> Option (Out S β)} {xs : List α} {s : S} {o : Out S β} (i : Nat) (h : foldX step xs s = some o) : ∃ o', foldX step (xs.take i) s = some o' := by
  rw [<- List.take_append_drop i xs, foldX_app] at h
  cases q : foldX step (xs.take i) s with
  | none => rw [q] at h; cases h
  | some o' => exact ⟨o', rfl⟩
def Yl (K : PySem.W.Frag) (B : Bs) (F' : Hp) (n : Bool) (J : It) {α : Type} [Rp K α] (xs : List α) : Prop := ∀ (i : Nat) (F2 : Hp) (O2 : Own) (H2 : Hp), Same F' F2 -> Ok B F2 O2 H2 ->
  (xs.length <= i -> J.stop i H2) /\ ∀ x, xs[i]? = some x -> J.go i H2 /\ ∀ v H3, J.yld i H2 v H3 -> ∃ F3, Grow B F2 H2 O2 F3 H3 /\ rp K (reg B F3 H3 (mdb n)) v x
def Ei (B : Bs) (sl : List (Slot K)) (n : Bool) (wi : TI) {α : Type} [Rp K α] (mi : Option (List α)) : Prop :=
  ∀ xs, mi = some xs -> ∀ (F : Hp) (O : Own) (H : Hp) (σ : St) (R : It -> Hp -> Prop), At B sl F O H σ -> (∀ (J : It) (F' H' : Hp), Grow B F H O F' H' -> Yl K B F' n J xs -> R J H') -> wi σ H R
def Tg (B : Bs) (sl : List (Slot K)) (n : Bool) (g : TG) {α : Type} [Rp K α] (L : α -> List (Slot K)) : Prop :=
  ∀ (v : V) (x : α) (F : Hp) (O : Own) (H : Hp) (σ : St) (Q : St -> Hp -> Prop), At B sl F O H σ -> rp K (reg B F H (mdb n)) v x -> (∀ σ', At B (L x) F O H σ' -> Q σ' H) -> g v σ H Q
theorem zV {s : Slot K} (i : Nat) (hs : sl[i]? = some s) (ho : isOw s = false) : Tg B sl n (gName i) (fun x : α => sl.set i (.fz n x)) := fun v x F O H σ Q a r k => k _ ⟨a.1, a.2.put (fun _ _ _ z => .fz r z) hs ho⟩
theorem tup_reg {p : Addr} {o : HO} (k : Ok B F O H) (h : reg B F H (mdb n) p = some o) : H p = some o := reg_le k n p o h
theorem tg_tup {s s' : Slot K} (i j : Nat) (hs : sl[i]? = some s) (ho : isOw s = false) (hs' : ∀ x : Slot K, (sl.set i x)[j]? = some s') (ho' : isOw s' = false) :
    Tg B sl n (gTup K 2 (gCons (gName i) (gCons (gName j) gNil))) (fun x : α × β => (sl.set i (.fz n x.1)).set j (.fz n x.2)) := fun v x F O H σ Q a r k => by
  obtain ⟨p, w1, w2, rfl, h1, h2, h3⟩ := r
  refine ⟨p, [w1, w2], rfl, .inl (.inl (tup_reg a.1 h1)), rfl, w1, [w2], rfl, w2, [], rfl, rfl, ?_⟩
  exact k _ ⟨a.1, (a.2.put (s' := .fz n x.1) (fun _ _ _ z => .fz h2 z) hs ho).put (fun _ _ _ z => .fz h3 z) (hs' _) ho'⟩
theorem xE {mi : Option (List α)} {wi : TI} {g : TG} {L : S -> List (Slot K)} {Lx : S -> α -> List (Slot K)} {step : S -> α -> Option S} (s0 : S) (h0 : Le sl (L s0)) (hi : Ei B (L s0) n wi mi) (hg : ∀ s, Tg B (L s) n g (Lx s)) (hb : ∀ s x, Sn B (Lx s x) tb L (step s x)) :
    Sn B sl (tFor wi g tb) L (mi.bind fun xs => foldM step xs s0) := fun s1 hs1 G D σ H q k => by
  cases mi with
  | none => cases hs1
  | some xs =>
    have hs1 : foldM step xs s0 = some s1 := hs1
    obtain ⟨F, O, g0, a⟩ := q.le h0
    refine hi xs rfl F O H σ _ a fun J F' H' gr yl => ?_
    refine ⟨fun i m σ H => m = xs.length - i /\ i <= xs.length /\ ∃ s, foldM step (xs.take i) s0 = some s /\ Sg B F' (L s) σ H, ⟨xs.length, rfl, Nat.zero_le _, s0, rfl, F', O, .refl _, a.grow gr⟩, ?_⟩
    rintro i m σ H ⟨rfl, hil, s, hs, F2, O2, sf, a2⟩
    obtain ⟨y1, y2⟩ := yl i F2 O2 H sf a2.1
    by_cases hlt : i < xs.length
    · obtain ⟨go, y3⟩ := y2 xs[i] (List.getElem?_eq_getElem hlt)
      obtain ⟨s', s'', e1, e2, e3⟩ := foldM_take hs1 (List.getElem?_eq_getElem hlt)
      rw [hs] at e1
      cases e1
      refine .inr ⟨go, Sg B F' (L s''), fun σ' H' z => ⟨xs.length - (i + 1), by omega, rfl, hlt, s'', e3, z⟩, fun v H3 yd => ?_⟩
      obtain ⟨F3, g3, r3⟩ := y3 v H3 yd
      exact hg s v xs[i] F3 O2 H3 σ _ (a2.grow g3) r3 fun σ' a' => hb s xs[i] s'' e2 F' _ σ' H3 ⟨F3, O2, sf.trans g3.ff, a'⟩ fun σ2 H2 z => z
    · have e : i = xs.length := by omega
      subst e
      rw [List.take_length, hs1] at hs
      cases hs
      exact .inl ⟨y1 (Nat.le_refl _), k σ H ⟨F2, O2, (g0.trans gr.ff).trans sf, a2⟩⟩
theorem sx_for {mi : Option (List α)} {wi : TI} {g : TG} {L : S -> List (Slot K)} {Lx : S -> α -> List (Slot K)} {step : S -> α -> Option (Out S β)} (s0 : S) (h0 : Le sl (L s0)) (hi : Ei B (L s0) n wi mi) (hg : ∀ s, Tg B (L s) n g (Lx s)) (hb : ∀ s x, Sx B (Lx s x) tb al L (step s x)) :
    Sx B sl (tFor wi g tb) al L (mi.bind fun xs => foldX step xs s0) := fun o ho G D σ H q k => by
  cases mi with
  | none => cases ho
  | some xs =>
    have ho : foldX step xs s0 = some o := ho
    obtain ⟨F, O, g0, a⟩ := q.le h0
    refine hi xs rfl F O H σ _ a fun J F' H' gr yl => ?_
    refine ⟨fun i m σ H => m = xs.length - i /\ i <= xs.length /\ ∃ s, foldX step (xs.take i) s0 = some (.nx s) /\ Sg B F' (L s) σ H, ⟨xs.length, rfl, Nat.zero_le _, s0, rfl, F', O, .refl _, a.grow gr⟩, ?_⟩
    rintro i m σ H ⟨rfl, hil, s, hs, F2, O2, sf, a2⟩
    obtain ⟨y1, y2⟩ := yl i F2 O2 H sf a2.1
    by_cases hlt : i < xs.length
    · obtain ⟨go, y3⟩ := y2 xs[i] (List.getElem?_eq_getElem hlt)
      have e2 := foldX_take hs (List.getElem?_eq_getElem hlt)
      obtain ⟨o', e3⟩ := foldX_some (i + 1) ho
      refine .inr ⟨go, fun σ H => ∃ s', o' = .nx s' /\ Sg B F' (L s') σ H, fun σ' H' ⟨s', e, z⟩ => ⟨xs.length - (i + 1), by omega, rfl, hlt, s', by rw [e3, e], z⟩, fun v H3 yd => ?_⟩
      obtain ⟨F3, g3, r3⟩ := y3 v H3 yd
      refine hg s v xs[i] F3 O2 H3 σ _ (a2.grow g3) r3 fun σ' a' => hb s xs[i] o' (by rw [<- e2, e3]) F' _ σ' H3 ⟨F3, O2, sf.trans g3.ff, a'⟩ ?_
      cases o' with
      | nx s' => exact fun σ2 H2 z => ⟨s', rfl, z⟩
      | rt b =>
        have := foldX_end ho e3
        subst this
        exact k
    · have e : i = xs.length := by omega
      subst e
      rw [List.take_length, ho] at hs
      cases hs
      exact .inl ⟨y1 (Nat.le_refl _), k σ H ⟨F2, O2, (g0.trans gr.ff).trans sf, a2⟩⟩
theorem sn_while {c : TT} {L : S -> List (Slot K)} {cM : S -> Option Bool} {bM : S -> Option S} (fuel : Nat) (s0 : S) (h0 : Le sl (L s0)) (hc : ∀ s, Et B (L s) c (cM s)) (hb : ∀ s, Sn B (L s) tb L (bM s)) : Sn B sl (tWhile c tb) L (whileM cM bM fuel s0) := fun s1 hs1 G D σ H q k => by
  refine ⟨fun m σ H => ∃ s, whileM cM bM m s = some s1 /\ Sg B G (L s) σ H, ⟨fuel, s0, hs1, q.le h0⟩, ?_⟩
  rintro m σ H ⟨s, hs, F, O, g, a⟩
  cases m with
  | zero => cases hs
  | succ m =>
    have hs : ((cM s).bind fun b => if b = true then (bM s).bind fun s' => whileM cM bM m s' else some s) = some s1 := hs
    cases e : cM s with
    | none => rw [e] at hs; cases hs
    | some b =>
      rw [e] at hs
      refine hc s b e F O H σ _ a fun F' H' gr => ?_
      cases b with
      | true =>
        have hs : ((bM s).bind fun s' => whileM cM bM m s') = some s1 := by simpa using hs
        cases e2 : bM s with
        | none => rw [e2] at hs; cases hs
        | some s' =>
          rw [e2] at hs
          exact iteT ⟨Sg B G (L s'), fun σ' H' z => ⟨m, Nat.lt_succ_self _, s', hs, z⟩, hb s s' e2 G _ σ H' (Sg.grow g a gr) fun _ _ z => z⟩
      | false =>
        have hs : some s = some s1 := by simpa using hs
        cases hs
        exact iteF (k σ H' (Sg.grow g a gr))
theorem yM {mi : Option (List α)} (h : Ex B sl (mdb n) te mi) : Ei B sl n (iList K te) mi := fun xs hx F O H σ R a k => by
  refine h xs hx F O H σ _ a fun v F' H' gr r => ?_
  obtain ⟨p, vs, rfl, h1, h2⟩ := r
  refine ⟨p, rfl, ⟨vs, SqL.of (reg_le gr.ok n p _ h1)⟩, k _ F' H' gr fun i F2 O2 H2 sf k2 => ?_⟩
  have hq : SqL K H2 p vs := SqL.of (k2.fh _ _ (sf _ _ (by cases n with | true => exact dif_le _ _ h1 | false => exact h1)))
  refine ⟨fun hl => ⟨vs, hq, by rw [h2.len]; exact hl⟩, fun x hx => ?_⟩
  obtain ⟨w, hw, rw⟩ := h2.at2 hx
  refine ⟨⟨vs, w, hq, hw⟩, fun v H3 yd => ?_⟩
  obtain ⟨e, y⟩ := yd
  subst e
  have := (hw.symm.trans (y vs hq))
  cases this
  exact ⟨F2, .refl k2, Rp.mono (wN n sf) rw⟩
theorem range_at {k i : Nat} {x : Int} (h : ((List.range k).map Int.ofNat)[i]? = some x) : i < k /\ x = i := by
  rw [List.getElem?_map] at h
  by_cases q : i < k
  · rw [List.getElem?_range q] at h; cases h; exact ⟨q, rfl⟩
  · rw [List.getElem?_eq_none (by rw [List.length_range]; omega)] at h; cases h
theorem xQ {mi : Option Int} (h : Ex B sl .hp te mi) : Ei B sl n (iRng1 (tCons te tNil)) (mi.bind rangeM) := fun xs hx F O H σ R a k => by
  cases mi with
  | none => cases hx
  | some j =>
    have hx : rangeM j = some xs := hx
    unfold rangeM at hx
    split at hx
    case isFalse => cases hx
    rename_i hb
    cases hx
    refine h j rfl F O H σ _ a fun v F' H' gr r => ?_
    cases r
    refine ⟨j, rfl, hb.1, hb.2, k _ F' H' gr fun i F2 O2 H2 sf k2 => ⟨fun hl => ?_, fun x hx => ?_⟩⟩
    · rw [List.length_map, List.length_range] at hl; exact hl
    · obtain ⟨h1, rfl⟩ := range_at hx
      refine ⟨h1, fun v H3 yd => ?_⟩
      obtain ⟨rfl, rfl⟩ := yd
      exact ⟨F2, .refl k2, by show V.int (0 + (i : Int)) = V.int i; rw [Int.zero_add]⟩
def enumL {α : Type} (xs : List α) : List (Int × α) := ((List.range xs.length).map Int.ofNat).zip xs
theorem enumL_at {α : Type} {xs : List α} {i : Nat} {x : Int × α} (h : (enumL xs)[i]? = some x) : x.1 = i /\ xs[i]? = some x.2 := by
  unfold enumL at h
  rw [List.getElem?_zip_eq_some] at h
  exact ⟨(range_at h.1).2, h.2⟩
theorem enumL_len {α : Type} (xs : List α) : (enumL xs).length = xs.length := by unfold enumL; simp
theorem ei_enum {mi : Option (List α)} (h : Ex B sl (mdb n) te mi) : Ei B sl n (iEnum K (tCons te tNil)) (mi.bind fun xs => some (enumL xs)) := fun xs hx F O H σ R a k => by
  cases mi with
  | none => cases hx
  | some zs =>
    cases (show some (enumL zs) = some xs from hx)
    refine h zs rfl F O H σ _ a fun v F' H' gr r => ?_
    obtain ⟨p, vs, rfl, h1, h2⟩ := r
    refine ⟨p, rfl, ⟨vs, SqL.of (reg_le gr.ok n p _ h1)⟩, k _ F' H' gr fun i F2 O2 H2 sf k2 => ?_⟩
    have hq : SqL K H2 p vs := SqL.of (k2.fh _ _ (sf _ _ (by cases n with | true => exact dif_le _ _ h1 | false => exact h1)))
    refine ⟨fun hl => ⟨vs, hq, by rw [h2.len, <- enumL_len]; exact hl⟩, fun x hx => ?_⟩
    obtain ⟨e1, e2⟩ := enumL_at hx
    obtain ⟨w, hw, rw⟩ := h2.at2 e2
    refine ⟨⟨vs, w, hq, hw⟩, fun v H3 yd => ?_⟩
    obtain ⟨t, x', rfl, ht, rfl, y⟩ := yd
    have := (hw.symm.trans (y vs hq))
    cases this
    have g3 := Grow.new k2 ht (.tup [.int i, w])
    refine ⟨_, g3, t, .int i, w, rfl, ?_, ?_, Rp.mono (wN n (sf.trans g3.ff)) rw⟩
    · exact reg_upd k2 ht (mdb n)
    · rw [e1]; rfl
def compL {α β : Type} (c : α -> Option Bool) (f : α -> Option β) (xs : List α) : Option (List β) := if xs.length < cap then compM c f xs else none
theorem compM_app {α β : Type} (c : α -> Option Bool) (f : α -> Option β) : ∀ (xs ys : List α), compM c f (xs ++ ys) = (compM c f xs).bind fun a => (compM c f ys).bind fun b => some (a ++ b)
  | [], ys => by
    rw [List.nil_append]
    show compM c f ys = (compM c f ys).bind fun b => some ([] ++ b)
    cases compM c f ys <;> rfl
  | x :: xs, ys => by
    show (c x).bind _ = ((c x).bind _).bind _
    cases c x with
    | none => rfl
    | some b =>
      cases b with
      | true =>
        show (f x).bind _ = ((f x).bind _).bind _
        cases f x with
        | none => rfl
        | some y =>
          show (compM c f (xs ++ ys)).bind _ = ((compM c f xs).bind _).bind _
          rw [compM_app c f xs ys]
          cases compM c f xs with
          | none => rfl
          | some a =>
            show ((compM c f ys).bind _).bind _ = (compM c f ys).bind _
            cases compM c f ys <;> rfl
      | false => exact compM_app c f xs ys
theorem compM_len {α β : Type} (c : α -> Option Bool) (f : α -> Option β) : ∀ {xs : List α} {ys : List β}, compM c f xs = some ys -> ys.length <= xs.length
  | [], ys, h => by cases h; exact Nat.le_refl _
  | x :: xs, ys, h => by
    have h : ((c x).bind fun b => if b = true then (f x).bind fun y => (compM c f xs).bind fun ys => some (y :: ys) else compM c f xs) = some ys := h
    cases e : c x with
    | none => rw [e] at h; cases h
    | some b =>
      rw [e] at h
      cases b with
      | true =>
        have h : ((f x).bind fun y => (compM c f xs).bind fun ys => some (y :: ys)) = some ys := by simpa using h
        cases e2 : f x with
        | none => rw [e2] at h; cases h
        | some y =>
          rw [e2] at h
          cases e3 : compM c f xs with
          | none => rw [e3] at h; cases h
          | some zs =>
            rw [e3] at h
            cases h
            exact Nat.succ_le_succ (compM_len c f e3)
      | false =>
        have h : compM c f xs = some ys := by simpa using h
        exact Nat.le_succ_of_le (compM_len c f h)
theorem compM_take {α β : Type} {c : α -> Option Bool} {f : α -> Option β} {xs : List α} {zs : List β} (i : Nat) (h : compM c f xs = some zs) : ∃ ys, compM c f (xs.take i) = some ys := by
  rw [<- List.take_append_drop i xs, compM_app] at h
  cases q : compM c f (xs.take i) with
  | none => rw [q] at h; cases h
  | some o' => exact ⟨o', rfl⟩
theorem compM_step {α β : Type} {c : α -> Option Bool} {f : α -> Option β} {xs : List α} {zs ys : List β} {i : Nat} {x : α} (h : compM c f (xs.take (i + 1)) = some zs) (hy : compM c f (xs.take i) = some ys) (hx : xs[i]? = some x) :
    (c x = some false /\ zs = ys) \/ ∃ y, c x = some true /\ f x = some y /\ zs = ys ++ [y] := by
  have e2 : xs.take (i + 1) = xs.take i ++ [x] := by rw [List.take_add_one, hx] <;> rfl
  rw [e2, compM_app, hy] at h
  have h : (((c x).bind fun b => if b = true then (f x).bind fun y => some [y] else some []).bind fun b => some (ys ++ b)) = some zs := h
  cases e : c x with
  | none => rw [e] at h; cases h
  | some b =>
    rw [e] at h
    cases b with
    | true =>
      have h : (((f x).bind fun y => some [y]).bind fun b => some (ys ++ b)) = some zs := by simpa using h
      cases e2 : f x with
      | none => rw [e2] at h; cases h
      | some y => rw [e2] at h; cases h; exact .inr ⟨y, rfl, rfl, rfl⟩
    | false =>
      have h : some (ys ++ []) = some zs := by simpa using h
      rw [List.append_nil] at h
      cases h
      exact .inl ⟨rfl, rfl⟩
abbrev capS : Slot K -> Slot K
  | .un => .un
  | @Slot.fz _ n _ i a => @Slot.fz _ n _ i a
  | @Slot.hs _ _ i a => @Slot.hs _ _ i a
  | @Slot.nu _ _ i a => @Slot.hs _ _ i a
  | @Slot.ow _ _ _ i xs => @Slot.hs _ _ _ xs
  | @Slot.od _ _ _ _ => .un
theorem Grow.lift (k : Ok B F O H) (g : Grow B F H [] F' H') : Grow B F H O F' H' :=
  ⟨g.ff, g.hh, ⟨g.ok.fh, g.ok.h0, g.ok.fa, fun x hx => by
    obtain ⟨a1, a2, a3⟩ := k.fo x hx
    exact ⟨g.nw _ a1 (by rw [a3]; intro z; cases z), a2, g.hh _ _ a3⟩, k.nd⟩, g.nw⟩
theorem Ok.nil (k : Ok B F O H) : Ok B F [] H := ⟨k.fh, k.h0, k.fa, fun x hx => (by cases hx), (by simp)⟩
theorem SlotsOk.one (a : At B sl F O H σ) (L : Hp) (j : Nat) {s : Slot K} (hs : sl[j]? = some s) : ∀ {sl' : List (Slot K)} {σ' : St}, SlotsOk B F L H sl' σ' [] -> SlotsOk B F L H (capS s :: sl') ((σ[j]?).getD none :: σ') [] := fun {sl' σ'} h => by
  cases s with
  | un => exact .un h
  | fz n b => obtain ⟨v, h1, h2⟩ := a.2.fz_at hs; rw [h1]; exact .fz h2 h
  | hs b => obtain ⟨v, h1, h2⟩ := a.2.hs_at hs; rw [h1]; exact .hs h2 h
  | nu b => obtain ⟨v, h1, h2⟩ := a.2.nu_at hs; rw [h1]; exact .hs (Rp.mono (dif_le.trans lo_le) h2) h
  | ow n xs =>
    obtain ⟨k, z0⟩ := a
    obtain ⟨O1, O2, p, vs, rfl, h1, h2, _⟩ := z0.ow_at hs
    rw [h1]
    exact .hs ⟨p, vs, rfl, k.one.2.2, h2.imp fun _ _ => Rp.mono (reg_le k n)⟩ h
  | od kvs => exact .un h
def slIn (sl : List (Slot K)) (n : Nat) (ix : List Nat) : List (Slot K) := List.replicate n .un ++ ix.map fun j => capS ((sl[j]?).getD .un)
theorem slIn_ok (a : At B sl F O H σ) (L : Hp) (n : Nat) : ∀ (ix : List Nat), (∀ j ∈ ix, j < sl.length) -> SlotsOk B F L H (slIn sl n ix) (σIn σ n ix) [] := fun ix hix => by
  unfold slIn σIn
  induction n with
  | zero =>
    show SlotsOk B F L H ([] ++ _) ([] ++ _) []
    rw [List.nil_append, List.nil_append]
    induction ix with
    | nil => exact .nil
    | cons j ix ih =>
      rw [List.map_cons, List.map_cons]
      have hl := hix j List.mem_cons_self
      have hj : sl[j]? = some sl[j] := List.getElem?_eq_getElem hl
      have z := SlotsOk.one a L j hj (ih fun k hk => hix k (List.mem_cons_of_mem _ hk))
      rw [show (sl[j]?).getD .un = sl[j] by rw [hj] <;> rfl]
      exact z
  | succ n ih => exact .un ih
inductive Le0 : List (Slot K) -> List (Slot K) -> Prop
  | nil : Le0 [] []
  | eq {s : Slot K} {a b : List (Slot K)} : Le0 a b -> Le0 (s :: a) (s :: b)
  | un {s : Slot K} {a b : List (Slot K)} : Le0 a b -> Le0 (s :: a) (.un :: b)
theorem SlotsOk.le0 {L : Hp} (l : Le0 sl sl2) : ∀ {σ : St}, SlotsOk B F L H sl σ [] -> SlotsOk B F L H sl2 σ [] := by
  induction l with
  | nil => intro σ h; exact h
  | eq _ ih =>
    intro σ h
    cases h with
    | un h => exact .un (ih h)
    | fz r h => exact .fz r (ih h)
    | hs r h => exact .hs r (ih h)
    | nu r h => exact .nu r (ih h)
  | un _ ih =>
    intro σ h
    cases h with
    | un h => exact .un (ih h)
    | fz r h => exact .un (ih h)
    | hs r h => exact .un (ih h)
    | nu r h => exact .un (ih h)
theorem wA {mi : Option (List α)} {wi : TI} {g : TG} {tc : TT} {slI : List (Slot K)} {Lx : α -> List (Slot K)} {c : α -> Option Bool} {f : α -> Option β} {no : Nat} {ix : List Nat} (hix : (ix.all fun j => decide (j < sl.length)) = true) (hI : slI = slIn sl no ix)
    (hi : Ei B sl n wi mi) (hg : Tg B slI n g Lx) (hc : ∀ x, Et B (Lx x) tc (c x)) (he : ∀ x, Ex B (Lx x) md te (f x)) (hle : ∀ x, Le0 (Lx x) slI) :
    Eo B sl md (tComp no ix wi g tc te) (mi.bind fun xs => compL c f xs) := fun zs hz F O H σ Q a k => by
  cases mi with
  | none => cases hz
  | some xs =>
    have hz : compL c f xs = some zs := hz
    unfold compL at hz
    split at hz
    case isFalse => cases hz
    rename_i hcap
    have hcl := cap_lt hcap
    refine hi xs rfl F O H σ _ a fun J F' H' gr yl => ?_
    have a' := a.grow gr
    refine ⟨fun i m ys σ2 H2 => m = xs.length - i /\ i <= xs.length /\ ∃ (F2 : Hp) (ws : List β), compM c f (xs.take i) = some ws /\ Grow B F' H' O F2 H2 /\ SlotsOk B F2 (lo F2 [] H2) H2 slI σ2 [] /\ A2 (rp K (reg B F2 H2 md)) ys ws,
      ⟨xs.length, rfl, Nat.zero_le _, F', [], rfl, .refl a'.1, ?_, trivial⟩, ?_⟩
    · rw [hI]
      exact slIn_ok a' _ no ix fun j hj => by simpa using (List.all_eq_true.mp hix) j hj
    rintro i m ys σ2 H2 ⟨rfl, hil, F2, ws, hw, g2, s2, r2⟩
    have hyl : ys.length <= xs.length := by
      rw [r2.len]
      exact Nat.le_trans (compM_len c f hw) (by rw [List.length_take]; omega)
    obtain ⟨y1, y2⟩ := yl i F2 O H2 g2.ff g2.ok
    by_cases hlt : i < xs.length
    · obtain ⟨go, y3⟩ := y2 xs[i] (List.getElem?_eq_getElem hlt)
      obtain ⟨ws', hw'⟩ := compM_take (i + 1) hz
      refine .inr ⟨go, by omega, fun ys σ2 H2 => ∃ (F2 : Hp), Grow B F' H' O F2 H2 /\ SlotsOk B F2 (lo F2 [] H2) H2 slI σ2 [] /\ A2 (rp K (reg B F2 H2 md)) ys ws', fun ys' σ' H' ⟨F3, z1, z2, z3⟩ => ⟨xs.length - (i + 1), by omega, rfl, hlt, F3, ws', hw', z1, z2, z3⟩, fun v H3 yd => ?_⟩
      obtain ⟨F3, g3, r3⟩ := y3 v H3 yd
      have g23 := g2.trans g3
      have at3 : At B slI F3 [] H3 σ2 := ⟨g3.ok.nil, s2.mono g3.ff (lo_mono ⟨g3.ff, g3.hh, g3.ok.nil, g3.nw⟩) g3.hh⟩
      refine hg v xs[i] F3 [] H3 σ2 _ at3 r3 fun σ4 a4 => ?_
      have back : ∀ {F5 H5 : Hp}, Grow B F3 H3 [] F5 H5 -> Grow B F' H' O F5 H5 /\ SlotsOk B F5 (lo F5 [] H5) H5 slI σ4 [] := fun {F5 H5} g5 => ⟨g23.trans (Grow.lift g3.ok g5), (a4.grow g5).2.le0 (hle xs[i])⟩
      rcases compM_step hw' hw (List.getElem?_eq_getElem hlt) with ⟨e1, rfl⟩ | ⟨y, e1, e2, rfl⟩
      · refine hc xs[i] false e1 F3 [] H3 σ4 _ a4 fun F5 H5 g5 => iteF ?_
        obtain ⟨z1, z2⟩ := back g5
        exact ⟨F5, z1, z2, r2.imp fun _ _ => Rp.mono (wI (g3.trans (Grow.lift g3.ok g5)) md)⟩
      · refine hc xs[i] true e1 F3 [] H3 σ4 _ a4 fun F5 H5 g5 => iteT ?_
        refine he xs[i] y e2 F5 [] H5 σ4 _ (a4.grow g5) fun w F6 H6 g6 r6 => ?_
        obtain ⟨z1, z2⟩ := back (g5.trans g6)
        exact ⟨F6, z1, z2, (r2.imp fun _ _ => Rp.mono (wI (g3.trans (Grow.lift g3.ok (g5.trans g6))) md)).snoc r6⟩
    · have e : i = xs.length := by omega
      subst e
      rw [List.take_length, hz] at hw
      cases hw
      exact .inl ⟨y1 (Nat.le_refl _), by omega, fun p hp => k p ys F2 H2 (gr.trans g2) hp r2⟩
abbrev isF : Slot K -> Bool
  | @Slot.fz _ false _ _ _ => true
  | _ => false
theorem slots_start {L' : Hp} {as : List (Slot K)} {vs : List V} (k : Nat) (hf : as.all isF = true) (r : Ar F as vs) : SlotsOk ⟨F, H⟩ F L' H (as ++ List.replicate k .un) (vs.map some ++ List.replicate k none) [] := by
  induction r with
  | nil =>
    show SlotsOk _ _ _ _ ([] ++ _) ([] ++ _) []
    rw [List.nil_append, List.nil_append]
    induction k with
    | zero => exact .nil
    | succ k ih => exact .un ih
  | @cons n _ _ _ _ _ _ r _ ih =>
    rw [List.all_cons, Bool.and_eq_true] at hf
    cases n with
    | false => exact .fz r (ih hf.2)
    | true => exact absurd hf.1 (by simp)
theorem Ar.len {as : List (Slot K)} {vs : List V} (r : Ar F as vs) : vs.length = as.length := by
  induction r with
  | nil => rfl
  | cons _ _ ih => rw [List.length_cons, List.length_cons, ih]
theorem sp_start {A : Type} {as : A -> List (Slot K)} {f : A -> Option β} {N : List Str} {np : Nat} {t : TS} {vs : List V} {Q : VK} {E : XK} (hf : ∀ a, (as a).all isF = true) (hl : ∀ a, (as a).length = np)
    (hb : ∀ Fa a, SB ⟨Fa, H⟩ (as a ++ List.replicate (N.length - np) .un) t al (f a)) (h : spF K al as f vs H Q E) : t { nx := fun _ H' => Q .non H', rt := Q } (L2.start N vs) H := by
  obtain ⟨a, b, Fa, s, hfa, r, q⟩ := h
  have e : L2.start N vs = vs.map some ++ List.replicate (N.length - np) none := by
    unfold L2.start
    rw [r.len, hl]
  rw [e]
  refine hb Fa a b hfa Fa _ _ H ⟨Fa, [], .refl _, ⟨s, .refl _, fun b o h => .inl h, fun x hx => (by cases hx), (by simp)⟩, slots_start _ (hf a) r⟩ (fun v H' z => q v H' z.1 z.2)
theorem sp_len {A : Type} {as : A -> List (Slot K)} {f : A -> Option β} {np : Nat} (hl : ∀ a, (as a).length = np) {vs : List V} {Q : VK} {E : XK} (h : spF K al as f vs H Q E) : vs.length = np := by
  obtain ⟨a, b, Fa, s, hfa, r, q⟩ := h
  rw [r.len, hl]
end
end Ts
namespace Ts
open PySem L2
open PySem.SeqAt (EqAt RcAt RcNeAt)
class Eqv (K : PySem.W.Frag) (α : Type) [Rp K α] [DecidableEq α] where
  dep : Nat
  det : ∀ {H : Hp} {v : V} {a b : α}, rp K H v a -> rp K H v b -> a = b
  eqA : ∀ {X : Cx} {pins : List (Addr × Obj)} {σ : St} {H : Hp} {s : Shared}, Inv X pins σ H s -> ∀ {A : Around}, A.units + dep < cLine -> ∀ {v w : V} {u u' : Value} {a b : α}, rp K H v a -> rp K H w b -> RelV v u -> RelV w u' -> EqAt A s u u' (decide (a = b))
  rcA : ∀ {X : Cx} {pins : List (Addr × Obj)} {σ : St} {H : Hp} {s : Shared}, Inv X pins σ H s -> ∀ {A : Around}, A.units + dep < cLine -> ∀ {v w : V} {u u' : Value} {a b : α}, rp K H v a -> rp K H w b -> RelV v u -> RelV w u' -> RcAt A s u u' (decide (a = b))
  neA : ∀ {X : Cx} {pins : List (Addr × Obj)} {σ : St} {H : Hp} {s : Shared}, Inv X pins σ H s -> ∀ {A : Around}, A.units + dep < cLine -> ∀ {v w : V} {u u' : Value} {a b : α}, rp K H v a -> rp K H w b -> RelV v u -> RelV w u' -> RcNeAt A s u u' (!decide (a = b))
section
variable {K : PySem.W.Frag}
theorem beqd {α : Type} [BEq α] [LawfulBEq α] [DecidableEq α] (a b : α) : (a == b) = decide (a = b) := by
  by_cases h : a = b
  · subst h; simp
  · simp [h]
instance : Eqv K Int where
  dep := 0
  det h1 h2 := by cases h1; cases h2; rfl
  eqA _ _ _ _ _ _ _ _ _ h1 h2 r1 r2 := by cases h1; cases h2; obtain ⟨t, rfl⟩ := r1; obtain ⟨t', rfl⟩ := r2; rw [<- beqd]; exact EqAt.int_int _ _ _ _
  rcA _ _ _ _ _ _ _ _ _ h1 h2 r1 r2 := by cases h1; cases h2; obtain ⟨t, rfl⟩ := r1; obtain ⟨t', rfl⟩ := r2; rw [<- beqd]; exact RcAt.int_int _ _ _ _
  neA _ _ _ _ _ _ _ _ _ h1 h2 r1 r2 := by cases h1; cases h2; obtain ⟨t, rfl⟩ := r1; obtain ⟨t', rfl⟩ := r2; rw [<- beqd]; exact RcNeAt.int_int _ _ _ _
instance : Eqv K Str where
  dep := 0
  det h1 h2 := by cases h1; cases h2; rfl
  eqA _ _ _ _ _ _ _ _ _ h1 h2 r1 r2 := by cases h1; cases h2; obtain ⟨t, rfl⟩ := r1; obtain ⟨t', rfl⟩ := r2; rw [<- beqd]; exact EqAt.str_str _ _ _ _
  rcA _ _ _ _ _ _ _ _ _ h1 h2 r1 r2 := by cases h1; cases h2; obtain ⟨t, rfl⟩ := r1; obtain ⟨t', rfl⟩ := r2; rw [<- beqd]; exact RcAt.str_str _ _ _ _
  neA _ _ _ _ _ _ _ _ _ h1 h2 r1 r2 := by cases h1; cases h2; obtain ⟨t, rfl⟩ := r1; obtain ⟨t', rfl⟩ := r2; rw [<- beqd]; exact RcNeAt.str_str _ _ _ _
instance : Eqv K Bool where
  dep := 0
  det h1 h2 := by cases h1; cases h2; rfl
  eqA _ _ _ _ _ _ _ _ _ h1 h2 r1 r2 := by cases h1; cases h2; cases r1; cases r2; rw [<- beqd]; exact EqAt.bool_bool _ _
  rcA _ _ _ _ _ _ _ _ _ h1 h2 r1 r2 := by cases h1; cases h2; cases r1; cases r2; rw [<- beqd]; exact RcAt.bool_bool _ _
  neA _ _ _ _ _ _ _ _ _ h1 h2 r1 r2 := by cases h1; cases h2; cases r1; cases r2; rw [<- beqd]; exact RcNeAt.bool_bool _ _
theorem oi_dec {a b : Int} : decide (some a = some b) = decide (a = b) := by simp
instance : Eqv K (Option Int) where
  dep := 0
  det {H v a b} h1 h2 := by
    cases a with
    | none => cases b with
      | none => rfl
      | some y => exact absurd h1 h2.1
    | some x => cases b with
      | none => exact absurd h2 h1.1
      | some y => cases h1.2; cases h2.2; rfl
  eqA {X pins σ H s} _ {A} _ {v w u u' a b} h1 h2 r1 r2 := by
    cases a with
    | none =>
      cases h1; cases r1
      cases b with
      | none => cases h2; cases r2; exact EqAt.same _
      | some y => cases h2.2; obtain ⟨t', rfl⟩ := r2; exact EqAt.none_int _ _
    | some x =>
      cases h1.2; obtain ⟨t, rfl⟩ := r1
      cases b with
      | none => cases h2; cases r2; exact EqAt.int_none _ _
      | some y => cases h2.2; obtain ⟨t', rfl⟩ := r2; rw [oi_dec, <- beqd]; exact EqAt.int_int _ _ _ _
  rcA {X pins σ H s} _ {A} _ {v w u u' a b} h1 h2 r1 r2 := by
    cases a with
    | none =>
      cases h1; cases r1
      cases b with
      | none => cases h2; cases r2; exact RcAt.none_none
      | some y => cases h2.2; obtain ⟨t', rfl⟩ := r2; exact RcAt.none_int _ _
    | some x =>
      cases h1.2; obtain ⟨t, rfl⟩ := r1
      cases b with
      | none => cases h2; cases r2; exact RcAt.int_none _ _
      | some y => cases h2.2; obtain ⟨t', rfl⟩ := r2; rw [oi_dec, <- beqd]; exact RcAt.int_int _ _ _ _
  neA {X pins σ H s} _ {A} _ {v w u u' a b} h1 h2 r1 r2 := by
    cases a with
    | none =>
      cases h1; cases r1
      cases b with
      | none => cases h2; cases r2; exact RcNeAt.none_none
      | some y => cases h2.2; obtain ⟨t', rfl⟩ := r2; exact RcNeAt.none_int _ _
    | some x =>
      cases h1.2; obtain ⟨t, rfl⟩ := r1
      cases b with
      | none => cases h2; cases r2; exact RcNeAt.int_none _ _
      | some y => cases h2.2; obtain ⟨t', rfl⟩ := r2; rw [oi_dec, <- beqd]; exact RcNeAt.int_int _ _ _ _
theorem A2.det {α β : Type} {R : α -> β -> Prop} (h : ∀ x y z, R x y -> R x z -> y = z) : ∀ {xs : List α} {ys zs : List β}, A2 R xs ys -> A2 R xs zs -> ys = zs
  | [], [], [], _, _ => rfl
  | _ :: _, _ :: _, _ :: _, h1, h2 => by rw [h _ _ _ h1.1 h2.1, A2.det h h1.2 h2.2]
  | [], _ :: _, _, h1, _ => h1.elim
  | [], [], _ :: _, _, h2 => h2.elim
  | _ :: _, [], _, h1, _ => h1.elim
  | _ :: _, _ :: _, [], _, h2 => h2.elim
theorem wZ {α : Type} [DecidableEq α] : ∀ {xs ys : List α}, xs.length = ys.length -> ((List.range xs.length).all fun j => decide (xs[j]? = ys[j]?)) = decide (xs = ys)
  | [], [], _ => by simp
  | x :: xs, y :: ys, h => by
    have ih := wZ (xs := xs) (ys := ys) (by simpa using h)
    rw [List.length_cons, List.range_succ_eq_map, List.all_cons, List.all_map]
    have e : ((fun j => decide ((x :: xs)[j]? = (y :: ys)[j]?)) ∘ Nat.succ) = fun j => decide (xs[j]? = ys[j]?) := by
      funext j
      simp
    rw [e, ih]
    by_cases h1 : x = y <;> by_cases h2 : xs = ys <;> simp [h1, h2]
  | [], _ :: _, h => by simp at h
  | _ :: _, [], h => by simp at h
theorem a2_at {α : Type} [Rp K α] {H : Hp} {vs : List V} {xs : List α} {us : List Value} (r : Vals vs us) (h : A2 (rp K H) vs xs) (j : Nat) (hj : j < us.toArray.size) : ∃ v x, xs[j]? = some x /\ rp K H v x /\ RelV v us.toArray[j] := by
  have l1 : j < vs.length := by rw [r.length]; simpa using hj
  obtain ⟨u, hu, ru⟩ := r.get (List.getElem?_eq_getElem l1)
  obtain ⟨x, hx, rx⟩ := h.at1 (List.getElem?_eq_getElem l1)
  refine ⟨vs[j], x, hx, rx, ?_⟩
  have e1 : us.toArray[j] = u := by
    have : us[j]? = some u := hu
    rw [List.getElem?_eq_getElem (by simpa using hj)] at this
    simpa using this
  rw [e1]
  exact ru
theorem uE {A : Around} : A.in1.units = A.units + 1 := rfl
instance {α : Type} [Rp K α] [DecidableEq α] [Eqv K α] : Eqv K (List α) where
  dep := Eqv.dep K α + 1
  det {H v a b} h1 h2 := by
    obtain ⟨p, vs, rfl, h1, r1⟩ := h1
    obtain ⟨p', vs', e, h2, r2⟩ := h2
    cases e
    cases h1.symm.trans h2
    exact A2.det (R := rp K H) (fun _ _ _ z1 z2 => Eqv.det (K := K) z1 z2) r1 r2
  rcA {X pins σ H s} I {A} hu {v w u u' a b} h1 h2 q1 q2 := by
    obtain ⟨p, vs, rfl, h1, r1⟩ := h1
    obtain ⟨p', ws, rfl, h2, r2⟩ := h2
    cases q1; cases q2
    obtain ⟨us, s1, p1, _⟩ := I.list (SqL.of h1)
    obtain ⟨us', s2, p2, _⟩ := I.list (SqL.of h2)
    have n1 : us.toArray.size = a.length := by rw [List.size_toArray, <- r1.len]; exact s1.length.symm
    have n2 : us'.toArray.size = b.length := by rw [List.size_toArray, <- r2.len]; exact s2.length.symm
    by_cases hl : a.length = b.length
    · have z := RcAt.lists (e := fun j => decide (a[j]? = b[j]?)) p1.isList p2.isList (by rw [n1, n2]; exact hl) (Nat.lt_of_le_of_lt (Nat.le_add_right _ _) hu) (fun j h1 h2 => by
        obtain ⟨v, x, e1, e2, e3⟩ := a2_at s1 r1 j h1
        obtain ⟨w, y, f1, f2, f3⟩ := a2_at s2 r2 j h2
        rw [e1, f1]
        have z := Eqv.eqA (K := K) I (A := A.in1) (by rw [uE]; omega) e2 f2 e3 f3
        simpa using z)
      rw [n1, wZ hl] at z
      exact z
    · rw [show decide (a = b) = false by simp; intro e; exact hl (by rw [e])]
      exact RcAt.lists_lengths p1.isList p2.isList (by rw [n1, n2]; exact bne_iff_ne.mpr hl) (Nat.lt_of_le_of_lt (Nat.le_add_right _ _) hu)
  neA {X pins σ H s} I {A} hu {v w u u' a b} h1 h2 q1 q2 := by
    obtain ⟨p, vs, rfl, h1, r1⟩ := h1
    obtain ⟨p', ws, rfl, h2, r2⟩ := h2
    cases q1; cases q2
    obtain ⟨us, s1, p1, _⟩ := I.list (SqL.of h1)
    obtain ⟨us', s2, p2, _⟩ := I.list (SqL.of h2)
    have n1 : us.toArray.size = a.length := by rw [List.size_toArray, <- r1.len]; exact s1.length.symm
    have n2 : us'.toArray.size = b.length := by rw [List.size_toArray, <- r2.len]; exact s2.length.symm
    by_cases hl : a.length = b.length
    · have z := RcNeAt.lists (e := fun j => decide (a[j]? = b[j]?)) p1.isList p2.isList (by rw [n1, n2]; exact hl) (Nat.lt_of_le_of_lt (Nat.le_add_right _ _) hu) (fun j h1 h2 => by
        obtain ⟨v, x, e1, e2, e3⟩ := a2_at s1 r1 j h1
        obtain ⟨w, y, f1, f2, f3⟩ := a2_at s2 r2 j h2
        rw [e1, f1]
        have z := Eqv.eqA (K := K) I (A := A.in1) (by rw [uE]; omega) e2 f2 e3 f3
        simpa using z)
      rw [n1, wZ hl] at z
      exact z
    · rw [show decide (a = b) = false by simp; intro e; exact hl (by rw [e])]
      exact RcNeAt.lists_lengths p1.isList p2.isList (by rw [n1, n2]; exact bne_iff_ne.mpr hl) (Nat.lt_of_le_of_lt (Nat.le_add_right _ _) hu)
  eqA {X pins σ H s} I {A} hu {v w u u' a b} h1 h2 q1 q2 := by
    obtain ⟨p, vs, rfl, h1, r1⟩ := h1
    obtain ⟨p', ws, rfl, h2, r2⟩ := h2
    cases q1; cases q2
    by_cases hp : p = p'
    · subst hp
      cases h1.symm.trans h2
      rw [show a = b from A2.det (R := rp K H) (fun _ _ _ z1 z2 => Eqv.det (K := K) z1 z2) r1 r2]
      simp
      exact EqAt.same _
    · refine EqAt.of_refs hp ?_
      obtain ⟨us, s1, p1, _⟩ := I.list (SqL.of h1)
      obtain ⟨us', s2, p2, _⟩ := I.list (SqL.of h2)
      have n1 : us.toArray.size = a.length := by rw [List.size_toArray, <- r1.len]; exact s1.length.symm
      have n2 : us'.toArray.size = b.length := by rw [List.size_toArray, <- r2.len]; exact s2.length.symm
      by_cases hl : a.length = b.length
      · have z := RcAt.lists (e := fun j => decide (a[j]? = b[j]?)) p1.isList p2.isList (by rw [n1, n2]; exact hl) (Nat.lt_of_le_of_lt (Nat.le_add_right _ _) hu) (fun j h1 h2 => by
          obtain ⟨v, x, e1, e2, e3⟩ := a2_at s1 r1 j h1
          obtain ⟨w, y, f1, f2, f3⟩ := a2_at s2 r2 j h2
          rw [e1, f1]
          have z := Eqv.eqA (K := K) I (A := A.in1) (by rw [uE]; omega) e2 f2 e3 f3
          simpa using z)
        rw [n1, wZ hl] at z
        exact z
      · rw [show decide (a = b) = false by simp; intro e; exact hl (by rw [e])]
        exact RcAt.lists_lengths p1.isList p2.isList (by rw [n1, n2]; exact bne_iff_ne.mpr hl) (Nat.lt_of_le_of_lt (Nat.le_add_right _ _) hu)
theorem pair_all {α β : Type} [DecidableEq α] [DecidableEq β] (a b : α × β) : ((List.range (min 2 2)).all (fun j => if j = 0 then decide (a.1 = b.1) else decide (a.2 = b.2)) && ((2 : Nat) == 2)) = decide (a = b) := by
  obtain ⟨a1, a2⟩ := a
  obtain ⟨b1, b2⟩ := b
  by_cases h1 : a1 = b1 <;> by_cases h2 : a2 = b2 <;> simp [List.range_succ, h1, h2]
section
variable {α β : Type} [Rp K α] [DecidableEq α] [Eqv K α] [Rp K β] [DecidableEq β] [Eqv K β] {X : Cx} {pins : List (Addr × Obj)} {σ : St} {H : Hp} {s : Shared} {A : Around} {a b : α × β} {p p' : Addr} {v1 v2 w1 w2 : V}
theorem pair_items (I : Inv X pins σ H s) (hu : A.units + (Eqv.dep K α + Eqv.dep K β + 1) < cLine) {u1 u2 t1 t2 : Value} (r1 : rp K H v1 a.1) (r2 : rp K H v2 a.2) (z1 : rp K H w1 b.1) (z2 : rp K H w2 b.2) (a1 : RelV v1 u1) (a2 : RelV v2 u2) (b1 : RelV w1 t1) (b2 : RelV w2 t2) :
    ∀ (j : Nat) (h1 : j < #[u1, u2].size) (h2 : j < #[t1, t2].size), EqAt A.in1 s #[u1, u2][j] #[t1, t2][j] (if j = 0 then decide (a.1 = b.1) else decide (a.2 = b.2)) := by
  intro j h1 h2
  have hj : j = 0 \/ j = 1 := by
    have : j < 2 := h1
    omega
  rcases hj with rfl | rfl
  · exact Eqv.eqA (K := K) I (A := A.in1) (by rw [uE]; omega) r1 z1 a1 b1
  · exact Eqv.eqA (K := K) I (A := A.in1) (by rw [uE]; omega) r2 z2 a2 b2
theorem pair_rc (I : Inv X pins σ H s) (hu : A.units + (Eqv.dep K α + Eqv.dep K β + 1) < cLine) (h1 : H p = some (.tup [v1, v2])) (h2 : H p' = some (.tup [w1, w2])) (r1 : rp K H v1 a.1) (r2 : rp K H v2 a.2) (z1 : rp K H w1 b.1) (z2 : rp K H w2 b.2) :
    RcAt A s (.ref p) (.ref p') (decide (a = b)) /\ RcNeAt A s (.ref p) (.ref p') (!decide (a = b)) := by
  obtain ⟨us, s1, p1, _⟩ := I.tuple (.inl (.inl h1))
  obtain ⟨us', s2, p2, _⟩ := I.tuple (.inl (.inl h2))
  obtain ⟨u1, u2, rfl, a1, a2⟩ := vals2 s1
  obtain ⟨t1, t2, rfl, b1, b2⟩ := vals2 s2
  have he := pair_items (A := A) I hu r1 r2 z1 z2 a1 a2 b1 b2
  have hu' : A.units < cLine := Nat.lt_of_le_of_lt (Nat.le_add_right _ _) hu
  have q1 := RcAt.tuples p1 p2 hu' he
  have q2 := RcNeAt.tuples p1 p2 hu' he
  rw [<- pair_all]
  exact ⟨q1, q2⟩
end
instance {α β : Type} [Rp K α] [DecidableEq α] [Eqv K α] [Rp K β] [DecidableEq β] [Eqv K β] : Eqv K (α × β) where
  dep := Eqv.dep K α + Eqv.dep K β + 1
  det {H v a b} h1 h2 := by
    obtain ⟨p, v1, v2, rfl, h1, r1, r2⟩ := h1
    obtain ⟨p', w1, w2, e, h2, q1, q2⟩ := h2
    cases e
    cases h1.symm.trans h2
    exact Prod.ext (Eqv.det (K := K) r1 q1) (Eqv.det (K := K) r2 q2)
  rcA {X pins σ H s} I {A} hu {v w u u' a b} h1 h2 q1 q2 := by
    obtain ⟨p, v1, v2, rfl, h1, r1, r2⟩ := h1
    obtain ⟨p', w1, w2, rfl, h2, z1, z2⟩ := h2
    cases q1; cases q2
    exact (pair_rc I hu h1 h2 r1 r2 z1 z2).1
  neA {X pins σ H s} I {A} hu {v w u u' a b} h1 h2 q1 q2 := by
    obtain ⟨p, v1, v2, rfl, h1, r1, r2⟩ := h1
    obtain ⟨p', w1, w2, rfl, h2, z1, z2⟩ := h2
    cases q1; cases q2
    exact (pair_rc I hu h1 h2 r1 r2 z1 z2).2
  eqA {X pins σ H s} I {A} hu {v w u u' a b} h1 h2 q1 q2 := by
    obtain ⟨p, v1, v2, rfl, h1, r1, r2⟩ := h1
    obtain ⟨p', w1, w2, rfl, h2, z1, z2⟩ := h2
    cases q1; cases q2
    by_cases hp : p = p'
    · subst hp
      cases h1.symm.trans h2
      rw [show a = b from Prod.ext (Eqv.det (K := K) r1 z1) (Eqv.det (K := K) r2 z2)]
      simp
      exact EqAt.same _
    · exact EqAt.of_refs hp (pair_rc I hu h1 h2 r1 r2 z1 z2).1
def rEqv (K : PySem.W.Frag) (α : Type) [Rp K α] [DecidableEq α] (neg : Bool) : R2 := fun x y H Q => ∃ a b : α, rp K H x a /\ rp K H y b /\ Q (.bl (if neg = true then !decide (a = b) else decide (a = b))) H
theorem uD (K : PySem.W.Frag) (α : Type) [Rp K α] [DecidableEq α] [Eqv K α] {X : Cx} {k : Nat} (hr : Room k X.A) (hd : Eqv.dep K α <= 64 := by exact Nat.le_of_ble_eq_true rfl) : OpR X (compareOp .Eq) (rEqv K α false) := by
  intro pins s σ H x y v u Q I rx ry h
  obtain ⟨a, b, h1, h2, q⟩ := h
  exact Eqv.rcA (K := K) I (A := X.A) (by have := hr.units; omega) h1 h2 rx ry _ _ _ _ ⟨.bl (decide (a = b)), H, I, rfl, q⟩
theorem op_nev (K : PySem.W.Frag) (α : Type) [Rp K α] [DecidableEq α] [Eqv K α] {X : Cx} {k : Nat} (hr : Room k X.A) (hd : Eqv.dep K α <= 64 := by exact Nat.le_of_ble_eq_true rfl) : OpR X (compareOp .NotEq) (rEqv K α true) := by
  intro pins s σ H x y v u Q I rx ry h
  obtain ⟨a, b, h1, h2, q⟩ := h
  exact Eqv.neA (K := K) I (A := X.A) (by have := hr.units; omega) h1 h2 rx ry _ _ _ _ ⟨.bl (!decide (a = b)), H, I, rfl, q⟩
variable {B : Bs} {sl : List (Slot K)} {md md1 : Md} {α β : Type} [Rp K α] [Rp K β] {t1 t2 t : TE}
theorem uG [DecidableEq α] {m1 m2 : Option α} (h1 : Ex B sl .hp t1 m1) (h2 : Ex B sl .hp t2 m2) : Ex B sl md (tOp (rEqv K α false) t1 t2) (m1.bind fun a => m2.bind fun b => some (decide (a = b))) :=
  ex_op (f := fun a b => some (decide (a = b))) (fun a b c v w H Q e r1 r2 q => by cases e; exact ⟨a, b, r1, r2, q⟩) h1 h2
theorem ex_nev [DecidableEq α] {m1 m2 : Option α} (h1 : Ex B sl .hp t1 m1) (h2 : Ex B sl .hp t2 m2) : Ex B sl md (tOp (rEqv K α true) t1 t2) (m1.bind fun a => m2.bind fun b => some (!decide (a = b))) :=
  ex_op (f := fun a b => some (!decide (a = b))) (fun a b c v w H Q e r1 r2 q => by cases e; exact ⟨a, b, r1, r2, q⟩) h1 h2
section
variable {m1 m2 : Option Int}
theorem ex_rI0 {g : Int -> Int -> V} {f : Int -> Int -> α} [Sc K α] (hg : ∀ i j, g i j = Sc.val K (f i j)) (h1 : Ex B sl .hp t1 m1) (h2 : Ex B sl .hp t2 m2) : Ex B sl md (tOp (rI0 g) t1 t2) (m1.bind fun a => m2.bind fun b => some (f a b)) :=
  ex_op (f := fun a b => some (f a b)) (fun a b c v w H Q e r1 r2 q => by cases e; cases r1; cases r2; exact ⟨a, b, rfl, rfl, by rw [hg]; exact q⟩) h1 h2
theorem yZ (h1 : Ex B sl .hp t1 m1) (h2 : Ex B sl .hp t2 m2) : Ex B sl md (tOp (rI0 fun i j => .int (i + j)) t1 t2) (m1.bind fun a => m2.bind fun b => some (a + b)) := ex_rI0 (fun _ _ => rfl) h1 h2
theorem ex_sub (h1 : Ex B sl .hp t1 m1) (h2 : Ex B sl .hp t2 m2) : Ex B sl md (tOp (rI0 fun i j => .int (i - j)) t1 t2) (m1.bind fun a => m2.bind fun b => some (a - b)) := ex_rI0 (fun _ _ => rfl) h1 h2
theorem ex_lt (h1 : Ex B sl .hp t1 m1) (h2 : Ex B sl .hp t2 m2) : Ex B sl md (tOp (rI0 fun i j => .bl (decide (i < j))) t1 t2) (m1.bind fun a => m2.bind fun b => some (decide (a < b))) := ex_rI0 (fun _ _ => rfl) h1 h2
theorem ex_gt (h1 : Ex B sl .hp t1 m1) (h2 : Ex B sl .hp t2 m2) : Ex B sl md (tOp (rI0 fun i j => .bl (decide (j < i))) t1 t2) (m1.bind fun a => m2.bind fun b => some (decide (b < a))) := ex_rI0 (fun _ _ => rfl) h1 h2
theorem ex_ge (h1 : Ex B sl .hp t1 m1) (h2 : Ex B sl .hp t2 m2) : Ex B sl md (tOp (rI0 fun i j => .bl (decide (j <= i))) t1 t2) (m1.bind fun a => m2.bind fun b => some (decide (b <= a))) := ex_rI0 (fun _ _ => rfl) h1 h2
def mulM (a b : Int) : Option Int := if (-(2 ^ 64) < a /\ a < 2 ^ 64) \/ (-(2 ^ 64) < b /\ b < 2 ^ 64) then some (a * b) else none
def modM (a b : Int) : Option Int := if 0 < b then some (a % b) else none
def divM (a b : Int) : Option Int := if 0 < b /\ b < 1073741824 then some (a / b) else none
def powM (a b : Int) : Option Int := if 0 <= b /\ b <= 1000000 /\ a.natAbs < 2 ^ 64 then some (a ^ b.toNat) else none
theorem ex_mul (h1 : Ex B sl .hp t1 m1) (h2 : Ex B sl .hp t2 m2) : Ex B sl md (tOp (rI CMul fun i j => .int (i * j)) t1 t2) (m1.bind fun a => m2.bind fun b => mulM a b) :=
  ex_op (f := mulM) (fun a b c v w H Q e r1 r2 q => by
    unfold mulM at e
    split at e
    case isFalse => cases e
    rename_i hc
    cases e; cases r1; cases r2
    exact ⟨a, b, rfl, rfl, hc, q⟩) h1 h2
theorem xJ (h1 : Ex B sl .hp t1 m1) (h2 : Ex B sl .hp t2 m2) : Ex B sl md (tOp (rI (fun _ j => 0 < j) fun i j => .int (i % j)) t1 t2) (m1.bind fun a => m2.bind fun b => modM a b) :=
  ex_op (f := modM) (fun a b c v w H Q e r1 r2 q => by
    unfold modM at e
    split at e
    case isFalse => cases e
    rename_i hc
    cases e; cases r1; cases r2
    exact ⟨a, b, rfl, rfl, hc, q⟩) h1 h2
theorem ex_div (h1 : Ex B sl .hp t1 m1) (h2 : Ex B sl .hp t2 m2) : Ex B sl md (tOp (rI CDiv fun i j => .int (i / j)) t1 t2) (m1.bind fun a => m2.bind fun b => divM a b) :=
  ex_op (f := divM) (fun a b c v w H Q e r1 r2 q => by
    unfold divM at e
    split at e
    case isFalse => cases e
    rename_i hc
    cases e; cases r1; cases r2
    exact ⟨a, b, rfl, rfl, hc, q⟩) h1 h2
theorem ex_pow (h1 : Ex B sl .hp t1 m1) (h2 : Ex B sl .hp t2 m2) : Ex B sl md (tOp (rI CPow fun i j => .int (i ^ j.toNat)) t1 t2) (m1.bind fun a => m2.bind fun b => powM a b) :=
  ex_op (f := powM) (fun a b c v w H Q e r1 r2 q => by
    unfold powM at e
    split at e
    case isFalse => cases e
    rename_i hc
    cases e; cases r1; cases r2
    exact ⟨a, b, rfl, rfl, hc, q⟩) h1 h2
end
theorem A2.atI {R : V -> α -> Prop} {vs : List V} {xs : List α} {i : Int} {a : α} (h : A2 R vs xs) (e : L2.atI xs i = some a) : ∃ v, L2.atI vs i = some v /\ R v a := by
  unfold L2.atI at e ⊢
  rw [h.len]
  cases q : ixN xs.length i with
  | none => rw [q] at e; cases e
  | some j => rw [q] at e; exact h.at2 e
theorem ex_ix {m1 : Option (List α)} {m2 : Option Int} (h1 : Ex B sl md t1 m1) (h2 : Ex B sl .hp t2 m2) : Ex B sl md (tOp (rIxL K) t1 t2) (m1.bind fun xs => m2.bind fun i => L2.atI xs i) := fun c hc F O H σ Q s k => by
  obtain ⟨xs, i, e1, e2, e3⟩ := bind2 hc
  refine h1 xs e1 F O H σ _ s fun v F' H' g r1 => ?_
  refine h2 i e2 F' O H' σ _ (s.grow g) fun w F2 H2 g2 r2 => ?_
  cases r2
  obtain ⟨p, vs, rfl, z1, z2⟩ := r1
  obtain ⟨u, y1, y2⟩ := z2.atI e3
  have hle : Same (reg B F' H' md) H2 := (match md with
    | .nw => dif_le.trans g.ok.fh
    | .fz => g.ok.fh
    | .hp => .refl _ : Same (reg B F' H' md) H').trans g2.hh
  exact ⟨p, vs, i, u, rfl, rfl, SqL.of (hle _ _ z1), y1, k u F2 H2 (g.trans g2) (Rp.mono (wI g2 md) y2)⟩
abbrev rLen (K : PySem.W.Frag) : List V -> Hp -> VK -> Prop := fun xs H Q => ∃ p ys, xs = [.ref p] /\ (SqL K H p ys \/ SqT K H p ys) /\ Q (.int ys.length) H
theorem uP {m : Option (List α)} (h : Ex B sl .hp t m) : Ex B sl md (tCB (rLen K) (tCons t tNil)) (m.bind fun xs => some (xs.length : Int)) := fun c hc F O H σ Q s k => by
  cases m with
  | none => cases hc
  | some xs =>
    cases (show some (xs.length : Int) = some c from hc)
    refine h xs rfl F O H σ _ s fun v F' H' g r1 => ?_
    obtain ⟨p, vs, rfl, z1, z2⟩ := r1
    exact ⟨p, vs, rfl, .inl (SqL.of z1), k _ F' H' g (by show V.int vs.length = V.int xs.length; rw [z2.len])⟩
abbrev rList (K : PySem.W.Frag) : List V -> Hp -> VK -> Prop := fun xs H Q => ∃ p ys, xs = [V.ref p] /\ (SqL K H p ys \/ SqT K H p ys) /\ ∀ l, H l = none -> Q (.ref l) (upd H l (.lst ys))
theorem A2.sc {F F' : Hp} [Sc K α] {vs : List V} {xs : List α} (h : A2 (rp K F) vs xs) : A2 (rp K F') vs xs := h.imp fun _ _ => rp_sc
theorem vX [Sc K α] {m : Option (List α)} (h : Ex B sl .hp t m) : Eo B sl md (tCB (rList K) (tCons t tNil)) m := fun c hc F O H σ Q s k => by
  refine h c hc F O H σ _ s fun v F' H' g r1 => ?_
  obtain ⟨p, vs, rfl, z1, z2⟩ := r1
  exact ⟨p, vs, rfl, .inl (SqL.of z1), fun l hl => k l vs F' H' g hl z2.sc⟩
class Fl (K : PySem.W.Frag) (α : Type) [Rp K α] [Sc K α] [DecidableEq α] : Prop where
  flat : ∀ a : α, flatV (Sc.val K a) = true
  eq : ∀ a b : α, eqV (Sc.val K a) (Sc.val K b) = decide (a = b)
instance : Fl K Int := ⟨fun _ => rfl, fun a b => by show (a == b) = _; exact beqd a b⟩
instance : Fl K Str := ⟨fun _ => rfl, fun a b => by show (a == b) = _; exact beqd a b⟩
instance : Fl K Bool := ⟨fun _ => rfl, fun a b => by show (a == b) = _; exact beqd a b⟩
instance : Fl K (Option Int) := ⟨fun a => by cases a <;> rfl, fun a b => by
  cases a with
  | none => cases b with
    | none => rfl
    | some y => rfl
  | some x => cases b with
    | none => rfl
    | some y => show (x == y) = _; rw [beqd]; simp⟩
theorem A2.vals [Sc K α] {F : Hp} : ∀ {vs : List V} {xs : List α}, A2 (rp K F) vs xs -> vs = xs.map (Sc.val K)
  | [], [], _ => rfl
  | _ :: _, _ :: _, h => by rw [List.map_cons, Sc.is.mp h.1, A2.vals h.2]
  | [], _ :: _, h => h.elim
  | _ :: _, [], h => h.elim
theorem inV_fl [Sc K α] [DecidableEq α] [Fl K α] (a : α) : ∀ xs : List α, inV (Sc.val K a) (xs.map (Sc.val K)) = decide (a ∈ xs)
  | [] => by simp [inV]
  | x :: xs => by
    have ih := inV_fl a xs
    unfold inV at ih ⊢
    rw [List.map_cons, List.any_cons, ih, Fl.eq]
    by_cases h1 : x = a
    · subst h1; simp
    · by_cases h2 : a ∈ xs <;> simp [h1, h2, Ne.symm h1]
theorem flat_fl [Sc K α] [DecidableEq α] [Fl K α] (xs : List α) : (xs.map (Sc.val K)).all flatV = true := by
  rw [List.all_map, List.all_eq_true]
  intro x _
  exact Fl.flat x
theorem ex_in [Sc K α] [DecidableEq α] [Fl K α] {m1 : Option α} {m2 : Option (List α)} (h1 : Ex B sl .hp t1 m1) (h2 : Ex B sl .hp t2 m2) : Ex B sl md (tOp (rIn K false) t1 t2) (m1.bind fun a => m2.bind fun xs => some (decide (a ∈ xs))) :=
  ex_op (f := fun a xs => some (decide (a ∈ xs))) (fun a b c v w H Q e r1 r2 q => by
    cases e
    obtain ⟨p, vs, rfl, z1, z2⟩ := r2
    have ev := Sc.is.mp r1
    have es := z2.vals
    subst ev es
    refine ⟨p, _, rfl, .inl (SqL.of z1), Fl.flat a, flat_fl b, ?_⟩
    have := inV_fl (K := K) a b
    simp only [Bool.false_eq_true, if_false]
    rw [this]
    exact q) h1 h2
theorem ex_nin [Sc K α] [DecidableEq α] [Fl K α] {m1 : Option α} {m2 : Option (List α)} (h1 : Ex B sl .hp t1 m1) (h2 : Ex B sl .hp t2 m2) : Ex B sl md (tOp (rIn K true) t1 t2) (m1.bind fun a => m2.bind fun xs => some (!decide (a ∈ xs))) :=
  ex_op (f := fun a xs => some (!decide (a ∈ xs))) (fun a b c v w H Q e r1 r2 q => by
    cases e
    obtain ⟨p, vs, rfl, z1, z2⟩ := r2
    have ev := Sc.is.mp r1
    have es := z2.vals
    subst ev es
    refine ⟨p, _, rfl, .inl (SqL.of z1), Fl.flat a, flat_fl b, ?_⟩
    have := inV_fl (K := K) a b
    simp only [if_true]
    rw [this]
    exact q) h1 h2
theorem ex_isN {m : Option (Option α)} (h : Ex B sl .hp t m) : Ex B sl md (tIsN t) (m.bind fun a => some a.isNone) := fun c hc F O H σ Q s k => by
  cases m with
  | none => cases hc
  | some a =>
    cases (show some a.isNone = some c from hc)
    refine h a rfl F O H σ _ s fun v F' H' g r1 => ?_
    cases a with
    | none => cases r1; exact k _ F' H' g rfl
    | some x => rw [decide_eq_false r1.1]; exact k _ F' H' g rfl
theorem ex_notN {m : Option (Option α)} (h : Ex B sl .hp t m) : Ex B sl md (tNotN t) (m.bind fun a => some a.isSome) := fun c hc F O H σ Q s k => by
  cases m with
  | none => cases hc
  | some a =>
    cases (show some a.isSome = some c from hc)
    refine h a rfl F O H σ _ s fun v F' H' g r1 => ?_
    cases a with
    | none => cases r1; exact k _ F' H' g rfl
    | some x => rw [decide_eq_false r1.1]; exact k _ F' H' g rfl
theorem ex_get {m : Option (Option α)} (h : Ex B sl md t m) : Ex B sl md t (m.bind fun a => a) := fun c hc F O H σ Q s k => by
  cases m with
  | none => cases hc
  | some a =>
    cases a with
    | none => cases hc
    | some x =>
      have e : x = c := Option.some.inj hc
      subst e
      exact h (some x) rfl F O H σ _ s fun v F' H' g r1 => k v F' H' g r1.2
theorem ex_slen {m : Option Scr} (h : Ex B sl .hp t m) : Ex B sl md (tCB (rLen K) (tCons t tNil)) (m.bind fun xs => some (xs.ns.length : Int)) := fun c hc F O H σ Q s k => by
  cases m with
  | none => cases hc
  | some xs =>
    cases (show some (xs.ns.length : Int) = some c from hc)
    refine h xs rfl F O H σ _ s fun v F' H' g r1 => ?_
    obtain ⟨p, rfl, z1⟩ := r1
    exact ⟨p, _, rfl, .inl z1, k _ F' H' g (by show V.int (xs.ns.map V.int).length = V.int xs.ns.length; rw [List.length_map])⟩
theorem atI_map {i : Int} {ns : List Int} {z : Int} (h : L2.atI ns i = some z) : L2.atI (ns.map V.int) i = some (.int z) := by
  unfold L2.atI at h ⊢
  rw [List.length_map]
  cases q : ixN ns.length i with
  | none => rw [q] at h; cases h
  | some j =>
    rw [q] at h
    show (ns.map V.int)[j]? = _
    have h : ns[j]? = some z := h
    rw [List.getElem?_map, h] <;> rfl
theorem ex_six {m1 : Option Scr} {m2 : Option Int} (h1 : Ex B sl .hp t1 m1) (h2 : Ex B sl .hp t2 m2) : Ex B sl md (tOp (rIxL K) t1 t2) (m1.bind fun xs => m2.bind fun i => L2.atI xs.ns i) :=
  ex_op (f := fun (xs : Scr) (i : Int) => L2.atI xs.ns i) (fun a b c v w H Q e r1 r2 q => by
    have r2 : w = .int b := r2
    subst r2
    obtain ⟨p, rfl, z1⟩ := r1
    have q : Q (.int c) H := q
    exact ⟨p, a.ns.map V.int, b, .int c, rfl, rfl, z1, atI_map e, q⟩) h1 h2
theorem ex_max2 {m1 m2 : Option Int} (h1 : Ex B sl .hp t1 m1) (h2 : Ex B sl .hp t2 m2) : Ex B sl md (tCB (fun xs H Q => ∃ i j, xs = [.int i, .int j] /\ Q (.int (if j > i then j else i)) H) (tCons t1 (tCons t2 tNil))) (m1.bind fun a => m2.bind fun b => some (max a b)) := fun c hc F O H σ Q s k => by
  obtain ⟨a, b, e1, e2, e3⟩ := bind2 hc
  cases e3
  refine h1 a e1 F O H σ _ s fun v F' H' g r1 => ?_
  refine h2 b e2 F' O H' σ _ (s.grow g) fun w F2 H2 g2 r2 => ?_
  cases r1; cases r2
  exact ⟨a, b, rfl, by rw [show (if b > a then b else a) = max a b by split <;> omega]; exact k _ F2 H2 (g.trans g2) rfl⟩
class Ty (K : PySem.W.Frag) (α : Type) [Rp K α] where
  ty : Value
  is : ∀ {H : Hp} {v : V} {a : α}, rp K H v a -> TyOf K H v ty
instance : Ty K Int := ⟨.type "int", fun h => by cases h; exact .int _⟩
instance : Ty K Bool := ⟨.type "bool", fun h => by cases h; exact .bl _⟩
instance : Ty K Str := ⟨.type "str", fun h => by cases h; exact .str _⟩
instance : Ty K (List α) := ⟨.type "list", fun ⟨p, vs, e, h, _⟩ => by rw [e]; exact .lst h⟩
instance : Ty K (α × β) := ⟨.type "tuple", fun ⟨p, _, _, e, h, _⟩ => by rw [e]; exact .tup h⟩
theorem ex_isi [Ty K α] {c : Value} {y : V} {b : Bool} {m : Option α} (hb : kitOne K (Ty.ty K α) c = some b) (hy : RelV y c) (h : Ex B sl .hp t m) : Ex B sl md (tCB (rIsi K c) (tCons t (tCons (tC y) tNil))) (m.bind fun _ => some b) := fun d hd F O H σ Q s k => by
  cases m with
  | none => cases hd
  | some a =>
    cases (show some b = some d from hd)
    refine h a rfl F O H σ _ s fun v F' H' g r1 => ?_
    exact ⟨v, y, _, b, rfl, hy, Ty.is r1, hb, k _ F' H' g rfl⟩
end
end Ts
namespace Ts
def src (xss : List (List Int)) (j : Nat) : List Int := ((List.range xss.length).filter fun k => decide ((j : Int) ∈ xss.getD k [])).map Int.ofNat
theorem filter_congr' {α : Type} {p q : α -> Bool} : ∀ {l : List α}, (∀ x ∈ l, p x = q x) -> l.filter p = l.filter q
  | [], _ => rfl
  | a :: l, h => by
    rw [List.filter_cons, List.filter_cons, h a List.mem_cons_self, filter_congr' fun x hx => h x (List.mem_cons_of_mem _ hx)]
theorem src_snoc (xss : List (List Int)) (xs : List Int) (j : Nat) : src (xss ++ [xs]) j = src xss j ++ (if (j : Int) ∈ xs then [(xss.length : Int)] else []) := by
  unfold src
  rw [List.length_append, List.length_singleton, List.range_succ, List.filter_append, List.map_append]
  congr 1
  · congr 1
    refine filter_congr' fun k hk => ?_
    have hk' : k < xss.length := List.mem_range.mp hk
    rw [List.getD_eq_getElem?_getD, List.getD_eq_getElem?_getD, List.getElem?_append_left hk']
  · rw [List.filter_cons, List.filter_nil, List.getD_eq_getElem?_getD, List.getElem?_append_right (Nat.le_refl _), Nat.sub_self]
    by_cases h : (j : Int) ∈ xs
    · simp [h]
    · simp [h]
theorem src_take {xss : List (List Int)} {i : Nat} {xs : List Int} (h : xss[i]? = some xs) (j : Nat) : src (xss.take (i + 1)) j = src (xss.take i) j ++ (if (j : Int) ∈ xs then [(i : Int)] else []) := by
  have hi : i < xss.length := (List.getElem?_eq_some_iff.mp h).1
  rw [List.take_add_one, h]
  have e : (some xs : Option (List Int)).toList = [xs] := rfl
  rw [e, src_snoc, List.length_take, Nat.min_eq_left (Nat.le_of_lt hi)]
theorem src_len (xss : List (List Int)) (j : Nat) : (src xss j).length <= xss.length := by
  unfold src
  rw [List.length_map]
  exact Nat.le_trans (List.length_filter_le _ _) (by rw [List.length_range]; exact Nat.le_refl _)
end Ts
namespace Ts
open PySem L2
theorem int_at {ns : List Int} {i : Nat} {y : V} (h : (ns.map V.int)[i]? = some y) : ∃ z, y = .int z /\ ns[i]? = some z := by
  rw [List.getElem?_map] at h
  cases e : ns[i]? with
  | none => rw [e] at h; cases h
  | some z => rw [e] at h; exact ⟨z, (Option.some.inj h).symm, rfl⟩
theorem ref_at {bs : List Addr} {i : Nat} {y : V} (h : (bs.map V.ref)[i]? = some y) : ∃ b, y = .ref b /\ bs[i]? = some b := by
  rw [List.getElem?_map] at h
  cases e : bs[i]? with
  | none => rw [e] at h; cases h
  | some z => rw [e] at h; exact ⟨z, (Option.some.inj h).symm, rfl⟩
theorem ref_get {bs : List Addr} {i : Nat} {b : Addr} (h : bs[i]? = some b) : (bs.map V.ref)[i]? = some (.ref b) := by rw [List.getElem?_map, h] <;> rfl
theorem yR {α : Type} {xs : List α} {i : Nat} {x : α} (h : xs[i]? = some x) : i < xs.length := (List.getElem?_eq_some_iff.mp h).1
theorem log_small {i : Nat} (h : i < 1920) : ((i : Int)).natAbs.log2 < 1920 := by
  rw [Int.natAbs_natCast]
  exact Nat.lt_of_le_of_lt (Nat.log2_le_self i) h
theorem notin_take {ns : List Int} (nd : ns.Nodup) {i : Nat} {z : Int} (h : ns[i]? = some z) : ¬ z ∈ ns.take i := fun hz => by
  obtain ⟨j, hj⟩ := List.mem_iff_getElem?.mp hz
  have hji : j < i := by
    have := yR hj
    rw [List.length_take] at this
    omega
  rw [List.getElem?_take_of_lt hji] at hj
  have hi := yR h
  have hjl := yR hj
  rw [List.getElem?_eq_getElem hi] at h
  rw [List.getElem?_eq_getElem hjl] at hj
  have e : ns[j] = ns[i] := (Option.some.inj hj).trans (Option.some.inj h).symm
  have := (List.getElem_inj nd).mp e
  omega
theorem wQ {α : Type} {ns : List α} {i : Nat} {z x : α} (h : ns[i]? = some z) : x ∈ ns.take (i + 1) ↔ x ∈ ns.take i \/ x = z := by
  rw [List.take_add_one, h]
  simp
def RowsR (K : PySem.W.Frag) (H : Hp) (bs : List Addr) (xss : List (List Int)) : Prop := bs.length = xss.length /\ ∀ (i : Nat) (b : Addr), bs[i]? = some b -> ∃ xs : List Int, xss[i]? = some xs /\ SqL K H b (xs.map V.int)
theorem RowsR.same {K : PySem.W.Frag} {H H' : Hp} {bs : List Addr} {xss : List (List Int)} (r : RowsR K H bs xss) (s : Same H H') : RowsR K H' bs xss := ⟨r.1, fun i b h => let ⟨xs, h1, h2⟩ := r.2 i b h; ⟨xs, h1, s.seq h2⟩⟩
def Valid (n : Nat) (xss : List (List Int)) : Prop := xss.length = n /\ ∀ xs ∈ xss, xs ≠ [] /\ xs.Nodup /\ xs.length <= 100 /\ ∀ z ∈ xs, 0 <= z /\ z < (n : Int)
def RowF (H : Hp) (cs : List Addr) (row : Nat -> List Int) : Prop := ∀ (j : Nat) (c : Addr), cs[j]? = some c -> H c = some (.lst ((row j).map V.int))
structure Bl (K : PySem.W.Frag) (mg : Str -> Option Value) : Prop where
  len : mg "len" = none
  range : mg "range" = none
  isi : mg "isinstance" = none
  int : mg "int" = none
  bool : mg "bool" = none
  list : mg "list" = none
  enum : mg "enumerate" = none
  ii : kitOne K (.type "int") (.type "int") = some true
  ib : kitOne K (.type "int") (.type "bool") = some false
  ll : kitOne K (.type "list") (.type "list") = some true
theorem ki_ii {K : PySem.W.Frag} : kitOne K (.type "int") (.type "int") = some true := rfl
theorem ki_ll {K : PySem.W.Frag} : kitOne K (.type "list") (.type "list") = some true := rfl
theorem ki_ib {K : PySem.W.Frag} : kitOne K (.type "int") (.type "bool") = some false := by
  first | rfl | (unfold kitOne PySem.W.kitCls; decide +kernel)
theorem bt_isi : bootBuiltins "isinstance" = some (.builtin "isinstance") := by decide +kernel
theorem bt_int : bootBuiltins "int" = some (.type "int") := by decide +kernel
theorem bt_bool : bootBuiltins "bool" = some (.type "bool") := by decide +kernel
theorem uI : bootBuiltins "list" = some (.type "list") := by decide +kernel
end Ts
namespace Ts
open PySem L2
structure News (H H' : Hp) (cs : List Addr) (xss : List (List V)) : Prop where
  len : cs.length = xss.length
  at_ : ∀ (i : Nat) (c : Addr), cs[i]? = some c -> ∃ xs, xss[i]? = some xs /\ H' c = some (.lst xs)
  new : ∀ c ∈ cs, H c = none
  nd : cs.Nodup
theorem News.nil {H H' : Hp} : News H H' [] [] := ⟨rfl, fun i c h => (by simp at h), fun c h => (by cases h), List.nodup_nil⟩
theorem News.snoc {H H1 : Hp} {cs : List Addr} {xss : List (List V)} {l : Addr} {xs : List V} (n : News H H1 cs xss) (s : Same H H1) (h : H1 l = none) : News H (upd H1 l (.lst xs)) (cs ++ [l]) (xss ++ [xs]) := by
  have hl : ∀ c ∈ cs, c ≠ l := fun c hc e => by
    obtain ⟨i, hi⟩ := List.mem_iff_getElem?.mp hc
    obtain ⟨ys, _, q⟩ := n.at_ i c hi
    rw [e, h] at q
    cases q
  refine ⟨by rw [List.length_append, List.length_append, n.len] <;> rfl, fun i c hc => ?_, fun c hc => ?_, ?_⟩
  · by_cases hi : i < cs.length
    · rw [List.getElem?_append_left hi] at hc
      obtain ⟨ys, h1, h2⟩ := n.at_ i c hc
      refine ⟨ys, ?_, ?_⟩
      · rw [List.getElem?_append_left (by rw [<- n.len]; exact hi)]; exact h1
      · rw [zQ (hl c (List.mem_of_getElem? hc))]; exact h2
    · rw [List.getElem?_append_right (by omega)] at hc
      have hi2 : i - cs.length = 0 := by
        have := yR hc
        simp at this
        omega
      rw [hi2] at hc
      have e : l = c := Option.some.inj hc
      subst e
      refine ⟨xs, ?_, zR⟩
      rw [List.getElem?_append_right (by rw [<- n.len]; omega), <- n.len, hi2] <;> rfl
  · rcases List.mem_append.mp hc with hc | hc
    · exact n.new c hc
    · rw [List.mem_singleton.mp hc]; exact s.free h
  · rw [List.nodup_append]
    refine ⟨n.nd, by simp, fun a ha b hb e => ?_⟩
    rw [List.mem_singleton.mp hb] at e
    exact hl a ha e
theorem News.notin {H H' : Hp} {cs : List Addr} {xss : List (List V)} (n : News H H' cs xss) {r : Addr} (h : H' r = none) : r ∉ cs := fun hc => by
  obtain ⟨i, hi⟩ := List.mem_iff_getElem?.mp hc
  obtain ⟨ys, _, q⟩ := n.at_ i r hi
  rw [h] at q
  cases q
end Ts
namespace Ts
open PySem L2
structure Mach (C : Addr) where
  steps : List (List Int)
  marks : List (Str × List Int)
  fair : List (List Int)
  sources : List (List Int)
def mth : List Str := ["many", "next_of", "before", "marked", "fair_at", "names_at"]
def srcs (xss : List (List Int)) : List (List Int) := (List.range xss.length).map (src xss)
def hid (H : Hp) (p : Addr) : Hp := fun b => if b = p then none else H b
section
variable {K : PySem.W.Frag} {C : Addr}
instance : Rp K (Mach C) := ⟨fun F v m => ∃ p dx fs vS vM vF vB, v = .ref p /\ F p = some (.ins C dx fs) /\ fs.lookup ("steps" : Str) = some vS /\ rp K F vS m.steps /\ fs.lookup ("marks" : Str) = some vM /\ rp K F vM m.marks /\ fs.lookup ("fair" : Str) = some vF /\ rp K F vF m.fair /\
  fs.lookup ("sources" : Str) = some vB /\ rp K F vB m.sources /\ ∀ g ∈ mth, fs.lookup g = none,
  fun s ⟨p, dx, fs, vS, vM, vF, vB, h1, h2, h3, h4, h5, h6, h7, h8, h9, h10, h11⟩ => ⟨p, dx, fs, vS, vM, vF, vB, h1, s _ _ h2, h3, Rp.mono s h4, h5, Rp.mono s h6, h7, Rp.mono s h8, h9, Rp.mono s h10, h11⟩⟩
instance : Nn K (Mach C) := ⟨fun ⟨_, _, _, _, _, _, _, h, _⟩ => by rw [h]; intro e; cases e⟩
theorem a2_ints {F : Hp} (ns : List Int) : A2 (rp K F) (ns.map V.int) ns := A2.of_map (R := rp K F) (f := V.int) (fun _ => rfl) ns
theorem a2_refs {F : Hp} : ∀ {cs : List Addr} {xss : List (List Int)}, cs.length = xss.length -> (∀ (i : Nat) (c : Addr), cs[i]? = some c -> ∃ xs, xss[i]? = some xs /\ F c = some (.lst (xs.map V.int))) -> A2 (rp K F) (cs.map V.ref) xss
  | [], [], _, _ => trivial
  | c :: cs, xs :: xss, hl, h => by
    obtain ⟨ys, e1, e2⟩ := h 0 c rfl
    cases e1
    exact ⟨⟨c, _, rfl, e2, a2_ints _⟩, a2_refs (by simpa using hl) fun i c' hc => h (i + 1) c' hc⟩
  | [], _ :: _, hl, _ => by simp at hl
  | _ :: _, [], hl, _ => by simp at hl
theorem srcs_at {xss : List (List Int)} {i : Nat} (h : i < xss.length) : (srcs xss)[i]? = some (src xss i) := by
  unfold srcs
  rw [List.getElem?_map, List.getElem?_range h]
  rfl
theorem rowf_rp {H' D : Hp} {cs : List Addr} {xss : List (List Int)} (hl : cs.length = xss.length) (n : RowF H' cs (src xss)) (h : ∀ c ∈ cs, ∀ o, H' c = some o -> D c = some o) : A2 (rp K D) (cs.map V.ref) (srcs xss) := by
  refine a2_refs (by rw [hl]; unfold srcs; simp) fun i c hc => ?_
  have hi := yR hc
  exact ⟨_, srcs_at (by omega), h c (List.mem_of_getElem? hc) _ (n i c hc)⟩
end
end Ts
namespace Ts
open PySem L2
section
variable {K : PySem.W.Frag} {B : Bs} {F H F' H' G : Hp} {O : Own} {sl : List (Slot K)} {σ : St} {md : Md} {α β : Type} [Rp K α] [Rp K β] {te ta : TE} {C : Addr}
theorem ex_fldG {f : Str} {pr : Mach C -> α} {m : Option (Mach C)} (cl : Cls K C) (na : NoAttr K C f) (hp : ∀ (R : Hp) (v : V) (x : Mach C), rp K R v x -> ∃ p dx fs w, v = .ref p /\ R p = some (.ins C dx fs) /\ fs.lookup f = some w /\ rp K R w (pr x)) (h : Ex B sl md ta m) :
    Ex B sl md (tFld K ta f) (m.bind fun x => some (pr x)) := fun c hc F O H σ Q s k => by
  cases m with
  | none => cases hc
  | some x =>
    cases (show some (pr x) = some c from hc)
    refine h x rfl F O H σ _ s fun v F' H' g r => ?_
    obtain ⟨p, dx, fs, w, rfl, h1, h2, h3⟩ := hp _ v x r
    have hle : Same (reg B F' H' md) H' := match md with
      | .nw => dif_le.trans g.ok.fh
      | .fz => g.ok.fh
      | .hp => .refl _
    exact ⟨p, C, dx, fs, w, rfl, hle _ _ h1, cl, na, h2, k w F' H' g h3⟩
theorem ex_fSteps {m : Option (Mach C)} (cl : Cls K C) (na : NoAttr K C "steps") (h : Ex B sl md ta m) : Ex B sl md (tFld K ta "steps") (m.bind fun x => some x.steps) :=
  ex_fldG cl na (fun R v x ⟨p, dx, fs, vS, vM, vF, vB, h1, h2, h3, h4, _⟩ => ⟨p, dx, fs, vS, h1, h2, h3, h4⟩) h
theorem ex_fFair {m : Option (Mach C)} (cl : Cls K C) (na : NoAttr K C "fair") (h : Ex B sl md ta m) : Ex B sl md (tFld K ta "fair") (m.bind fun x => some x.fair) :=
  ex_fldG cl na (fun R v x ⟨p, dx, fs, vS, vM, vF, vB, h1, h2, _, _, _, _, h7, h8, _⟩ => ⟨p, dx, fs, vF, h1, h2, h7, h8⟩) h
theorem ex_fSources {m : Option (Mach C)} (cl : Cls K C) (na : NoAttr K C "sources") (h : Ex B sl md ta m) : Ex B sl md (tFld K ta "sources") (m.bind fun x => some x.sources) :=
  ex_fldG cl na (fun R v x ⟨p, dx, fs, vS, vM, vF, vB, h1, h2, _, _, _, _, _, _, h9, h10, _⟩ => ⟨p, dx, fs, vB, h1, h2, h9, h10⟩) h
theorem ex_meth {A : Type} {as : A -> List (Slot K)} {f : Mach C × A -> Option β} {t : TA} {g : Str} {mm : Option (Mach C)} {ma : Option A} (hg : g ∈ mth) (h0 : Ex B sl .hp ta mm) (h : Ea B sl .hp t as ma) :
    Ex B sl md (tMeth C g (spF K false (fun x : Mach C × A => .fz false x.1 :: as x.2) f) [] E0 ta t) (mm.bind fun x => ma.bind fun a => f (x, a)) := fun c hc F O H σ Q s kk => by
  cases mm with
  | none => cases hc
  | some x =>
    cases ma with
    | none => cases hc
    | some a =>
      have hc : f (x, a) = some c := hc
      refine h0 x rfl F O H σ _ s fun v F1 H1 g1 r1 => ?_
      obtain ⟨p, dx, fs, vS, vM, vF, vB, rfl, h2, h3, h4, h5, h6, h7, h8, h9, h10, h11⟩ := id r1
      refine ⟨p, dx, fs, rfl, h2, h11 g hg, ?_⟩
      refine h a rfl F1 O H1 σ _ (s.grow g1) fun vs F' H' g2 r => ?_
      rw [List.append_nil]
      refine ⟨(x, a), c, H', .refl _, hc, .cons (Rp.mono g2.hh r1) r, fun v H2 s2 r2 => ?_⟩
      have g3 := g2.ok.called s2
      refine kk v _ H2 (g1.trans (g2.trans g3)) ?_
      have r3 := Rp.mono (ext_new (F := F') g2.ok.h0 s2) r2
      exact match md with
      | .nw => r3
      | .fz => Rp.mono dif_le r3
      | .hp => Rp.mono (dif_le.trans g3.ok.fh) r3
def En (B : Bs) (sl : List (Slot K)) (t : TE) {α : Type} [Rp K α] (m : Option α) : Prop :=
  ∀ a, m = some a -> ∀ (F : Hp) (O : Own) (H : Hp) (σ : St) (Q : VK), At B sl F O H σ -> (∀ (v : V) (F' H1 H2 : Hp), Grow B F H O F' H1 -> Same H1 H2 -> rp K (dif H2 H1) v a -> Q v H2) -> t σ H Q
theorem En.ex {m : Option α} (h : En B sl te m) : Ex B sl md te m := fun c hc F O H σ Q s kk => h c hc F O H σ Q s fun v F' H1 H2 g s2 r2 => by
  have g2 := g.ok.called s2
  refine kk v _ H2 (g.trans g2) ?_
  have r3 := Rp.mono (ext_new (F := F') g.ok.h0 s2) r2
  exact match md with
  | .nw => r3
  | .fz => Rp.mono dif_le r3
  | .hp => Rp.mono (dif_le.trans g2.ok.fh) r3
structure LOpq where
  n : Unit
instance : Rp K LOpq := ⟨fun F v _ => ∃ p vs, v = .ref p /\ F p = some (.lst vs), fun s ⟨p, vs, h1, h2⟩ => ⟨p, vs, h1, s _ _ h2⟩⟩
class IsL (K : PySem.W.Frag) (α : Type) [Rp K α] : Prop where
  il : ∀ {F : Hp} {v : V} {a : α}, rp K F v a -> ∃ p vs, v = .ref p /\ F p = some (.lst vs)
instance : IsL K (List α) := ⟨fun ⟨p, vs, h1, h2, _⟩ => ⟨p, vs, h1, h2⟩⟩
instance : IsL K LOpq := ⟨fun h => h⟩
instance (n : Nat) (xss : List (List Int)) : Decidable (Valid n xss) := by unfold Valid; infer_instance
theorem sn_aug {s : Slot K} {f : Int -> Int -> Int} {n : Bool} {x : Int} {m : Option Int} (i : Nat) (hs : sl[i]? = some (.fz n x)) (h : Ex B sl .hp te m) : Sn B sl (tAug i te (ipI f)) (fun a => sl.set i (.fz true a)) (m.bind fun y => some (f x y)) := fun a ha G D σ H s k => by
  cases m with
  | none => cases ha
  | some y =>
    cases (show some (f x y) = some a from ha)
    obtain ⟨F, O, g, z⟩ := s
    obtain ⟨v, h1, h2⟩ := z.2.fz_at hs
    have h2 : v = .int x := Sc.is.mp h2
    subst h2
    refine ⟨_, h1, h y rfl F O H σ _ z fun w F' H' gr r => ?_⟩
    cases r
    exact ⟨x, y, rfl, rfl, k _ _ (Sg.set (n := true) (a := f x y) (g.trans gr.ff) (z.grow gr) hs rfl rfl)⟩
end
end Ts
namespace Ts
open PySem L2
section
variable {K : PySem.W.Frag} {X : Cx}
theorem op_inK (K : PySem.W.Frag) (h : X.K = K := by rfl) : OpR X (compareOp .In) (rIn K false) := by subst h; exact op_in_seq
theorem op_ninK (K : PySem.W.Frag) (h : X.K = K := by rfl) : OpR X (compareOp .NotIn) (rIn K true) := by subst h; exact op_notIn_seq
theorem ixLK (K : PySem.W.Frag) (h : X.K = K := by rfl) : IxR X (rIxL K) := by subst h; exact ix_list
theorem uA (K : PySem.W.Frag) (h : X.K = K := by rfl) : CallR X (.builtin "len") (rLen K) := by subst h; exact call_len_seq
theorem c_listK (K : PySem.W.Frag) (h : X.K = K := by rfl) : CallR X (.type "list") (rList K) := by subst h; exact call_list_of
theorem c_isiK (K : PySem.W.Frag) {c : Value} (hc : ∀ y u, RelV y c -> RelV y u -> u = c) (h : X.K = K := by rfl) : CallR X (.builtin "isinstance") (rIsi K c) := by subst h; exact call_isi hc
theorem p_fldK (K : PySem.W.Frag) {e : Expr} {ta : TE} {f : Str} {pos : Pos} (he : PE X e ta) (h : X.K = K := by rfl) (hb : attributeBase e f X.env (eval e X.env) = eval e X.env := by rfl) : PE X (.Attribute e f pos) (tFld K ta f) := by subst h; exact pe_fld he hb
theorem yI (K : PySem.W.Frag) {tg l : Expr} {tl : TE} (hl : PE X l tl) (h : X.K = K := by rfl) : PI X tg l (iList K tl) := by subst h; exact pi_list hl
theorem i_enumK (K : PySem.W.Frag) {elts : List Expr} {k : Nat} {tp : Pos} {a : Expr} {ta : TA} {p pos : Pos} (hm : X.mg "enumerate" = none) (ha : PA X [a] ta) (h : X.K = K := by rfl) (hg : Gl X "enumerate" := by rfl) (hs : starEach [a] X.env = [(false, eval a X.env)] := by rfl) :
    PI X (.Tuple elts k tp) (.Call (.Name "enumerate" p) [a] [] pos) (iEnum K ta) := by subst h; exact pi_enum hg hm ha hs
theorem p_bmK (K : PySem.W.Frag) {o e : Expr} {es : List Expr} {to : TE} {t : TA} {name : Str} {apos cpos : Pos} {T id : String} {r : V -> List V -> Hp -> VK -> Prop} (pa : PlainAttrs T) (slot : PySem.Slot T name id) (hty : typeOf (.builtin id) = pure (.type "method_descriptor")) (hm : MtM X id r) (ho : PE X o to) (ha : PA X (e :: es) t)
    (h : X.K = K := by rfl) (hbase : attributeBase o name X.env (eval o X.env) = eval o X.env := by rfl)
    (hfew : ((backTo cpos (starEach (e :: es) X.env)).all (fun x => !x.1) && (backToKw cpos (keywordEach [] X.env)).all (fun x => x.1.isSome)
      && decide ((e :: es).length + ([] : List Keyword).length + (if ([] : List Keyword).isEmpty then 0 else 1) < 30)) = true := by rfl)
    (hline : (apos.endLine == cpos.line) = true := by rfl) (hs : starEach (e :: es) X.env = (false, eval e X.env) :: starEach es X.env := by rfl) (hplain : (backTo cpos (starEach es X.env)).any (·.1) = false := by rfl) :
    PE X (.Call (.Attribute o name apos) (e :: es) [] cpos) (tBM K T r to t) := by subst h; exact pe_bm pa slot hty hm ho ha hbase hfew hline hs hplain
theorem p_bm0K (K : PySem.W.Frag) {o : Expr} {to : TE} {name : Str} {apos cpos : Pos} {T id : String} {r : V -> List V -> Hp -> VK -> Prop} (pa : PlainAttrs T) (slot : PySem.Slot T name id) (hty : typeOf (.builtin id) = pure (.type "method_descriptor")) (hm : MtM X id r) (ho : PE X o to)
    (h : X.K = K := by rfl) (hbase : attributeBase o name X.env (eval o X.env) = eval o X.env := by rfl) (hline : (apos.endLine == cpos.line) = true := by rfl) : PE X (.Call (.Attribute o name apos) [] [] cpos) (tBM0 K T r to) := by subst h; exact pe_bm0 pa slot hty hm ho hbase hline
theorem bt_max : bootBuiltins "max" = some (.builtin "max") := by decide +kernel
theorem bt_all : bootBuiltins "all" = some (.builtin "all") := by decide +kernel
theorem bt_sorted : bootBuiltins "sorted" = some (.builtin "sorted") := by decide +kernel
theorem et_if0 {B : Bs} {sl : List (Slot K)} : Et B sl tIf0 (some true) := fun a ha F O H σ Q s k => by cases ha; exact k F H (.refl s.1)
theorem sn_pre {B : Bs} {sl sl2 : List (Slot K)} {t : TS} {S : Type} {L : S -> List (Slot K)} {m : Option S} (l : Le sl sl2) (h : Sn B sl2 t L m) : Sn B sl t L m := fun a ha G D σ H q k => h a ha G D σ H (q.le l) k
theorem sb_pre {B : Bs} {sl sl2 : List (Slot K)} {t : TS} {al : Bool} {β : Type} [Rp K β] {m : Option β} (l : Le sl sl2) (h : SB B sl2 t al m) : SB B sl t al m := fun a ha G D σ H q k => h a ha G D σ H (q.le l) k
theorem el_len0 {α : Type} : ∀ c : List α, some [] = some c -> c.length <= 0 := fun c h => by cases h; exact Nat.le_refl _
theorem vZ {α : Type} {m : Option α} {ma : Option (List α)} {n : Nat} (h : ∀ b, ma = some b -> b.length <= n) : ∀ c, (m.bind fun a => ma.bind fun b => some (a :: b)) = some c -> c.length <= n + 1 := fun c e => by
  cases m with
  | none => cases e
  | some a =>
    cases ma with
    | none => cases e
    | some b => cases e; exact Nat.succ_le_succ (h b rfl)
theorem bnd {α β : Type} (a : α) (f : α -> Option β) : (some a).bind f = f a := (fun (x : Option α) (e : x = some a) => by subst e; rfl : ∀ x : Option α, x = some a -> x.bind f = f a) _ rfl
def fuel : Nat := 100000
structure Cal (P : Program) (w : World) (K : PySem.W.Frag) (mg : Str -> Option Value) (base : Heap) (k : Nat) (x : Str) (ps : List Str) (sp : Sp) : Prop where
  ex : ∃ f fd, FnOk P w K mg base CX0 k f fd ps sp /\ Binds K fd ps [] /\ keepIn K (.ref f) = true /\ mg x = some (.ref f)
structure CalM (P : Program) (w : World) (K : PySem.W.Frag) (mg : Str -> Option Value) (base : Heap) (k : Nat) (C : Addr) (m : Str) (ps : List Str) (sp : Sp) : Prop where
  ex : ∃ f fd, FnOk P w K mg base CX0 k f fd ps sp /\ Binds K fd ps [] /\ Meth K C m f
  cl : Cls K C
theorem Cal.mono {P : Program} {w : World} {mg : Str -> Option Value} {base : Heap} {j k : Nat} {x : Str} {ps : List Str} {sp : Sp} (c : Cal P w K mg base j x ps sp) (h : j <= k) : Cal P w K mg base k x ps sp := by
  obtain ⟨f, fd, h1, h2⟩ := c.ex
  exact ⟨f, fd, h1.mono h, h2⟩
theorem CalM.mono {P : Program} {w : World} {mg : Str -> Option Value} {base : Heap} {j k : Nat} {C : Addr} {x : Str} {ps : List Str} {sp : Sp} (c : CalM P w K mg base j C x ps sp) (h : j <= k) : CalM P w K mg base k C x ps sp := by
  obtain ⟨f, fd, h1, h2⟩ := c.ex
  exact ⟨⟨f, fd, h1.mono h, h2⟩, c.cl⟩
theorem yO {k : Nat} {x : Str} {ps : List Str} {sp : Sp} {e : Expr} {es : List Expr} {t : TA} {p pos : Pos} (c : Cal X.prog X.w X.K X.mg X.base k x ps sp) (hr : Room k X.A) (ha : PA X (e :: es) t) (hg : Gl X x := by rfl) (hdb : (x == ("__debug__" : Str)) = false := by decide)
    (he : starEach (e :: es) X.env = (false, eval e X.env) :: starEach es X.env := by rfl) (hpl : (backTo pos (starEach es X.env)).any (·.1) = false := by rfl) : PE X (.Call (.Name x p) (e :: es) [] pos) (tCall sp [] E0 t) := by
  obtain ⟨f, fd, h1, h2, h3, h4⟩ := c.ex
  exact pe_call h1 hr hg h4 h3 h2 .nil pass0 ha hdb he hpl
theorem p_calM {k : Nat} {C : Addr} {m : Str} {ps : List Str} {sp : Sp} {o e : Expr} {es : List Expr} {ta : TE} {t : TA} {apos pos : Pos} {pl : Sem Bool} (c : CalM X.prog X.w X.K X.mg X.base k C m ps sp) (hr : Room k X.A) (he : PE X o ta) (ha : PA X (e :: es) t)
    (hst : starEach (e :: es) X.env = (false, eval e X.env) :: starEach es X.env := by rfl) (hpl : (backTo pos (starEach es X.env)).any (·.1) = false := by rfl)
    (ht : eval (.Call (.Attribute o m apos) (e :: es) [] pos) X.env = (do
      let ov <- eval o X.env
      standAt apos.atName
      let (f, first) <- holding [ov] (getMethod ov m pl)
      callWith pos f first (backTo pos (starEach (e :: es) X.env)) (backToKw pos (keywordEach [] X.env))) := by rfl) : PE X (.Call (.Attribute o m apos) (e :: es) [] pos) (tMeth C m sp [] E0 ta t) := by
  obtain ⟨f, fd, h1, h2, h3⟩ := c.ex
  exact pe_meth he c.cl h3 h1 hr h2 .nil pass0 ha hst hpl ht
theorem p_calM0 {k : Nat} {C : Addr} {m : Str} {ps : List Str} {sp : Sp} {o : Expr} {ta : TE} {apos pos : Pos} {pl : Sem Bool} (c : CalM X.prog X.w X.K X.mg X.base k C m ps sp) (hr : Room k X.A) (he : PE X o ta)
    (ht : eval (.Call (.Attribute o m apos) [] [] pos) X.env = (do
      let ov <- eval o X.env
      standAt apos.atName
      let (f, first) <- holding [ov] (getMethod ov m pl)
      callWith pos f first (backTo pos (starEach [] X.env)) (backToKw pos (keywordEach [] X.env))) := by rfl) : PE X (.Call (.Attribute o m apos) [] [] pos) (tMeth C m sp [] E0 ta tNil) := by
  obtain ⟨f, fd, h1, h2, h3⟩ := c.ex
  exact pe_meth0 he c.cl h3 h1 hr h2 .nil pass0 ht
end
section
variable {P : Program} {w : World} {K : PySem.W.Frag} {mg : Str -> Option Value} {base : Heap}
theorem yQ {x qual : Str} {st : Stmt} {f : Addr} {fd : FuncData} {N ps : List Str} {k : Nat} {al : Bool} {A β : Type} [Rp K β] {as : A -> List (Slot K)} {fM : A -> Option β} (F : Fun K x qual st f fd) (S : FnScope N ps (defScope st)) (hf : ∀ a, (as a).all isF = true) (hl : ∀ a, (as a).length = ps.length)
    (hb : ∀ (cdv : Value) (A : Around) (outer : List Env) (s : Shared) (H : Hp) (E : XK), Room k (A.deeper (PyProof.Rows.envOfC qual (defScope st) s.heap.objs.size f cdv)) ->
      ∃ t, PSs (cxOf CX0 P w K mg base N qual (defScope st) f cdv A outer s H E).nox (defBody st) t /\ ∀ Fa a, SB ⟨Fa, H⟩ (as a ++ List.replicate (N.length - ps.length) .un) t al (fM a)) :
    FnOk P w K mg base CX0 (k + 1) f fd ps (spF K al as fM) :=
  F.ok S (fun vs H Q E h => sp_len hl h) fun cdv A outer s H vs Q E hr h => by
    obtain ⟨t, p, q⟩ := hb cdv A outer s H E hr
    exact ⟨t, p, sp_start hf hl q h⟩
end
end Ts
namespace Ts
open PySem L2
def W {α : Type} (m : Option α) (P : α -> Prop) : Prop := ∃ a, m = some a /\ P a
section
variable {α β S : Type}
theorem W_some {a : α} {P : α -> Prop} : W (some a) P ↔ P a := ⟨fun ⟨_, e, h⟩ => by cases e; exact h, fun h => ⟨a, rfl, h⟩⟩
theorem uQ {P : α -> Prop} : W (none : Option α) P ↔ False := ⟨fun ⟨_, e, _⟩ => (by cases e), False.elim⟩
theorem zC {m : Option α} {f : α -> Option β} {Q : β -> Prop} : W (m.bind f) Q ↔ W m fun a => W (f a) Q := by
  cases m with
  | none => exact ⟨fun ⟨_, e, _⟩ => (by cases e), fun ⟨_, e, _⟩ => (by cases e)⟩
  | some a => exact ⟨fun h => ⟨a, rfl, h⟩, fun ⟨_, e, h⟩ => by cases e; exact h⟩
theorem W_els {s : S} {f : S -> Option β} {Q : β -> Prop} : W ((Out.nx s : Out S β).els f) Q ↔ W (f s) Q := Iff.rfl
theorem W.imp {m : Option α} {P Q : α -> Prop} (h : W m P) (f : ∀ a, P a -> Q a) : W m Q := let ⟨a, e, p⟩ := h; ⟨a, e, f a p⟩
theorem uJ {a b : Int} {Q : Int -> Prop} : W (modM a b) Q ↔ 0 < b /\ Q (a % b) := by
  unfold modM
  split
  · rename_i h; rw [W_some]; exact ⟨fun q => ⟨h, q⟩, fun q => q.2⟩
  · rename_i h; rw [uQ]; exact ⟨False.elim, fun q => h q.1⟩
theorem W_div {a b : Int} {Q : Int -> Prop} : W (divM a b) Q ↔ (0 < b /\ b < 1073741824) /\ Q (a / b) := by
  unfold divM
  split
  · rename_i h; rw [W_some]; exact ⟨fun q => ⟨h, q⟩, fun q => q.2⟩
  · rename_i h; rw [uQ]; exact ⟨False.elim, fun q => h q.1⟩
theorem W_mul {a b : Int} {Q : Int -> Prop} : W (mulM a b) Q ↔ ((-(2 ^ 64) < a /\ a < 2 ^ 64) \/ (-(2 ^ 64) < b /\ b < 2 ^ 64)) /\ Q (a * b) := by
  unfold mulM
  split
  · rename_i h; rw [W_some]; exact ⟨fun q => ⟨h, q⟩, fun q => q.2⟩
  · rename_i h; rw [uQ]; exact ⟨False.elim, fun q => h q.1⟩
theorem W_pow {a b : Int} {Q : Int -> Prop} : W (powM a b) Q ↔ (0 <= b /\ b <= 1000000 /\ a.natAbs < 2 ^ 64) /\ Q (a ^ b.toNat) := by
  unfold powM
  split
  · rename_i h; rw [W_some]; exact ⟨fun q => ⟨h, q⟩, fun q => q.2⟩
  · rename_i h; rw [uQ]; exact ⟨False.elim, fun q => h q.1⟩
theorem wW {xs : List α} {a : α} {Q : List α -> Prop} : W (push xs a) Q ↔ xs.length < cap /\ Q (xs ++ [a]) := by
  unfold push
  split
  · rename_i h; rw [W_some]; exact ⟨fun q => ⟨h, q⟩, fun q => q.2⟩
  · rename_i h; rw [uQ]; exact ⟨False.elim, fun q => h q.1⟩
def rng (n : Int) : List Int := (List.range n.toNat).map Int.ofNat
theorem wP {n : Int} {Q : List Int -> Prop} : W (rangeM n) Q ↔ (-(2 ^ 62) <= n /\ n < 2 ^ 62) /\ Q (rng n) := by
  unfold rangeM rng
  split
  · rename_i h; rw [W_some]; exact ⟨fun q => ⟨h, q⟩, fun q => q.2⟩
  · rename_i h; rw [uQ]; exact ⟨False.elim, fun q => h q.1⟩
theorem wF {n : Int} (h : 0 <= n) : ((rng n).length : Int) = n := by
  unfold rng
  rw [List.length_map, List.length_range]
  omega
theorem rng_at {n : Int} {i : Nat} {x : Int} (h : (rng n)[i]? = some x) : x = i /\ (i : Int) < n := by
  obtain ⟨a, b⟩ := range_at h
  exact ⟨b, by omega⟩
theorem mem_rng {n x : Int} : x ∈ rng n ↔ 0 <= x /\ x < n := by
  unfold rng
  rw [List.mem_map]
  constructor
  · rintro ⟨a, h, rfl⟩
    rw [List.mem_range] at h
    exact ⟨Int.natCast_nonneg _, by show (a : Int) < n; omega⟩
  · intro ⟨h1, h2⟩
    exact ⟨x.toNat, List.mem_range.mpr (by omega), by show ((x.toNat : Nat) : Int) = x; omega⟩
theorem atI_in {xs : List α} {i : Int} (h : 0 <= i) : L2.atI xs i = xs[i.toNat]? := by
  unfold L2.atI ixN
  rw [if_pos h]
  by_cases q : i < xs.length
  · rw [if_pos q]; rfl
  · rw [if_neg q, List.getElem?_eq_none (by omega)]; rfl
theorem W_at {xs : List α} {i : Int} {Q : α -> Prop} (h0 : 0 <= i) : W (L2.atI xs i) Q ↔ ∃ a, xs[i.toNat]? = some a /\ Q a := by
  rw [atI_in h0]
  exact Iff.rfl
theorem setAt_in {xs : List α} {i : Int} {a : α} (h0 : 0 <= i) (h1 : i < xs.length) : setAt xs i a = some (xs.set i.toNat a) := by
  unfold setAt ixN
  rw [if_pos h0, if_pos h1]
  rfl
theorem W_set {xs : List α} {i : Int} {a : α} {Q : List α -> Prop} (h0 : 0 <= i) (h1 : i < xs.length) : W (setAt xs i a) Q ↔ Q (xs.set i.toNat a) := by
  rw [setAt_in h0 h1, W_some]
theorem xA {step : S -> α -> Option S} {xs : List α} {s : S} {Q : S -> Prop} (I : Nat -> S -> Prop) (h0 : I 0 s) (hs : ∀ i x s, xs[i]? = some x -> I i s -> W (step s x) (I (i + 1))) (hd : ∀ s, I xs.length s -> Q s) : W (foldM step xs s) Q := by
  have key : ∀ (ys : List α) (i : Nat) (s : S), (∀ j x, ys[j]? = some x -> xs[i + j]? = some x) -> i + ys.length = xs.length -> I i s -> W (foldM step ys s) Q := by
    intro ys
    induction ys with
    | nil => intro i s _ hl h; exact ⟨s, rfl, hd s ((show i = xs.length from hl) ▸ h)⟩
    | cons y ys ih =>
      intro i s hy hl h
      show W ((step s y).bind fun s' => foldM step ys s') Q
      rw [zC]
      refine (hs i y s (hy 0 y rfl) h).imp fun s' h' => ih (i + 1) s' (fun j x hx => ?_) (by rw [List.length_cons] at hl; omega) h'
      have := hy (j + 1) x (by simpa using hx)
      rw [show i + 1 + j = i + (j + 1) by omega]
      exact this
  exact key xs 0 s (fun j x h => by rw [Nat.zero_add]; exact h) (Nat.zero_add _) h0
theorem foldX_cons {step : S -> α -> Option (Out S β)} {x : α} {xs : List α} {s : S} : foldX step (x :: xs) s = (step s x).bind fun o => o.thn fun s' => foldX step xs s' := by
  rw [foldX]
  congr 1
theorem W_foldX {step : S -> α -> Option (Out S β)} {xs : List α} {s : S} {Q : Out S β -> Prop} (I : Nat -> S -> Prop) (h0 : I 0 s) (hs : ∀ i x s, xs[i]? = some x -> I i s -> W (step s x) fun o => ∃ s', o = .nx s' /\ I (i + 1) s') (hd : ∀ s, I xs.length s -> Q (.nx s)) : W (foldX step xs s) Q := by
  have key : ∀ (ys : List α) (i : Nat) (s : S), (∀ j x, ys[j]? = some x -> xs[i + j]? = some x) -> i + ys.length = xs.length -> I i s -> W (foldX step ys s) Q := by
    intro ys
    induction ys with
    | nil => intro i s _ hl h; exact ⟨.nx s, rfl, hd s ((show i = xs.length from hl) ▸ h)⟩
    | cons y ys ih =>
      intro i s hy hl h
      rw [foldX_cons, zC]
      refine (hs i y s (hy 0 y rfl) h).imp ?_
      rintro o ⟨s', rfl, h'⟩
      refine ih (i + 1) s' (fun j x hx => ?_) (by rw [List.length_cons] at hl; omega) h'
      have := hy (j + 1) x (by simpa using hx)
      rw [show i + 1 + j = i + (j + 1) by omega]
      exact this
  exact key xs 0 s (fun j x h => by rw [Nat.zero_add]; exact h) (Nat.zero_add _) h0
theorem W_while {c : S -> Option Bool} {body : S -> Option S} {s : S} {Q : S -> Prop} (I : S -> Prop) (μ : S -> Nat) {k : Nat} (h0 : I s) (hk : μ s < k) (hs : ∀ s, I s -> W (c s) fun b => if b = true then W (body s) fun s' => I s' /\ μ s' < μ s else Q s) : W (whileM c body k s) Q := by
  induction k generalizing s with
  | zero => omega
  | succ k ih =>
    show W ((c s).bind fun b => if b = true then (body s).bind fun s' => whileM c body k s' else some s) Q
    rw [zC]
    refine (hs s h0).imp fun b h => ?_
    cases b with
    | true =>
      have h : W (body s) fun s' => I s' /\ μ s' < μ s := by simpa using h
      simp only [if_true]
      rw [zC]
      exact h.imp fun s' ⟨h1, h2⟩ => ih h1 (by omega)
    | false => simpa [W_some] using h
theorem compM_tot (c : α -> Bool) (f : α -> β) : ∀ xs : List α, compM (fun x => some (c x)) (fun x => some (f x)) xs = some ((xs.filter c).map f)
  | [] => rfl
  | x :: xs => by
    have ih := compM_tot c f xs
    show (some (c x)).bind _ = _
    cases h : c x with
    | true =>
      show ((some (f x)).bind fun y => (compM _ _ xs).bind fun ys => some (y :: ys)) = _
      rw [ih, List.filter_cons, if_pos h]
      rfl
    | false =>
      show compM _ _ xs = _
      rw [ih, List.filter_cons, if_neg (by rw [h]; decide)]
theorem W_comp (c : α -> Bool) (f : α -> β) {xs : List α} {Q : List β -> Prop} : W (compL (fun x => some (c x)) (fun x => some (f x)) xs) Q ↔ xs.length < cap /\ Q ((xs.filter c).map f) := by
  unfold compL
  split
  · rename_i h; rw [compM_tot, W_some]; exact ⟨fun q => ⟨h, q⟩, fun q => q.2⟩
  · rename_i h; rw [uQ]; exact ⟨False.elim, fun q => h q.1⟩
theorem filter_tt (xs : List α) : xs.filter (fun _ => true) = xs := List.filter_eq_self.mpr fun _ _ => rfl
theorem W_map (f : α -> β) {xs : List α} {Q : List β -> Prop} : W (compL (fun _ => some true) (fun x => some (f x)) xs) Q ↔ xs.length < cap /\ Q (xs.map f) := by
  rw [W_comp (fun _ => true) f, filter_tt]
theorem W_ite {c : Prop} [Decidable c] {a b : Option α} {Q : α -> Prop} : W (if c then a else b) Q ↔ (c -> W a Q) /\ (¬ c -> W b Q) := by
  by_cases h : c
  · rw [if_pos h]; exact ⟨fun q => ⟨fun _ => q, fun n => absurd h n⟩, fun q => q.1 h⟩
  · rw [if_neg h]; exact ⟨fun q => ⟨fun n => absurd n h, fun _ => q⟩, fun q => q.2 h⟩
theorem yL {n : Nat} (h : n <= 1000) : n < cap := Nat.lt_of_le_of_lt h (by decide)
def Rise (n : Int) (xs : List Int) : Prop := xs.Pairwise (· < ·) /\ ∀ x ∈ xs, 0 <= x /\ x < n
theorem Rise.nodup {n : Int} {xs : List Int} (h : Rise n xs) : xs.Nodup := h.1.imp fun q => Int.ne_of_lt q
theorem rise_nil {n : Int} : Rise n [] := ⟨.nil, fun x h => by cases h⟩
theorem rise_snoc {n : Int} {xs : List Int} {k : Int} (h : Rise k xs) (h0 : 0 <= k) (hk : k < n) : Rise n (xs ++ [k]) := by
  refine ⟨List.pairwise_append.mpr ⟨h.1, by simp, fun x hx y hy => ?_⟩, fun x hx => ?_⟩
  · rw [List.mem_singleton.mp hy]; exact (h.2 x hx).2
  · rcases List.mem_append.mp hx with q | q
    · have := h.2 x q; omega
    · rw [List.mem_singleton.mp q]; omega
theorem rise_up {n m : Int} {xs : List Int} (h : Rise n xs) (l : n <= m) : Rise m xs := ⟨h.1, fun x hx => by have := h.2 x hx; omega⟩
theorem xI : ∀ {n : Nat} {xs : List Int}, xs.Nodup -> (∀ x ∈ xs, 0 <= x /\ x < (n : Int)) -> xs.length <= n
  | 0, xs, _, h => by
    cases xs with
    | nil => exact Nat.le_refl _
    | cons x xs => have := h x List.mem_cons_self; omega
  | n + 1, xs, nd, h => by
    by_cases q : (n : Int) ∈ xs
    · have l := List.length_erase_of_mem q
      have ih := xI (n := n) (xs := xs.erase (n : Int)) (nd.erase _) fun x hx => by
        have h1 := h x (List.mem_of_mem_erase hx)
        have h2 : x ≠ (n : Int) := fun e => by rw [e] at hx; exact (List.Nodup.not_mem_erase nd) hx
        omega
      omega
    · have ih := xI (n := n) nd fun x hx => by
        have h1 := h x hx
        have h2 : x ≠ (n : Int) := fun e => q (e ▸ hx)
        omega
      omega
end
end Ts
namespace L2
open PySem PySem.Spec PyProof.Rows
theorem ints_of : ∀ {ns : List Int} {its : List Value}, Vals (ns.map V.int) its -> IntsAre its ns
  | [], [], _ => .nil
  | n :: ns, _ :: its, h => by
    cases h with
    | cons r t =>
      obtain ⟨k, rfl⟩ := r
      exact .cons n k (ints_of t)
theorem uC : ∀ {ns : List Int} {its : List Value}, IntsAre its ns -> Vals (ns.map V.int) its
  | _, _, .nil => .nil
  | _, _, .cons n t h => .cons ⟨t, rfl⟩ (uC h)
section
variable {X : Cx}
def rSort (K : PySem.W.Frag) : List V -> Hp -> VK -> Prop := fun xs H Q => ∃ (p : Addr) (ns : List Int), xs = [.ref p] /\ SqL K H p (ns.map V.int) /\ ns.length < 64 /\ ∀ (l : Addr) (ns' : List Int), H l = none -> ns'.Perm ns -> ns'.Pairwise (· <= ·) -> Q (.ref l) (upd H l (.lst (ns'.map V.int)))
theorem call_sortL (K : PySem.W.Frag) (hK : X.K = K := by rfl) : CallR X (.builtin "sorted") (rSort K) := by
  subst hK
  intro pins s σ H xs us Q I r h
  obtain ⟨p, ns, rfl, hq, h64, q⟩ := h
  obtain ⟨u, rfl, rx⟩ := vals1 r
  cases rx
  obtain ⟨its, r', pl, hz⟩ := I.list hq
  have hl := r'.length
  rw [List.length_map] at hl
  refine sorted_ints pl.isList (ints_of r') (by omega) fun out ns' a1 a2 a3 => ?_
  obtain ⟨e, he⟩ := sortedAll_at s.heap its out
  have fr : H (s.heap.objs.size + 1) = none := I.hok.fresh (Nat.le_succ _)
  refine ⟨.ref (s.heap.objs.size + 1), _, I.laid (t' := s.toks) (o := .lst (ns'.map V.int)) (fun b ob w => sortedAll_old w) (Nat.le_succ _) ?_, rfl, q _ ns' fr a2 a3⟩
  refine ⟨?_, out.toList, e, uC a1, ?_⟩
  · rw [List.length_map, a2.length_eq]
    exact Nat.le_of_lt (Nat.lt_trans h64 (by decide))
  · rw [Array.toArray_toList]
    exact he
theorem truth_bools {prog : Program} {w : World} {A : Around} {bs : List Bool} {its : List Value} (r : Vals (bs.map V.bl) its) : TruthOf prog w A (fun i v => its.toArray[i]? = some v) (fun i => bs.getD i false) := by
  intro i v s Q E hv hq
  have hv : its[i]? = some v := by simpa using hv
  have hi : i < bs.length := by
    have := (List.getElem?_eq_some_iff.mp hv).1
    rw [<- r.length, List.length_map] at this
    exact this
  obtain ⟨u, h1, h2⟩ := r.get (i := i) (x := .bl bs[i]) (by rw [List.getElem?_map, List.getElem?_eq_getElem hi] <;> rfl)
  rw [hv] at h1
  cases h1
  cases h2
  have hq : Q (bs.getD i false) s := hq
  rw [List.getD_eq_getElem?_getD, List.getElem?_eq_getElem hi] at hq
  exact wpAny_truthy_bool hq
theorem range_all {bs : List Bool} : ((List.range bs.length).all fun i => bs.getD i false) = bs.all id := by
  rw [Bool.eq_iff_iff, List.all_eq_true, List.all_eq_true]
  constructor
  · intro h x hx
    obtain ⟨i, hi, e⟩ := List.getElem_of_mem hx
    have z := h i (List.mem_range.mpr hi)
    rw [List.getD_eq_getElem?_getD, List.getElem?_eq_getElem hi, e] at z
    exact z
  · intro h i hi
    have hi := List.mem_range.mp hi
    rw [List.getD_eq_getElem?_getD, List.getElem?_eq_getElem hi]
    exact h _ (List.getElem_mem hi)
def rBools (K : PySem.W.Frag) (f : List Bool -> Bool) : List V -> Hp -> VK -> Prop := fun xs H Q => ∃ (p : Addr) (bs : List Bool), xs = [.ref p] /\ SqL K H p (bs.map V.bl) /\ Q (.bl (f bs)) H
theorem kept1 {s : Shared} {h' : Heap} {l : Addr} (hk : ∀ b o, b ∉ [s.heap.objs.size] -> (s.heap.push { cls := .type "list_iterator", data := .fields #[.ref l, .int 0 0] }).get? b = some o -> h'.get? b = some o) :
    ∀ b o, s.heap.get? b = some o -> h'.get? b = some o := fun b o e => hk b o (fun m => Nat.lt_irrefl _ (List.mem_singleton.mp m ▸ Heap.lt_size e)) (Heap.get?_push_of_some _ e)
theorem call_allL (K : PySem.W.Frag) (hc : X.calm = true) (hK : X.K = K := by rfl) : CallR X (.builtin "all") (rBools K fun bs => bs.all id) := by
  subst hK
  intro pins s σ H xs us Q I r h
  obtain ⟨p, bs, rfl, hq, q⟩ := h
  obtain ⟨u, rfl, rx⟩ := vals1 r
  cases rx
  obtain ⟨its, r', pl, hz⟩ := I.list hq
  have hl := pl.isList
  have hlt : p < s.heap.objs.size := by obtain ⟨_, e, _⟩ := hl; exact Heap.lt_size e
  refine call_all_walk (wpAny_pyIter_list hl ?_)
  refine ⟨_, _, _, _, _, _, _, rfl, Walks.list (A := X.A.in1) (I.ok.hd hc) s.heap.objs.size p (Nat.ne_of_lt hlt) its.toArray, ⟨⟨_, Heap.get?_push_size _ rfl, rfl, rfl⟩, hl.push _⟩, truth_bools r', fun h' tk hk => ?_⟩
  have hn : its.toArray.size = bs.length := by
    rw [List.size_toArray, <- r'.length, List.length_map]
  rw [hn, range_all]
  exact ⟨.bl (bs.all id), H, I.kept (kept1 hk), rfl, q⟩
end
end L2
namespace L2
open PySem PySem.Spec PyProof.Rows
section
variable {prog : Program} {w : World} {A : Around} {R : Result -> Shared -> Prop} {It : Addr} {fp wr : List Addr} {n : Nat} {P : Nat -> Value -> Prop} {St : Nat -> Heap -> Prop} {kw : List (Str × Value)}
end
section
variable {X : Cx} {e e2 : Expr} {te td : TE} {p pos kpos : Pos}
end
end L2
namespace Ts
open PySem L2
def isort (ns : List Int) : List Int := ns.mergeSort (fun a b => decide (a <= b))
def sortM (ns : List Int) : Option (List Int) := if ns.length < 64 then some (isort ns) else none
theorem vP (ns : List Int) : (isort ns).Perm ns := List.mergeSort_perm _ _
theorem isort_sorted (ns : List Int) : (isort ns).Pairwise (· <= ·) := by
  have := List.pairwise_mergeSort (le := fun a b : Int => decide (a <= b)) (fun a b c h1 h2 => by simp at *; omega) (fun a b => by simp; omega) ns
  exact this.imp fun h => by simpa using h
theorem sorted_uniq : ∀ {xs ys : List Int}, xs.Perm ys -> xs.Pairwise (· <= ·) -> ys.Pairwise (· <= ·) -> xs = ys
  | [], ys, p, _, _ => (List.Perm.nil_eq p)
  | x :: xs, [], p, _, _ => by have := p.length_eq; simp at this
  | x :: xs, y :: ys, p, h1, h2 => by
    have a1 := List.pairwise_cons.mp h1
    have a2 := List.pairwise_cons.mp h2
    have e : x = y := by
      have q1 : x ∈ y :: ys := p.subset List.mem_cons_self
      have q2 : y ∈ x :: xs := p.symm.subset List.mem_cons_self
      rcases List.mem_cons.mp q1 with q1 | q1
      · exact q1
      · rcases List.mem_cons.mp q2 with q2 | q2
        · exact q2.symm
        · have := a1.1 y q2; have := a2.1 x q1; omega
    subst e
    rw [sorted_uniq (List.Perm.cons_inv p) a1.2 a2.2]
section
variable {K : PySem.W.Frag} {B : Bs} {sl : List (Slot K)} {md : Md} {t t1 t2 : TE} {n : Bool}
theorem eo_sort {m : Option (List Int)} (h : Ex B sl .hp t m) : Eo B sl md (tCB (rSort K) (tCons t tNil)) (m.bind sortM) := fun c hc F O H σ Q s k => by
  cases m with
  | none => cases hc
  | some ns =>
    have hc : sortM ns = some c := hc
    unfold sortM at hc
    split at hc
    case isFalse => cases hc
    rename_i hl
    cases hc
    refine h ns rfl F O H σ _ s fun v F' H' g r1 => ?_
    obtain ⟨p, vs, rfl, z1, z2⟩ := r1
    have z3 : vs = ns.map V.int := z2.vals
    subst z3
    refine ⟨p, ns, rfl, SqL.of z1, hl, fun l ns' hn p1 p2 => ?_⟩
    rw [sorted_uniq (p1.trans (vP ns).symm) p2 (isort_sorted ns)]
    exact k l _ F' H' g hn (a2_ints _)
theorem ex_bools {f : List Bool -> Bool} {m : Option (List Bool)} (h : Ex B sl .hp t m) : Ex B sl md (tCB (rBools K f) (tCons t tNil)) (m.bind fun bs => some (f bs)) := fun c hc F O H σ Q s k => by
  cases m with
  | none => cases hc
  | some bs =>
    cases (show some (f bs) = some c from hc)
    refine h bs rfl F O H σ _ s fun v F' H' g r1 => ?_
    obtain ⟨p, vs, rfl, z1, z2⟩ := r1
    have z3 : vs = bs.map V.bl := z2.vals
    subst z3
    exact ⟨p, bs, rfl, SqL.of z1, k _ F' H' g rfl⟩
end
end Ts
namespace Ts
open PySem L2
section
variable {β : Type}
def gK (kvs : List (Key × β)) (k : Key) : Option β := (kvs.find? fun kv => decide (kv.1 = k)).map (·.2)
def pK (kvs : List (Key × β)) (k : Key) (v : β) : List (Key × β) := if (kvs.any fun kv => decide (kv.1 = k)) = true then kvs.map (fun kv => if kv.1 = k then (kv.1, v) else kv) else kvs ++ [(k, v)]
abbrev dget (kvs : List (Key × β)) (k : Int) : Option β := gK kvs (Sum.inl k)
def dput (kvs : List (Key × β)) (k : Int) (v : β) : Option (List (Key × β)) := if kvs.length < cap then some (pK kvs (Sum.inl k) v) else none
theorem gK_find : ∀ {kvs : List (Key × β)} {k : Key}, (kvs.any fun kv => decide (kv.1 = k)) = (gK kvs k).isSome
  | [], _ => rfl
  | x :: kvs, k => by
    unfold gK
    rw [List.any_cons, List.find?_cons]
    by_cases e : x.1 = k
    · rw [decide_eq_true e]; rfl
    · rw [decide_eq_false e, Bool.false_or]; exact gK_find
theorem gK_put : ∀ (kvs : List (Key × β)) (k j : Key) (v : β), gK (pK kvs k v) j = if j = k then some v else gK kvs j := fun kvs k j v => by
  unfold pK
  cases a : (kvs.any fun kv => decide (kv.1 = k)) with
  | true =>
    rw [if_pos rfl]
    induction kvs with
    | nil => cases a
    | cons x kvs ih =>
      unfold gK at ih ⊢
      rw [List.map_cons, List.find?_cons, List.find?_cons]
      by_cases e : x.1 = k
      · rw [if_pos e]
        by_cases f : j = k
        · subst f
          rw [decide_eq_true (show (x.1, v).1 = j from e), if_pos rfl]; rfl
        · rw [decide_eq_false (show ¬ (x.1, v).1 = j from fun z => f (z.symm.trans e)), if_neg f]
          show Option.map (fun x => x.2) (List.find? (fun kv => decide (kv.1 = j)) (List.map (fun kv => if kv.1 = k then (kv.1, v) else kv) kvs)) = Option.map (fun x => x.2) (List.find? (fun kv => decide (kv.1 = j)) kvs)
          clear ih a
          induction kvs with
          | nil => rfl
          | cons y kvs ih =>
            rw [List.map_cons, List.find?_cons, List.find?_cons]
            by_cases g : y.1 = k
            · rw [if_pos g, decide_eq_false (show ¬ (y.1, v).1 = j from fun z => f (z.symm.trans g))]; exact ih
            · rw [if_neg g]
              by_cases h : y.1 = j
              · rw [decide_eq_true h]
              · rw [decide_eq_false h]; exact ih
      · rw [if_neg e]
        have a' : (kvs.any fun kv => decide (kv.1 = k)) = true := by rw [List.any_cons, decide_eq_false e, Bool.false_or] at a; exact a
        by_cases f : x.1 = j
        · rw [decide_eq_true f, if_neg fun z => e (f.trans z)]
        · rw [decide_eq_false f]; exact ih a'
  | false =>
    rw [if_neg (by decide)]
    unfold gK
    rw [List.find?_append]
    have hn : kvs.find? (fun kv => decide (kv.1 = k)) = none := by
      rw [List.find?_eq_none]
      intro x hx
      have := List.any_eq_false.mp a x hx
      exact this
    by_cases f : j = k
    · subst f; rw [hn, if_pos rfl]; simp
    · rw [if_neg f]
      cases kvs.find? (fun kv => decide (kv.1 = j)) with
      | none => simp [Ne.symm f]
      | some y => rfl
theorem pK_len (kvs : List (Key × β)) (k : Key) (v : β) : (pK kvs k v).length <= kvs.length + 1 := by
  unfold pK
  split
  · rw [List.length_map]; omega
  · rw [List.length_append]; exact Nat.le_refl _
end
section
variable {K : PySem.W.Frag} {α : Type} [Rp K α]
abbrev DR (K : PySem.W.Frag) {α : Type} [Rp K α] (F : Hp) : Key × V -> Key × α -> Prop := fun x y => x.1 = y.1 /\ rp K F x.2 y.2
theorem A2.any {F : Hp} {k : Key} : ∀ {ks : List (Key × V)} {kvs : List (Key × α)}, A2 (DR K F) ks kvs -> (ks.any fun kv => decide (kv.1 = k)) = (kvs.any fun kv => decide (kv.1 = k))
  | [], [], _ => rfl
  | _ :: _, _ :: _, h => by rw [List.any_cons, List.any_cons, h.1.1, A2.any h.2]
  | [], _ :: _, h => h.elim
  | _ :: _, [], h => h.elim
theorem A2.val {F : Hp} {k : Key} : ∀ {ks : List (Key × V)} {kvs : List (Key × α)}, A2 (DR K F) ks kvs -> (gK kvs k = none /\ valV ks k = none) \/ ∃ a v, gK kvs k = some a /\ valV ks k = some v /\ rp K F v a
  | [], [], _ => .inl ⟨rfl, rfl⟩
  | x :: ks, y :: kvs, h => by
    unfold gK valV
    rw [List.find?_cons, List.find?_cons, h.1.1]
    by_cases e : y.1 = k
    · rw [decide_eq_true e]; exact .inr ⟨y.2, x.2, rfl, rfl, h.1.2⟩
    · rw [decide_eq_false e]; exact A2.val h.2
  | [], _ :: _, h => h.elim
  | _ :: _, [], h => h.elim
theorem A2.putM {F : Hp} {k : Key} {v : V} {a : α} (r : rp K F v a) : ∀ {ks : List (Key × V)} {kvs : List (Key × α)}, A2 (DR K F) ks kvs -> A2 (DR K F) (ks.map fun kv => if kv.1 = k then (kv.1, v) else kv) (kvs.map fun kv => if kv.1 = k then (kv.1, a) else kv)
  | [], [], _ => trivial
  | x :: ks, y :: kvs, h => by
    rw [List.map_cons, List.map_cons]
    refine ⟨?_, A2.putM r h.2⟩
    by_cases e : x.1 = k
    · rw [if_pos e, if_pos (h.1.1 ▸ e)]; exact ⟨h.1.1, r⟩
    · rw [if_neg e, if_neg (h.1.1 ▸ e)]; exact h.1
  | [], _ :: _, h => h.elim
  | _ :: _, [], h => h.elim
theorem A2.put {F : Hp} {k : Key} {v : V} {a : α} (r : rp K F v a) {ks : List (Key × V)} {kvs : List (Key × α)} (h : A2 (DR K F) ks kvs) : A2 (DR K F) (putK ks k v) (pK kvs k a) := by
  unfold putK pK
  rw [h.any]
  split
  · exact h.putM r
  · exact h.snoc ⟨rfl, r⟩
structure Dc (α : Type) where
  kv : List (Key × α)
instance : Rp K (Dc α) := ⟨fun F v d => ∃ p ks, v = .ref p /\ F p = some (.dK ks) /\ A2 (DR K F) ks d.kv, fun s ⟨p, ks, h1, h2, h3⟩ => ⟨p, ks, h1, s _ _ h2, h3.imp fun _ _ z => ⟨z.1, Rp.mono s z.2⟩⟩⟩
instance : Nn K (Dc α) := ⟨fun ⟨_, _, h, _⟩ => by rw [h]; intro e; cases e⟩
variable {B : Bs} {sl : List (Slot K)} {md : Md} {t t2 : TE} {F H G : Hp} {O : Own} {σ : St} {u : TS} {al : Bool}
theorem ex_varD {kvs : List (Key × α)} (i : Nat) (hs : sl[i]? = some (.od kvs)) : Ex B sl .hp (tVar i) (some (Dc.mk kvs)) := fun a' ha F O H σ Q s k => by
  cases ha
  obtain ⟨k0, z0⟩ := s
  obtain ⟨O1, O2, p, ks, rfl, h1, h2, _⟩ := z0.od_at hs
  exact ⟨_, h1, k _ F H (.refl k0) ⟨p, ks, rfl, k0.one.2.2, h2.imp fun _ _ z => ⟨z.1, Rp.mono k0.fh z.2⟩⟩⟩
theorem ex_din {m : Option Int} {m2 : Option (Dc α)} (h : Ex B sl .hp t m) (h2 : Ex B sl .hp t2 m2) : Ex B sl md (tDIn t t2) (m.bind fun k => m2.bind fun d => some (dget d.kv k).isSome) := fun c hc F O H σ Q s kk => by
  obtain ⟨k, d, e1, e2, e3⟩ := bind2 hc
  cases e3
  refine h k e1 F O H σ _ s fun v F' H' g r1 => ?_
  refine h2 d e2 F' O H' σ _ (s.grow g) fun w F2 H2 g2 r2 => ?_
  cases r1
  obtain ⟨p, ks, rfl, z1, z2⟩ := r2
  refine ⟨p, _, rfl, DGet.k (k := Sum.inl k) z1, ?_⟩
  have e : (valV ks (Sum.inl k : Key)).isSome = (dget d.kv k).isSome := by
    rcases z2.val (k := Sum.inl k) with ⟨q1, q2⟩ | ⟨a, v, q1, q2, _⟩
    · show _ = (gK d.kv (Sum.inl k)).isSome; rw [q1, q2]; rfl
    · show _ = (gK d.kv (Sum.inl k)).isSome; rw [q1, q2]; rfl
  rw [e]
  exact kk _ F2 H2 (g.trans g2) rfl
theorem ex_dnotin {m : Option Int} {m2 : Option (Dc α)} (h : Ex B sl .hp t m) (h2 : Ex B sl .hp t2 m2) : Ex B sl md (tDNotIn t t2) (m.bind fun k => m2.bind fun d => some !(dget d.kv k).isSome) := fun c hc F O H σ Q s kk => by
  obtain ⟨k, d, e1, e2, e3⟩ := bind2 hc
  cases e3
  refine h k e1 F O H σ _ s fun v F' H' g r1 => ?_
  refine h2 d e2 F' O H' σ _ (s.grow g) fun w F2 H2 g2 r2 => ?_
  cases r1
  obtain ⟨p, ks, rfl, z1, z2⟩ := r2
  refine ⟨p, _, rfl, DGet.k (k := Sum.inl k) z1, ?_⟩
  have e : (valV ks (Sum.inl k : Key)).isSome = (dget d.kv k).isSome := by
    rcases z2.val (k := Sum.inl k) with ⟨q1, q2⟩ | ⟨a, v, q1, q2, _⟩
    · show _ = (gK d.kv (Sum.inl k)).isSome; rw [q1, q2]; rfl
    · show _ = (gK d.kv (Sum.inl k)).isSome; rw [q1, q2]; rfl
  rw [e]
  exact kk _ F2 H2 (g.trans g2) rfl
theorem ex_dget {m : Option (Dc α)} {m2 : Option Int} (h : Ex B sl md t m) (h2 : Ex B sl .hp t2 m2) : Ex B sl md (tDGet t t2) (m.bind fun d => m2.bind fun k => dget d.kv k) := fun c hc F O H σ Q s kk => by
  obtain ⟨d, k, e1, e2, e3⟩ := bind2 hc
  refine h d e1 F O H σ _ s fun v F' H' g r1 => ?_
  refine h2 k e2 F' O H' σ _ (s.grow g) fun w F2 H2 g2 r2 => ?_
  cases r2
  obtain ⟨p, ks, rfl, z1, z2⟩ := r1
  have hle : Same (reg B F' H' md) H2 := (match md with
    | .nw => dif_le.trans g.ok.fh
    | .fz => g.ok.fh
    | .hp => .refl _ : Same (reg B F' H' md) H').trans g2.hh
  rcases z2.val (k := Sum.inl k) with ⟨q1, q2⟩ | ⟨a, v, q1, q2, q3⟩
  · have : gK d.kv (Sum.inl k) = some c := e3
    rw [q1] at this
    cases this
  · have : gK d.kv (Sum.inl k) = some c := e3
    rw [q1] at this
    cases this
    have dg := DGet.k (k := Sum.inl k) (hle _ _ z1)
    rw [q2] at dg
    exact ⟨p, v, rfl, dg, kk v F2 H2 (g.trans g2) (Rp.mono (wI g2 md) q3)⟩
theorem sn_dput {kvs : List (Key × α)} {m : Option α} {mi : Option Int} {te ti : TE} (i : Nat) (hs : sl[i]? = some (.od kvs)) (hh : sl.all (fun s => !isHs s) = true) (hv : Ex B sl .fz te m) (hi : Ex B sl .hp ti mi) :
    Sn B sl (sDPut (tVar i) ti te) (fun ys => sl.set i (.od ys)) (m.bind fun a => mi.bind fun k => dput kvs k a) := fun ys ha G D σ H s k => by
  obtain ⟨a, ix, e1, e2, e3⟩ := bind2 ha
  unfold dput at e3
  split at e3
  case isFalse => cases e3
  rename_i hl
  cases e3
  obtain ⟨F, O, g, z⟩ := s
  refine hv a e1 F O H σ _ z fun v F' H' gr r => ?_
  obtain ⟨p, ks, h1, h2, h3, _⟩ := (z.grow gr).chgD hs hh
  refine ⟨_, h1, ?_⟩
  refine hi ix e2 F' O H' σ _ (z.grow gr) fun w F2 H2 gr2 rw => ?_
  cases rw
  obtain ⟨p', ks', h1', h2', h3', h4'⟩ := ((z.grow gr).grow gr2).chgD hs hh
  have e := h1.symm.trans h1'
  cases e
  obtain ⟨O', z'⟩ := h4' (putK ks' (Sum.inl ix) v) (pK kvs (Sum.inl ix) a) (h3'.put (Rp.mono gr2.ff r))
  exact ⟨p, _, rfl, DPut.k (k := Sum.inl ix) h2' (cap_lt (by rw [h3'.len]; exact hl)), k _ _ ⟨F2, O', (g.trans gr.ff).trans gr2.ff, z'⟩⟩
theorem sb_retD [Sc K α] {kvs : List (Key × α)} (i : Nat) (hs : sl[i]? = some (.od kvs)) : SB B sl (tSeq (tRet (tVar i)) u) al (some (Dc.mk kvs)) := fun b hb G D σ H s k => by
  cases hb
  obtain ⟨F, O, g, k0, z0⟩ := s
  obtain ⟨O1, O2, p, ks, rfl, h1, h2, _⟩ := z0.od_at hs
  obtain ⟨a1, a2, a3⟩ := k0.one
  refine ⟨_, h1, k _ H (rt_of (al := al) k0.freeze (!al) ⟨p, ks, rfl, ?_, h2.imp fun _ _ z => ⟨z.1, rp_sc z.2⟩⟩ rfl)⟩
  cases al with
  | false => exact (uH a2).trans zR
  | true => exact zR
end
end Ts
namespace L2
open PySem PySem.Spec PyProof.Rows
section
variable {X : Cx} {tg : Expr}
end
end L2
namespace Ts
open PySem L2
section
variable {K : PySem.W.Frag} {B : Bs} {sl : List (Slot K)} {t1 t2 t3 : TE} {n : Bool}
end
end Ts
namespace Ts
open PySem L2
section
variable {K : PySem.W.Frag} {B : Bs} {sl : List (Slot K)} {md : Md} {t : TE} {u : TS} {al : Bool} {α : Type} [Rp K α]
abbrev rInt1 : List V -> Hp -> VK -> Prop := fun xs H Q => (∃ i, xs = [.int i] /\ Q (.int i) H) \/ ∃ k, xs = [.bl k] /\ Q (.int (if k then 1 else 0)) H
theorem ex_intb {m : Option Bool} (h : Ex B sl .hp t m) : Ex B sl md (tCB rInt1 (tCons t tNil)) (m.bind fun b => some (if b = true then (1 : Int) else 0)) := fun c hc F O H σ Q s k => by
  cases m with
  | none => cases hc
  | some b =>
    cases (show some (if b = true then (1 : Int) else 0) = some c from hc)
    refine h b rfl F O H σ _ s fun v F' H' g r1 => ?_
    cases r1
    exact .inr ⟨b, rfl, k _ F' H' g rfl⟩
end
end Ts
namespace L2
open PySem PySem.Spec PyProof.Rows
section
variable {X : Cx}
end
end L2
namespace Ts
open PySem L2
section
variable {K : PySem.W.Frag} {B : Bs} {sl : List (Slot K)} {md : Md} {t : TE} {α : Type} [Rp K α]
theorem sn_disp1 {s : Slot K} {n : Bool} {x : Int} {b : Bool} (i j : Nat) (hj : sl[j]? = some (.fz n x)) (hs : sl[i]? = some s) (ho : isOw s = false) : Sn B sl (tAsg (tDisp [(tVar j, tC (.bl b))]) (gName i)) (fun kvs => sl.set i (.od kvs)) (some [((Sum.inl x : Key), b)]) := fun a ha G D σ H s k => by
  cases ha
  obtain ⟨F, O, g, k0, z0⟩ := s
  obtain ⟨v, hv, rv⟩ := z0.fz_at hj
  cases rv
  intro p hp
  refine ⟨_, hv, ?_⟩
  refine ⟨zR, [(Sum.inl x, .bl b)], rfl, by show 1 <= 15; omega, k _ _ ?_⟩
  obtain ⟨O1, O2, rfl, z'⟩ := z0.own (s' := .od [((Sum.inl x : Key), b)]) (x := some (.ref p)) (c := (p, .dK [(Sum.inl x, .bl b)])) (fun _ _ _ z => .od ⟨⟨rfl, rfl⟩, trivial⟩ z) hs ho
  rw [show upd (upd H p (.dK [])) p (.dK (mergeK [] [(Sum.inl x, V.bl b)])) = upd H p (.dK [(Sum.inl x, V.bl b)]) from upd_upd]
  exact ⟨F, _, g, k0.add hp, z'.mono (.refl _) (lo_add hp) (xV hp _)⟩
variable {S : Type} {n : Bool} {tb : TS}
def EiC (B : Bs) (sl sl2 : List (Slot K)) (n : Bool) (wi : TI) {α : Type} [Rp K α] (mi : Option (List α)) : Prop :=
  ∀ xs, mi = some xs -> ∀ (F : Hp) (O : Own) (H : Hp) (σ : St) (R : It -> Hp -> Prop), At B sl F O H σ -> (∀ (J : It) (F' : Hp) (O' : Own) (H' : Hp), Same F F' -> At B sl2 F' O' H' σ -> Yl K B F' n J xs -> R J H') -> wi σ H R
theorem ec_popix {n : Bool} {ws : List Int} {mE : Option (List (List α))} {te : TE} (i : Nat) (hs : sl[i]? = some (.ow n ws)) (hh : sl.all (fun s => !isHs s) = true) (h1 : Ex B sl (mdb false) te mE) :
    EiC B sl (sl.set i (.ow n ws.dropLast)) false (iList K (tOp (rIxL K) te (tBM0 K "list" rPop (tVar i)))) (mE.bind fun E => ws.getLast?.bind fun y => L2.atI E y) := fun xs hx F O H σ R a k => by
  cases mE with
  | none => cases hx
  | some E =>
    cases e2 : ws.getLast? with
    | none => simp [e2] at hx
    | some y =>
      have hx : L2.atI E y = some xs := by simpa [e2] using hx
      refine h1 E rfl F O H σ _ a fun v F' H' gr r1 => ?_
      have a1 := a.grow gr
      obtain ⟨p, vs, z1, z2, z3, z4⟩ := a1.chg hs hh
      have z5 : vs = ws.map V.int := z3.vals
      subst z5
      obtain ⟨O', a2⟩ := z4 (ws.map V.int).dropLast ws.dropLast (by rw [<- List.map_dropLast]; exact a2_ints _)
      obtain ⟨q, us, rfl, y1, y2⟩ := r1
      obtain ⟨u, w1, w2⟩ := y2.atI hx
      obtain ⟨l, ts, rfl, t1, t2⟩ := w2
      refine ⟨_, z1, .inl ⟨rfl, _, SqL.of z2⟩, p, ws.map V.int, V.int y, rfl, rfl, z2, ?_, ?_⟩
      · rw [List.length_map, List.getElem?_map, <- List.getLast?_eq_getElem?, e2]; rfl
      refine ⟨q, us, y, .ref l, rfl, rfl, SqL.of (a2.1.fh _ _ y1), w1, l, rfl, ⟨ts, SqL.of (a2.1.fh _ _ t1)⟩, k _ F' O' _ gr.ff a2 fun i F2 O2 H2 sf k2 => ?_⟩
      have hq : SqL K H2 l ts := SqL.of (k2.fh _ _ (sf _ _ t1))
      refine ⟨fun hl => ⟨ts, hq, by rw [t2.len]; exact hl⟩, fun x hx => ?_⟩
      obtain ⟨w, hw, rw⟩ := t2.at2 hx
      refine ⟨⟨ts, w, hq, hw⟩, fun v H3 yd => ?_⟩
      obtain ⟨e, y⟩ := yd
      subst e
      have := (hw.symm.trans (y ts hq))
      cases this
      exact ⟨F2, .refl k2, Rp.mono (wN false sf) rw⟩
theorem sn_forC {sl0 : List (Slot K)} {mi : Option (List α)} {wi : TI} {g : TG} {L : S -> List (Slot K)} {Lx : S -> α -> List (Slot K)} {step : S -> α -> Option S} (s0 : S) (h0 : Le sl sl0) (hi : EiC B sl0 (L s0) n wi mi) (hg : ∀ s, Tg B (L s) n g (Lx s)) (hb : ∀ s x, Sn B (Lx s x) tb L (step s x)) :
    Sn B sl (tFor wi g tb) L (mi.bind fun xs => foldM step xs s0) := fun s1 hs1 G D σ H q k => by
  cases mi with
  | none => cases hs1
  | some xs =>
    have hs1 : foldM step xs s0 = some s1 := hs1
    obtain ⟨F, O, g0, a⟩ := q.le h0
    refine hi xs rfl F O H σ _ a fun J F' O' H' gr a' yl => ?_
    refine ⟨fun i m σ H => m = xs.length - i /\ i <= xs.length /\ ∃ s, foldM step (xs.take i) s0 = some s /\ Sg B F' (L s) σ H, ⟨xs.length, rfl, Nat.zero_le _, s0, rfl, F', O', .refl _, a'⟩, ?_⟩
    rintro i m σ H ⟨rfl, hil, s, hs, F2, O2, sf, a2⟩
    obtain ⟨y1, y2⟩ := yl i F2 O2 H sf a2.1
    by_cases hlt : i < xs.length
    · obtain ⟨go, y3⟩ := y2 xs[i] (List.getElem?_eq_getElem hlt)
      obtain ⟨s', s'', e1, e2, e3⟩ := foldM_take hs1 (List.getElem?_eq_getElem hlt)
      rw [hs] at e1
      cases e1
      refine .inr ⟨go, Sg B F' (L s''), fun σ' H' z => ⟨xs.length - (i + 1), by omega, rfl, hlt, s'', e3, z⟩, fun v H3 yd => ?_⟩
      obtain ⟨F3, g3, r3⟩ := y3 v H3 yd
      exact hg s v xs[i] F3 O2 H3 σ _ (a2.grow g3) r3 fun σ' a' => hb s xs[i] s'' e2 F' _ σ' H3 ⟨F3, O2, sf.trans g3.ff, a'⟩ fun σ2 H2 z => z
    · have e : i = xs.length := by omega
      subst e
      rw [List.take_length, hs1] at hs
      cases hs
      exact .inl ⟨y1 (Nat.le_refl _), k σ H ⟨F2, O2, (g0.trans gr).trans sf, a2⟩⟩
end
end Ts
namespace L2
open PySem
theorem pe_disp1 {X : Cx} {k v : Expr} {tk tv : TE} {pos : Pos} (hk : PE X k tk) (hv : PE X v tv) : PE X (.Dict [some k] [v] pos) (tDisp [(tk, tv)]) := pe_disp (pps_cons hk hv pps_nil) rfl rfl (by simp) (by show 1 <= 15; omega)
end L2
namespace L2
open PySem PySem.Spec PyProof.Rows
def Its (x : Str) : It := ⟨fun i _ => i < x.cps.size, fun i H v H' => H' = H /\ ∃ c, x.cps[i]? = some c /\ v = .str ⟨#[c]⟩, fun i _ => x.cps.size <= i⟩
theorem turn_ascii {P : Program} {w : World} {K : PySem.W.Frag} {tg : Expr} (it : Addr) (x : Str) (t : Tok) : Turn P w K tg (Its x) [it] it (fun i h => h.IsStrIter it "str_ascii_iterator" x t i) where
  mem := List.mem_singleton.mpr rfl
  obj := fun i h st b hb => by
    have e : b = it := List.mem_singleton.mp hb
    subst e
    obtain ⟨o, ho, hc, hd⟩ := st
    refine ⟨o, ho, fun v z => ?_⟩
    rw [hd] at z
    cases z
  keep := fun i h h' st k => by
    obtain ⟨o, ho, r⟩ := st
    exact ⟨o, k it (List.mem_singleton.mpr rfl) _ ho, r⟩
  item := by
    intro X hP hw hK hc i pins s σ H E I hf st hg
    subst hP hw hK
    obtain ⟨f0, f1, f2, f3, f4, f5⟩ := hf it (List.mem_singleton.mpr rfl)
    refine (Walks.strAscii (prog := X.prog) (w := X.w) (I.ok.hd hc) it x t).item i s _ _ hg st fun v h' tk hv st' kk => ?_
    obtain ⟨c, u, hx, rfl⟩ := hv
    have I1 : Inv X pins σ H { s with heap := h', toks := tk } := I.turned (fun b o hb e => kk b o (fun z => hb (List.mem_singleton.mp z)) e) f0 f1 f3 f4 f5
    obtain ⟨o, ho, hc, hd⟩ := id st'
    exact ⟨_, rfl, go_of (s := { s with heap := h', toks := tk }) (n := "str_ascii_iterator") ho hc hd (by decide) ⟨.str ⟨#[c]⟩, H, I1, ⟨u, rfl⟩, ⟨rfl, c, hx, rfl⟩, st', fun b hb => (hf b hb).1⟩⟩
  done := by
    intro X hP hw hK hc i pins s σ H E I hf st hg
    subst hP hw hK
    obtain ⟨f0, f1, f2, f3, f4, f5⟩ := hf it (List.mem_singleton.mpr rfl)
    exact wpAny_pyNext_ascii_end (I.ok.hd hc) st (Array.getElem?_eq_none hg) fun h' eb => ⟨rfl, I.turned (t' := s.toks) (fun b o hb e => eb b o hb e) f0 f1 f3 f4 f5⟩
  self := fun _ _ _ _ _ st h => wpAny_pyIter_striter_ascii st h
theorem turn_wide {P : Program} {w : World} {K : PySem.W.Frag} {tg : Expr} (it : Addr) (x : Str) (t : Tok) : Turn P w K tg (Its x) [it] it (fun i h => h.IsStrIter it "str_iterator" x t i) where
  mem := List.mem_singleton.mpr rfl
  obj := fun i h st b hb => by
    have e : b = it := List.mem_singleton.mp hb
    subst e
    obtain ⟨o, ho, hc, hd⟩ := st
    refine ⟨o, ho, fun v z => ?_⟩
    rw [hd] at z
    cases z
  keep := fun i h h' st k => by
    obtain ⟨o, ho, r⟩ := st
    exact ⟨o, k it (List.mem_singleton.mpr rfl) _ ho, r⟩
  item := by
    intro X hP hw hK hc i pins s σ H E I hf st hg
    subst hP hw hK
    obtain ⟨f0, f1, f2, f3, f4, f5⟩ := hf it (List.mem_singleton.mpr rfl)
    refine (Walks.strWide (prog := X.prog) (w := X.w) (I.ok.hd hc) it x t).item i s _ _ hg st fun v h' tk hv st' kk => ?_
    obtain ⟨c, u, hx, rfl⟩ := hv
    have I1 : Inv X pins σ H { s with heap := h', toks := tk } := I.turned (fun b o hb e => kk b o (fun z => hb (List.mem_singleton.mp z)) e) f0 f1 f3 f4 f5
    obtain ⟨o, ho, hc, hd⟩ := id st'
    exact ⟨_, rfl, go_of (s := { s with heap := h', toks := tk }) (n := "str_iterator") ho hc hd (by decide) ⟨.str ⟨#[c]⟩, H, I1, ⟨u, rfl⟩, ⟨rfl, c, hx, rfl⟩, st', fun b hb => (hf b hb).1⟩⟩
  done := by
    intro X hP hw hK hc i pins s σ H E I hf st hg
    subst hP hw hK
    obtain ⟨f0, f1, f2, f3, f4, f5⟩ := hf it (List.mem_singleton.mpr rfl)
    exact wpAny_pyNext_wide_end (I.ok.hd hc) st (Array.getElem?_eq_none hg) fun h' eb => ⟨rfl, I.turned (t' := s.toks) (fun b o hb e => eb b o hb e) f0 f1 f3 f4 f5⟩
  self := fun _ _ _ _ _ st h => wpAny_pyIter_striter_wide st h
section
variable {X : Cx} {tg : Expr}
def iStr (tl : TE) : TI := fun σ H R => tl σ H fun x H1 => ∃ y, x = .str y /\ R (Its y) H1
theorem pi_str {l : Expr} {tl : TE} (hl : PE X l tl) : PI X tg l (iStr tl) := by
  intro pins s σ H R I h
  refine thn (hl pins s σ H _ I h) fun v s1 ⟨x, H1, I1, r1, q1⟩ => ?_
  obtain ⟨y, e, q⟩ := q1
  subst e
  obtain ⟨t, rfl⟩ := r1
  have fp : ∀ b ∈ [s1.heap.objs.size], FpOk X pins H1 b := fun b hb => by
    have e : b = s1.heap.objs.size := List.mem_singleton.mp hb
    subst e
    exact I1.fpOk (Nat.le_refl _) (I1.hok.fresh (Nat.le_refl _))
  cases ha : y.cps.all (· < 128)
  · exact wpAny_pyIter_wide ha ⟨s1.heap.objs.size, [s1.heap.objs.size], _, _, H1, rfl, I1.kept (t' := s1.toks) fun b o e => Heap.get?_push_of_some _ e, turn_wide _ y t, ⟨_, Heap.get?_push_size _ rfl, rfl, rfl⟩, fp, q⟩
  · exact wpAny_pyIter_ascii ha ⟨s1.heap.objs.size, [s1.heap.objs.size], _, _, H1, rfl, I1.kept (t' := s1.toks) fun b o e => Heap.get?_push_of_some _ e, turn_ascii _ y t, ⟨_, Heap.get?_push_size _ rfl, rfl, rfl⟩, fp, q⟩
end
end L2
namespace Ts
open PySem L2
section
variable {K : PySem.W.Frag} {B : Bs} {sl : List (Slot K)} {md : Md} {t ta tb tc : TE} {n : Bool}
def signs (x : Str) : List Str := x.cps.toList.map fun c => (⟨#[c]⟩ : Str)
theorem ei_str {mi : Option Str} (h : Ex B sl .hp t mi) : Ei B sl n (iStr t) (mi.bind fun x => some (signs x)) := fun xs hx F O H σ R a k => by
  cases mi with
  | none => cases hx
  | some x =>
    cases (show some (signs x) = some xs from hx)
    refine h x rfl F O H σ _ a fun v F' H' gr r => ?_
    cases r
    refine ⟨x, rfl, k _ F' H' gr fun i F2 O2 H2 sf k2 => ⟨fun hl => ?_, fun y hy => ?_⟩⟩
    · show x.cps.size <= i
      unfold signs at hl
      rw [List.length_map, Array.length_toList] at hl
      exact hl
    · unfold signs at hy
      rw [List.getElem?_map, Array.getElem?_toList] at hy
      cases e : x.cps[i]? with
      | none => rw [e] at hy; cases hy
      | some c =>
        rw [e] at hy
        cases hy
        have hi : i < x.cps.size := (Array.getElem?_eq_some_iff.mp e).1
        refine ⟨hi, fun v H3 yd => ?_⟩
        obtain ⟨rfl, c', e', rfl⟩ := yd
        rw [e] at e'
        cases e'
        exact ⟨F2, .refl k2, rfl⟩
theorem ex_chain {f g : Int -> Int -> Bool} {m1 m2 m3 : Option Int} (h1 : Ex B sl .hp ta m1) (h2 : Ex B sl .hp tb m2) (h3 : Ex B sl .hp tc m3) :
    Ex B sl md (tChain (rI0 fun i j => .bl (f i j)) (rI0 fun i j => .bl (g i j)) ta tb tc) (m1.bind fun a => m2.bind fun b => if f a b = true then m3.bind fun c => some (g b c) else some false) := fun d hd F O H σ Q s k => by
  obtain ⟨a, b, e1, e2, e3⟩ := bind2 hd
  refine h1 a e1 F O H σ _ s fun v F' H' g1 r1 => ?_
  refine h2 b e2 F' O H' σ _ (s.grow g1) fun w F2 H2 g2 r2 => ?_
  cases r1
  cases r2
  refine ⟨a, b, rfl, rfl, _, rfl, ?_⟩
  by_cases q : f a b = true
  · rw [if_pos q] at e3 ⊢
    cases m3 with
    | none => cases e3
    | some c =>
      cases (show some (g b c) = some d from e3)
      refine h3 c rfl F2 O H2 σ _ ((s.grow g1).grow g2) fun u F3 H3 g3 r3 => ?_
      cases r3
      exact ⟨b, c, rfl, rfl, k _ F3 H3 ((g1.trans g2).trans g3) rfl⟩
  · rw [if_neg q] at e3 ⊢
    cases e3
    exact k _ F2 H2 (g1.trans g2) rfl
def rLenS : List V -> Hp -> VK -> Prop := fun xs H Q => ∃ x : Str, xs = [.str x] /\ x.length < cap /\ Q (.int x.length) H
theorem call_lenS {X : Cx} : CallR X (.builtin "len") rLenS := by
  intro pins s σ H xs us Q I r h
  obtain ⟨x, rfl, hl, q⟩ := h
  exact call_len pins s σ H _ us Q I r ⟨_, _, rfl, ⟨Nat.le_of_lt (cap_lt hl), rfl⟩, q⟩
def lenS (x : Str) : Option Int := if x.length < cap then some (x.length : Int) else none
theorem ex_lenS {m : Option Str} (h : Ex B sl .hp t m) : Ex B sl md (tCB rLenS (tCons t tNil)) (m.bind lenS) := fun c hc F O H σ Q s k => by
  cases m with
  | none => cases hc
  | some x =>
    have hc : lenS x = some c := hc
    unfold lenS at hc
    split at hc
    case isFalse => cases hc
    rename_i hl
    cases hc
    refine h x rfl F O H σ _ s fun v F' H' g r1 => ?_
    cases r1
    exact ⟨x, rfl, hl, k _ F' H' g rfl⟩
def inS (i j : Str) : Bool := !(Builtin.Str.occurrences j i 0 j.length 1).isEmpty
abbrev rInS : R2 := fun x y H Q => ∃ i j, x = .str i /\ y = .str j /\ Q (.bl (!(Builtin.Str.occurrences j i 0 j.length 1).isEmpty)) H
theorem ex_inS {m1 m2 : Option Str} (h1 : Ex B sl .hp ta m1) (h2 : Ex B sl .hp tb m2) : Ex B sl md (tOp rInS ta tb) (m1.bind fun a => m2.bind fun b => some (inS a b)) :=
  ex_op (f := fun a b => some (inS a b)) (fun a b c v w H Q e r1 r2 q => by
    cases e
    cases r1
    cases r2
    exact ⟨a, b, rfl, rfl, q⟩) h1 h2
theorem ex_inT {ws : List Str} {p : Addr} {m : Option Str} (hT : ∀ H, SqT K H p (ws.map V.str)) (h : Ex B sl .hp t m) : Ex B sl md (tOp (rIn K false) t (tC (.ref p))) (m.bind fun x => some (decide (x ∈ ws))) := fun c hc F O H σ Q s k => by
  cases m with
  | none => cases hc
  | some x =>
    cases (show some (decide (x ∈ ws)) = some c from hc)
    refine h x rfl F O H σ _ s fun v F' H' g r1 => ?_
    cases r1
    refine ⟨p, _, rfl, .inr (hT H'), Fl.flat (K := K) x, flat_fl (K := K) ws, ?_⟩
    have := inV_fl (K := K) x ws
    simp only [Bool.false_eq_true, if_false]
    rw [show inV (V.str x) (ws.map V.str) = decide (x ∈ ws) from this]
    exact k _ F' H' g rfl
end
end Ts
namespace Ts
open PySem L2
section
variable {P : Program} {w : World} {K : PySem.W.Frag} {mg : Str -> Option Value} {base : Heap} {B : Bs} {sl : List (Slot K)} {al : Bool} {S β : Type} [Rp K β]
theorem uK {L : S -> List (Slot K)} : Sn B sl tNever L none := fun a ha => by cases ha
theorem def_okN {x qual : Str} {st : Stmt} {f : Addr} {fd : FuncData} {N ps : List Str} {k : Nat} {A : Type} {as : A -> List (Slot K)} {fM : A -> Option Unit} (F : Fun K x qual st f fd) (S : FnScope N ps (defScope st)) (hf : ∀ a, (as a).all isF = true) (hl : ∀ a, (as a).length = ps.length)
    (hb : ∀ (cdv : Value) (A : Around) (outer : List Env) (s : Shared) (H : Hp) (E : XK), Room k (A.deeper (PyProof.Rows.envOfC qual (defScope st) s.heap.objs.size f cdv)) ->
      ∃ t, PSs (cxOf CX0 P w K mg base N qual (defScope st) f cdv A outer s H E).nox (defBody st) t /\ ∀ Fa a, ∃ L : Unit -> List (Slot K), Sn ⟨Fa, H⟩ (as a ++ List.replicate (N.length - ps.length) .un) t L (fM a)) :
    FnOk P w K mg base CX0 (k + 1) f fd ps (spF K al as fM) :=
  F.ok S (fun vs H Q E h => sp_len hl h) fun cdv A outer s H vs Q E hr h => by
    obtain ⟨t, p, q⟩ := hb cdv A outer s H E hr
    refine ⟨t, p, ?_⟩
    obtain ⟨a, b, Fa, s, hfa, r, kk⟩ := h
    have e : L2.start N vs = vs.map some ++ List.replicate (N.length - ps.length) none := by
      unfold L2.start
      rw [r.len, hl]
    rw [e]
    obtain ⟨L, q⟩ := q Fa a
    exact q b hfa Fa _ _ H ⟨Fa, [], .refl _, ⟨s, .refl _, fun b o h => .inl h, fun x hx => (by cases hx), (by simp)⟩, slots_start _ (hf a) r⟩ fun σ' H' ⟨F', O', g, a'⟩ => kk .non H' a'.1.h0 rfl
def fsI (a : Str) (i : Int) : Option Str := if i.natAbs.log2 < 1920 then some (a ++ Str.ofString (toString i)) else none
def fsS (a z : Str) : Option Str := if z.length <= 1000 then some (a ++ z) else none
theorem ex_fsI {md : Md} {t : TE} (a : Str) {m : Option Int} (h : Ex B sl .hp t m) : Ex B sl md (tFs a t) (m.bind (fsI a)) := fun c hc F O H σ Q s k => by
  cases m with
  | none => cases hc
  | some i =>
    have hc : fsI a i = some c := hc
    unfold fsI at hc
    split at hc
    case isFalse => cases hc
    rename_i hl
    cases hc
    refine h i rfl F O H σ _ s fun v F' H' g r1 => ?_
    cases r1
    exact .inl ⟨i, rfl, hl, k _ F' H' g rfl⟩
theorem ex_fsS {md : Md} {t : TE} (a : Str) {m : Option Str} (h : Ex B sl .hp t m) : Ex B sl md (tFs a t) (m.bind (fsS a)) := fun c hc F O H σ Q s k => by
  cases m with
  | none => cases hc
  | some i =>
    have hc : fsS a i = some c := hc
    unfold fsS at hc
    split at hc
    case isFalse => cases hc
    rename_i hl
    cases hc
    refine h i rfl F O H σ _ s fun v F' H' g r1 => ?_
    cases r1
    exact .inr ⟨i, rfl, hl, k _ F' H' g rfl⟩
theorem ki_ss {K : PySem.W.Frag} : kitOne K (.type "str") (.type "str") = some true := rfl
theorem bt_str : bootBuiltins "str" = some (.type "str") := by decide +kernel
end
end Ts
namespace Ts
open PySem L2
section
variable {β : Type}
abbrev dgetS (kvs : List (Key × β)) (k : Str) : Option β := gK kvs (Sum.inr k)
def dputS (kvs : List (Key × β)) (k : Str) (v : β) : Option (List (Key × β)) := if kvs.length < cap then some (pK kvs (Sum.inr k) v) else none
end
section
variable {K : PySem.W.Frag} {α : Type} [Rp K α]
variable {B : Bs} {sl : List (Slot K)} {md : Md} {t t2 : TE} {F H G : Hp} {O : Own} {σ : St} {u : TS} {al : Bool}
theorem ex_dinS {m : Option Str} {m2 : Option (Dc α)} (h : Ex B sl .hp t m) (h2 : Ex B sl .hp t2 m2) : Ex B sl md (tDIn t t2) (m.bind fun k => m2.bind fun d => some (dgetS d.kv k).isSome) := fun c hc F O H σ Q s kk => by
  obtain ⟨k, d, e1, e2, e3⟩ := bind2 hc
  cases e3
  refine h k e1 F O H σ _ s fun v F' H' g r1 => ?_
  refine h2 d e2 F' O H' σ _ (s.grow g) fun w F2 H2 g2 r2 => ?_
  cases r1
  obtain ⟨p, ks, rfl, z1, z2⟩ := r2
  refine ⟨p, _, rfl, DGet.k (k := Sum.inr k) z1, ?_⟩
  have e : (valV ks (Sum.inr k : Key)).isSome = (dgetS d.kv k).isSome := by
    rcases z2.val (k := Sum.inr k) with ⟨q1, q2⟩ | ⟨a, v, q1, q2, _⟩
    · show _ = (gK d.kv (Sum.inr k)).isSome; rw [q1, q2]; rfl
    · show _ = (gK d.kv (Sum.inr k)).isSome; rw [q1, q2]; rfl
  rw [e]
  exact kk _ F2 H2 (g.trans g2) rfl
theorem sn_dputS {kvs : List (Key × α)} {m : Option α} {mi : Option Str} {te ti : TE} (i : Nat) (hs : sl[i]? = some (.od kvs)) (hh : sl.all (fun s => !isHs s) = true) (hv : Ex B sl .fz te m) (hi : Ex B sl .hp ti mi) :
    Sn B sl (sDPut (tVar i) ti te) (fun ys => sl.set i (.od ys)) (m.bind fun a => mi.bind fun k => dputS kvs k a) := fun ys ha G D σ H s k => by
  obtain ⟨a, ix, e1, e2, e3⟩ := bind2 ha
  unfold dputS at e3
  split at e3
  case isFalse => cases e3
  rename_i hl
  cases e3
  obtain ⟨F, O, g, z⟩ := s
  refine hv a e1 F O H σ _ z fun v F' H' gr r => ?_
  obtain ⟨p, ks, h1, h2, h3, _⟩ := (z.grow gr).chgD hs hh
  refine ⟨_, h1, ?_⟩
  refine hi ix e2 F' O H' σ _ (z.grow gr) fun w F2 H2 gr2 rw => ?_
  cases rw
  obtain ⟨p', ks', h1', h2', h3', h4'⟩ := ((z.grow gr).grow gr2).chgD hs hh
  have e := h1.symm.trans h1'
  cases e
  obtain ⟨O', z'⟩ := h4' (putK ks' (Sum.inr ix) v) (pK kvs (Sum.inr ix) a) (h3'.put (Rp.mono gr2.ff r))
  exact ⟨p, _, rfl, DPut.k (k := Sum.inr ix) h2' (cap_lt (by rw [h3'.len]; exact hl)), k _ _ ⟨F2, O', (g.trans gr.ff).trans gr2.ff, z'⟩⟩
end
end Ts
namespace Ts
open PySem L2
abbrev LLI := List (List Int)
abbrev MKs := List (Str × List Int)
structure RefTo (p : Addr) where
  u : Unit
def mkG (C : Addr) (fS : LLI -> Option Unit) (fM : MKs -> Int -> Option Unit) (fF : LLI -> Int -> Option Unit) (fC fO : LLI -> Option LLI) (xss : LLI) (mo : Option MKs) (fo : Option LLI) : Option (Mach C) :=
  (fS xss).bind fun _ => (fM (mo.getD []) (xss.length : Int)).bind fun _ => (fF (fo.getD []) (xss.length : Int)).bind fun _ => (fC xss).bind fun a => (compL (fun _ => some true) (fun x : Str × List Int => some (x.1, x.2)) (mo.getD [])).bind fun b =>
    (fC (fo.getD [])).bind fun c => (fO a).bind fun d => some ⟨a, b, c, d⟩
theorem vD {α β : Type} {m : Option α} {f : α -> Option β} {b : β} (h : m.bind f = some b) : ∃ a, m = some a /\ f a = some b := by
  cases m with
  | none => cases h
  | some a => exact ⟨a, rfl, h⟩
section
variable {K : PySem.W.Frag} {C : Addr} {B : Bs} {sl : List (Slot K)} {F H : Hp} {O : Own} {σ : St}
instance {p : Addr} : Rp K (RefTo p) := ⟨fun _ v _ => v = .ref p, fun _ h => h⟩
def spInG (K : PySem.W.Frag) (C : Addr) (mk : LLI -> Option MKs -> Option LLI -> Option (Mach C)) : Sp := fun vs H Q _ => ∃ (p dx : Addr) (vS vM vF : V) (xss : LLI) (mo : Option MKs) (fo : Option LLI) (M : Mach C), vs = [.ref p, vS, vM, vF] /\ H p = some (.ins C dx []) /\
  rp K (hid H p) vS xss /\ rp K (hid H p) vM mo /\ rp K (hid H p) vF fo /\ mk xss mo fo = some M /\ ∀ H' : Hp, (∀ b o, b ≠ p -> H b = some o -> H' b = some o) -> rp K (dif H' (hid H p)) (.ref p) M -> Q .non H'
variable {mk : LLI -> Option MKs -> Option LLI -> Option (Mach C)}
theorem spInG_of {H1 : Hp} {x dx : Addr} (nx : H1 x = none) (ndx : H1 dx = none) {vS vM vF : V} {xss : LLI} {mo : Option MKs} {fo : Option LLI} {c : Mach C} (rS : rp K H1 vS xss) (rM : rp K H1 vM mo) (rF : rp K H1 vF fo) (hc : mk xss mo fo = some c) {Q : VK} {E : XK}
    (k : ∀ H2 : Hp, Same H1 H2 -> rp K (dif H2 H1) (.ref x) c -> Q (.ref x) H2) : spInG K C mk [.ref x, vS, vM, vF] (upd (upd H1 dx (.own x)) x (.ins C dx [])) (fun v H2 => v = .non /\ Q (.ref x) H2) E := by
  have sG : Same H1 (upd (upd H1 dx (.own x)) x (.ins C dx [])) := fun b o e => by rw [zQ (zP e nx), zQ (zP e ndx)]; exact e
  have sh : Same H1 (hid (upd (upd H1 dx (.own x)) x (.ins C dx [])) x) := fun b o e => by
    unfold hid
    rw [if_neg (zP e nx)]
    exact sG b o e
  refine ⟨x, dx, vS, vM, vF, xss, mo, fo, c, rfl, zR, Rp.mono sh rS, Rp.mono sh rM, Rp.mono sh rF, hc, fun H2 kp r2 => ⟨rfl, ?_⟩⟩
  refine k H2 (fun b o e => kp b o (zP e nx) (sG b o e)) (Rp.mono (fun b o e => ?_) r2)
  have hb : H1 b = none := by
    cases q : H1 b with
    | none => rfl
    | some u =>
      have : hid (upd (upd H1 dx (.own x)) x (.ins C dx [])) x b = some u := sh b u q
      unfold dif at e
      rw [this] at e
      cases e
  rw [uH hb]
  exact dif_le _ _ e
theorem en_makeG3 {t1 t2 t3 : TE} {m1 : Option LLI} {m2 : Option MKs} {m3 : Option LLI} (h1 : Ex B sl .hp t1 m1) (h2 : Ex B sl .hp t2 m2) (h3 : Ex B sl .hp t3 m3) :
    En B sl (tMake C (spInG K C mk) [] E0 (tCons t1 (tCons t2 (tCons t3 tNil)))) (m1.bind fun a => m2.bind fun b => m3.bind fun c => mk a (some b) (some c)) := fun c hc F O H σ Q s kk => by
  obtain ⟨a, rfl, hc⟩ := vD (m := m1) hc
  obtain ⟨b, rfl, hc⟩ := vD (m := m2) hc
  obtain ⟨d, rfl, hc⟩ := vD (m := m3) hc
  refine h1 a rfl F O H σ _ s fun v1 F1 H1 g1 r1 => ?_
  refine h2 b rfl F1 O H1 σ _ (s.grow g1) fun v2 F2 H2 g2 r2 => ?_
  refine h3 d rfl F2 O H2 σ _ ((s.grow g1).grow g2) fun v3 F3 H3 g3 r3 => ?_
  intro x dx nx ndx nex
  have r2' : rp K H2 v2 b := r2
  have r3' : rp K H3 v3 d := r3
  exact spInG_of nx ndx (Rp.mono (g2.hh.trans g3.hh) r1) (show rp K H3 v2 (some b) from ⟨Nn.nn (K := K) r2', Rp.mono g3.hh r2⟩) (show rp K H3 v3 (some d) from ⟨Nn.nn (K := K) r3', r3⟩) hc fun H4 s4 r4 => kk _ F3 H3 H4 (g1.trans (g2.trans g3)) s4 r4
theorem hid_ne {p b : Addr} (h : b ≠ p) : hid H p b = H b := by unfold hid; rw [if_neg h]
theorem hid_eq {p : Addr} : hid H p p = none := by unfold hid; rw [if_pos rfl]
theorem hid_le {p : Addr} : Same (hid H p) H := fun b o e => by
  by_cases q : b = p
  · subst q; rw [hid_eq] at e; cases e
  · rw [hid_ne q] at e; exact e
theorem uN {H' : Hp} {p : Addr} (s : Same H H') : Same (hid H p) (hid H' p) := fun b o e => by
  by_cases q : b = p
  · subst q; rw [hid_eq] at e; cases e
  · rw [hid_ne q] at e ⊢; exact s b o e
theorem uF {p : Addr} {o : HO} : hid (upd H p o) p = hid H p := by
  funext b
  by_cases q : b = p
  · subst q; rw [hid_eq, hid_eq]
  · rw [hid_ne q, hid_ne q, zQ q]
theorem new_in {H Hi H' : Hp} {p : Addr} (kp : ∀ b o, b ≠ p -> H b = some o -> Hi b = some o) (hp : Hi p ≠ none) : Same (dif H' Hi) (dif (hid H' p) (hid H p)) := fun b o e => by
  have hb : Hi b = none := by
    cases q : Hi b with
    | none => rfl
    | some u => unfold dif at e; rw [q] at e; cases e
  have nb : b ≠ p := fun q => hp (by rw [<- q]; exact hb)
  rw [uH hb] at e
  have h0 : hid H p b = none := by
    rw [hid_ne nb]
    cases q : H b with
    | none => rfl
    | some u => rw [kp b u nb q] at hb; cases hb
  rw [uH h0, hid_ne nb]
  exact e
theorem at_hid {p : Addr} {Hi : Hp} (hs : SlotsOk (K := K) ⟨hid Hi p, Hi⟩ (hid Hi p) (lo (hid Hi p) [] Hi) Hi sl σ []) : At (K := K) ⟨hid Hi p, Hi⟩ sl (hid Hi p) [] Hi σ :=
  ⟨⟨hid_le, .refl _, fun b o h => .inl h, fun x hx => (by cases hx), by simp⟩, hs⟩
end
end Ts
namespace SetP
open PySem
def Rz (xs : Array Nat) : Prop := ∀ i k a b : Nat, i < k -> xs[i]? = some a -> xs[k]? = some b -> a < b
theorem below_go {xs : Array Nat} {j : Nat} (hr : Rz xs) : ∀ (fuel lo hi : Nat), hi - lo <= fuel -> lo <= hi -> hi <= xs.size -> (∀ i a, i < lo -> xs[i]? = some a -> a < j) -> (∀ i a, hi <= i -> xs[i]? = some a -> j <= a) ->
    (SetTable.below.go xs j fuel lo hi) <= xs.size /\ (∀ i a, i < SetTable.below.go xs j fuel lo hi -> xs[i]? = some a -> a < j) /\ (∀ i a, SetTable.below.go xs j fuel lo hi <= i -> xs[i]? = some a -> j <= a)
  | 0, lo, hi, hf, hl, hz, h1, h2 => by
    have e : lo = hi := by omega
    subst e
    unfold SetTable.below.go
    exact ⟨hz, h1, h2⟩
  | fuel + 1, lo, hi, hf, hl, hz, h1, h2 => by
    unfold SetTable.below.go
    by_cases hlt : lo < hi
    · rw [if_pos hlt]
      have hm : (lo + hi) / 2 < hi := by omega
      have hm0 : lo <= (lo + hi) / 2 := by omega
      have hms : (lo + hi) / 2 < xs.size := by omega
      have e : xs.getD ((lo + hi) / 2) j = xs[(lo + hi) / 2] := by simp [Array.getD, hms]
      dsimp only
      rw [e]
      by_cases hc : xs[(lo + hi) / 2] < j
      · rw [if_pos hc]
        refine below_go hr fuel _ hi (by omega) (by omega) hz (fun i a hi' ha => ?_) h2
        by_cases hi2 : i = (lo + hi) / 2
        · subst hi2
          rw [Array.getElem?_eq_getElem hms] at ha
          cases ha
          exact hc
        · exact Nat.lt_trans (hr i ((lo + hi) / 2) a _ (by omega) ha (Array.getElem?_eq_getElem hms)) hc
      · rw [if_neg hc]
        refine below_go hr fuel lo _ (by omega) (by omega) (by omega) h1 (fun i a hi' ha => ?_)
        by_cases hi2 : i = (lo + hi) / 2
        · subst hi2
          rw [Array.getElem?_eq_getElem hms] at ha
          cases ha
          omega
        · have := hr ((lo + hi) / 2) i _ a (by omega) (Array.getElem?_eq_getElem hms) ha
          omega
    · rw [if_neg hlt]
      have e : lo = hi := by omega
      subst e
      exact ⟨hz, h1, h2⟩
theorem below_ok {xs : Array Nat} (hr : Rz xs) (j : Nat) : SetTable.below xs j <= xs.size /\ (∀ i a, i < SetTable.below xs j -> xs[i]? = some a -> a < j) /\ (∀ i a, SetTable.below xs j <= i -> xs[i]? = some a -> j <= a) :=
  below_go hr xs.size 0 xs.size (by omega) (Nat.zero_le _) (Nat.le_refl _) (fun i a h => absurd h (Nat.not_lt_zero _)) (fun i a h1 h2 => by
    rw [Array.getElem?_eq_none h1] at h2
    cases h2)
theorem ins_at {α : Type} (xs : Array α) (p : Nat) (x : α) (hp : p <= xs.size) (i : Nat) : (SetTable.insertAt xs p x)[i]? = if i < p then xs[i]? else if i = p then some x else xs[i - 1]? := by
  have e : SetTable.insertAt xs p x = (xs.toList.take p ++ x :: xs.toList.drop p).toArray := by
    unfold SetTable.insertAt
    apply Array.ext'
    simp
    rw [List.take_of_length_le (by rw [List.length_drop, Array.length_toList]; exact Nat.le_refl _)]
  rw [e, List.getElem?_toArray]
  have hl : p <= xs.toList.length := by simpa using hp
  by_cases h1 : i < p
  · rw [if_pos h1, List.getElem?_append_left (by rw [List.length_take]; omega), List.getElem?_take_of_lt h1, Array.getElem?_toList]
  · rw [if_neg h1, List.getElem?_append_right (by rw [List.length_take]; omega), List.length_take, Nat.min_eq_left hl]
    by_cases h2 : i = p
    · subst h2; simp
    · rw [if_neg h2]
      obtain ⟨k, rfl⟩ : ∃ k, i = p + 1 + k := ⟨i - (p + 1), by omega⟩
      rw [show p + 1 + k - p = k + 1 by omega, List.getElem?_cons_succ, List.getElem?_drop, Array.getElem?_toList]
      congr 1
      omega
theorem ins_rz {xs : Array Nat} (hr : Rz xs) {j : Nat} (hn : xs[SetTable.below xs j]? ≠ some j) : Rz (SetTable.insertAt xs (SetTable.below xs j) j) := by
  obtain ⟨b1, b2, b3⟩ := below_ok hr j
  intro i k a b hik ha hb
  rw [ins_at _ _ _ b1] at ha hb
  generalize SetTable.below xs j = p at *
  have up : ∀ m c, p <= m -> xs[m]? = some c -> j < c := fun m c hm hc => by
    have h1 := b3 m c hm hc
    by_cases e : m = p
    · subst e
      have : c ≠ j := fun z => hn (by rw [hc, z])
      omega
    · have hp : p < xs.size := by
        have : m < xs.size := by
          by_cases z : m < xs.size
          · exact z
          · rw [Array.getElem?_eq_none (by omega)] at hc; cases hc
        omega
      have h2 := hr p m _ c (by omega) (Array.getElem?_eq_getElem hp) hc
      have h3 := b3 p _ (Nat.le_refl _) (Array.getElem?_eq_getElem hp)
      omega
  by_cases i1 : i < p
  · rw [if_pos i1] at ha
    have ja := b2 i a i1 ha
    by_cases k1 : k < p
    · rw [if_pos k1] at hb; exact hr i k a b hik ha hb
    · rw [if_neg k1] at hb
      by_cases k2 : k = p
      · rw [if_pos k2] at hb; cases hb; exact ja
      · rw [if_neg k2] at hb
        exact Nat.lt_trans ja (up (k - 1) b (by omega) hb)
  · rw [if_neg i1] at ha
    have k1 : ¬ k < p := by omega
    have k2 : ¬ k = p := by omega
    rw [if_neg k1, if_neg k2] at hb
    by_cases i2 : i = p
    · rw [if_pos i2] at ha; cases ha; exact up (k - 1) b (by omega) hb
    · rw [if_neg i2] at ha
      exact hr (i - 1) (k - 1) a b (by omega) ha hb
def Free (t : SetTable) (j : Nat) : Prop := t.place[SetTable.below t.place j]? ≠ some j
theorem slot_free {t : SetTable} {j : Nat} (h : ∀ i, t.slot j ≠ .live i) : Free t j := fun e => by
  refine h (SetTable.below t.place j) ?_
  unfold SetTable.slot
  simp [e]
theorem probe_free {t : SetTable} {f : Nat -> Int} {h : Int} : ∀ (fuel : Nat) (p : SetTable.Probe) (j : Nat) (d : Option Nat), (∀ d, p.dummy = some d -> Free t d) -> SetTable.probe.go t f h fuel p = some (.empty j d) -> Free t j /\ ∀ e, d = some e -> Free t e
  | 0, p, j, d, hd, e => by unfold SetTable.probe.go at e; cases e
  | fuel + 1, p, j, d, hd, e => by
    have adv : ∀ q : SetTable.Probe, (t.advance q).dummy = q.dummy := fun q => by
      unfold SetTable.advance
      split
      · rfl
      · rfl
    unfold SetTable.probe.go at e
    cases hs : t.slot p.j with
    | empty =>
      rw [hs] at e
      cases e
      exact ⟨slot_free (fun i z => by rw [hs] at z; cases z), hd⟩
    | dummy =>
      rw [hs] at e
      refine probe_free fuel _ j d (fun d' h' => ?_) e
      rw [adv] at h'
      cases h'
      exact slot_free fun i z => by rw [hs] at z; cases z
    | live i =>
      rw [hs] at e
      dsimp only at e
      split at e
      · cases e
      · exact probe_free fuel _ j d (fun d' h' => hd d' (by rw [adv] at h'; exact h')) e
theorem freeSlot_free {t : SetTable} {h : Int} {j : Nat} {b : Bool} (e : t.freeSlot h = some (j, b)) : Free t j := by
  unfold SetTable.freeSlot at e
  split at e
  · rename_i j' d hp
    cases e
    have q := probe_free (t := t) _ _ j' d (fun d h' => by cases h') hp
    cases d with
    | none => exact q.1
    | some d => exact q.2 d rfl
  · cases e
structure Tb (led : Bool) (t : SetTable) : Prop where
  led : t.led = led
  rz : t.plain = true -> Rz t.place
theorem tb_stand {led : Bool} {t : SetTable} (h : Tb led t) (n : Nat) : Tb led (t.standIn n) := ⟨h.led, fun z => by cases z⟩
theorem tb_or {led : Bool} {t : SetTable} (h : Tb led t) (n : Nat) : Tb led (t.orStandIn n) := by
  unfold SetTable.orStandIn
  split
  · exact h
  · exact tb_stand h n
theorem tb_new {led : Bool} {t : SetTable} (hb : Tb led t) (es : Array (Int × Value)) (h : Int) (x : Value) : Tb led (layNew t es h x).2.1 := by
  unfold layNew
  cases e : t.freeSlot h with
  | none => exact tb_stand hb _
  | some q =>
    obtain ⟨j, b⟩ := q
    dsimp only
    refine tb_or (t := (t.put j).1) ⟨hb.led, fun z => ?_⟩ _
    exact ins_rz (hb.rz z) (freeSlot_free e)
theorem rz_filter (f : Nat -> Option Nat) (n : Nat) : Rz (((List.range n).filterMap fun j => (f j).map (j, ·)).map (·.1)).toArray := by
  have hp : (((List.range n).filterMap fun j => (f j).map (j, ·)).map (·.1)).Pairwise (· < ·) := by
    rw [List.pairwise_map]
    refine List.Pairwise.filterMap _ ?_ (List.pairwise_lt_range (n := n))
    intro a b hab x hx y hy
    cases ea : f a with
    | none => rw [ea] at hx; cases hx
    | some u =>
      cases eb : f b with
      | none => rw [eb] at hy; cases hy
      | some v =>
        rw [ea] at hx
        rw [eb] at hy
        cases hx
        cases hy
        exact hab
  intro i k a b hik ha hb
  rw [List.getElem?_toArray] at ha hb
  obtain ⟨h1, e1⟩ := List.getElem?_eq_some_iff.mp ha
  obtain ⟨h2, e2⟩ := List.getElem?_eq_some_iff.mp hb
  rw [<- e1, <- e2]
  exact List.pairwise_iff_getElem.mp hp i k h1 h2 hik
theorem tb_relay {led : Bool} {t : SetTable} (hb : Tb led t) (es : Array (Int × Value)) (n : Nat) : Tb led (relayAll t es n).2.1 := by
  unfold relayAll
  cases e : t.relaid (es.map (·.1)) n with
  | none => exact tb_stand hb _
  | some q =>
    obtain ⟨t', order⟩ := q
    dsimp only
    split
    · unfold SetTable.relaid SetTable.laid at e
      cases e2 : SetTable.layClean (SetTable.sizeAbove n - 1) (es.map (·.1)) with
      | none => rw [e2] at e; cases e
      | some owner =>
        rw [e2] at e
        cases e
        exact ⟨hb.led, fun _ => rz_filter _ _⟩
    · exact tb_stand hb _
theorem tb_fresh (led : Bool) : Tb led (.fresh 0 0 led) := ⟨rfl, fun _ => fun i k a b _ h _ => by
  have : (#[] : Array Nat)[i]? = some a := h
  simp at this⟩
end SetP
namespace SetP
open PySem
section
variable {prog : Program} {w : World} {κ : Type} [DecidableEq κ] (knd : KeyKind prog w κ) (dec : Value -> κ)
def Good (led : Bool) (h : Heap) (a : Addr) (ks : List κ) : Prop :=
  ∃ o es ep t, h.get? a = some o /\ o.ExactSet /\ o.data = .set es ep t /\ ElemsOf knd es.toList /\ (es.toList.map fun e => dec e.2).Perm ks /\ ks.Nodup /\ es.size < scanBound /\ t.fits es.size = true /\ Tb led t
variable {knd} {dec} {led : Bool} {A : Around} {E : Value -> Shared -> Prop} {s : Shared}
theorem Good.len {h : Heap} {a : Addr} {ks : List κ} (g : Good knd dec led h a ks) : ks.length < scanBound := by
  obtain ⟨o, es, ep, t, _, _, _, _, p, _, hb, _⟩ := g
  rw [<- p.length_eq, List.length_map, Array.length_toList]
  exact hb
theorem Good.keep {h h' : Heap} {a : Addr} {ks : List κ} (g : Good knd dec led h a ks) (k : ∀ o, h.get? a = some o -> h'.get? a = some o) : Good knd dec led h' a ks := by
  obtain ⟨o, es, ep, t, h1, rest⟩ := g
  exact ⟨o, es, ep, t, k _ h1, rest⟩
theorem found_iff (hdec : ∀ k v, knd.is k v = true -> dec v = k) {es : List (Int × Value)} (hel : ElemsOf knd es) (k : κ) : es.findIdx? (fun e => knd.is k e.2) = none ↔ k ∉ es.map fun e => dec e.2 := by
  rw [List.findIdx?_eq_none_iff]
  constructor
  · intro h hm
    obtain ⟨e, he, rfl⟩ := List.mem_map.mp hm
    obtain ⟨⟨k', hk, _⟩, _⟩ := hel e he
    have := h e he
    rw [hdec k' _ hk, hk] at this
    cases this
  · intro h e he
    cases q : knd.is k e.2 with
    | false => rfl
    | true => exact absurd (List.mem_map.mpr ⟨e, he, hdec _ _ q⟩) h
theorem put_at {h : Heap} {a : Addr} {o : Obj} {es es' : Array (Int × Value)} {ep : Nat} {t t' : SetTable} (ho : h.get? a = some o) (hd : o.data = .set es ep t) : (h.update a (Obj.putSet es' t')).get? a = some { o with data := .set es' (ep + 1) t' } := by
  have q := Heap.get?_update_self (Obj.putSet es' t') ho (by rw [putSet_of es' t' hd]; rfl)
  rw [putSet_of es' t' hd] at q
  exact q
theorem gave_any {b : Bool} {s1 : Shared} {Q : Unit -> Shared -> Prop} (h : Q () s1) : wpAny (model prog w) A (match b with | true => rule "set.scan.the-table-gave-way" | false => pure ()) Q E s1 := by
  cases b
  · exact wpAny_pure h
  · exact wpAny_rule h
theorem add_tail {g : Bool -> Sem Unit} (hg : ∀ (b : Bool) (s₁ : Shared) (Q' : Unit -> Shared -> Prop), Q' () s₁ -> wpAny (model prog w) A (g b) Q' E s₁) {a : Addr} {o : Obj} {es es1 : Array (Int × Value)} {ep : Nat} {t t2 : SetTable} {ks : List κ} {dum : Bool} {R : Option Bool -> Shared -> Prop}
    (ho : s.heap.get? a = some o) (hx : o.ExactSet) (hd : o.data = .set es ep t) (hel : ElemsOf knd es1.toList) (hp : (es1.toList.map fun e => dec e.2).Perm ks) (nd : ks.Nodup) (hb : es1.size < scanBound) (hf : t2.fits es1.size = true) (tb : Tb led t2)
    (h : ∀ h', Heap.SameBut a s.heap h' -> Good knd dec led h' a ks -> R (some true) { s with heap := h' }) :
    wpAny (model prog w) A (storeSet a es1 t2 >>= fun _ => if (!dum && t2.tooFull) = true then (g (relayAll t2 es1 (SetTable.grown es1.size)).2.2 >>= fun _ => storeSet a (relayAll t2 es1 (SetTable.grown es1.size)).1 (relayAll t2 es1 (SetTable.grown es1.size)).2.1 >>= fun _ => pure (some true)) else pure (some true)) R E s := by
  refine wpAny_bind (wpAny_storeSet_of ho hd ?_ (fits_of_scanBound hb))
  have o1 := put_at (es' := es1) (t' := t2) ho hd
  have sb := Heap.SameBut.update s.heap a (Obj.putSet es1 t2)
  split
  · have rp := relayAll_perm t2 es1 (SetTable.grown es1.size)
    have rf := relayAll_fits t2 es1 (SetTable.grown es1.size)
    have rt := tb_relay tb es1 (SetTable.grown es1.size)
    generalize relayAll t2 es1 (SetTable.grown es1.size) = L at rp rf rt ⊢
    obtain ⟨es2, t3, gv⟩ := L
    dsimp only at rp rf rt ⊢
    have sz : es2.size = es1.size := by rw [<- Array.length_toList, rp.length_eq, Array.length_toList]
    refine wpAny_bind (hg _ _ _ (wpAny_bind (wpAny_storeSet_of o1 rfl (wpAny_pure (h _ (sb.trans (Heap.SameBut.update _ a _)) ⟨_, es2, _, t3, put_at (es' := es2) (t' := t3) o1 rfl, hx, rfl, hel.perm rp, (rp.map _).trans hp, nd, by rw [sz]; exact hb, rf, rt⟩)) (fits_of_scanBound (by rw [sz]; exact hb)))))
  · exact wpAny_pure (h _ sb ⟨_, es1, _, t2, o1, hx, rfl, hel, hp, nd, hb, hf, tb⟩)
theorem tb_off {t : SetTable} (h : Tb led t) : Tb led { t with plain := false } := ⟨h.led, fun z => by cases z⟩
theorem add_ok (hdec : ∀ k v, knd.is k v = true -> dec v = k) {a : Addr} {ks : List κ} {k : κ} {x : Value} {Q : Bool -> Shared -> Prop} (hk : knd.is k x = true) (hs : x.scannable = true) (g : Good knd dec led s.heap a ks) (room : ks.length + 1 < scanBound)
    (h : ∀ (h' : Heap) (b : Bool), Heap.SameBut a s.heap h' -> Good knd dec led h' a (if k ∈ ks then ks else k :: ks) -> Q b { s with heap := h' }) :
    wpAny (model prog w) A (setAddHashed a x (knd.hash k)) Q E s := by
  obtain ⟨o, es, ep, t, ho, hx, hd, hel, hp, nd, hb, hf, tb⟩ := g
  have n : es.size = ks.length := by rw [<- hp.length_eq, List.length_map, Array.length_toList]
  unfold setAddHashed setAddHashedIn
  refine wpAny_holding (wpAny_bind (wpAny_setState_of ho hd hf ?_))
  dsimp only
  rw [byScan_of hs hb hel]
  simp only [↓reduceIte]
  unfold setAddByScan
  refine wpAny_bind (wpAny_bind (wpAny_rule (wpAny_bind (wpAny_setScan_of hk ho hd hf hel ?_))))
  have fi := found_iff hdec hel k
  cases hr : List.findIdx? (fun e => knd.is k e.2) es.toList with
  | some j =>
    have hm : k ∈ ks := by
      refine hp.mem_iff.mp (Classical.byContradiction fun z => ?_)
      rw [fi.mpr z] at hr
      cases hr
    dsimp only
    refine wpAny_pure (wpAny_pure ?_)
    have q := h s.heap false (Heap.SameBut.refl a s.heap)
    rw [if_pos hm] at q
    exact q ⟨o, es, ep, t, ho, hx, hd, hel, hp, nd, hb, hf, tb⟩
  | none =>
    have hm : k ∉ ks := fun z => fi.mp hr (hp.mem_iff.mpr z)
    dsimp only
    have lp := layNew_perm t es (knd.hash k) x
    have lf := layNew_fits t es (knd.hash k) x
    have lt := tb_new tb es (knd.hash k) x
    generalize layNew t es (knd.hash k) x = L at lp lf lt ⊢
    obtain ⟨es1, t1, dum, gave⟩ := L
    dsimp only at lp lf lt ⊢
    rw [Array.toList_push] at lp
    have sz : es1.size = es.size + 1 := by rw [<- Array.length_toList, lp.length_eq, List.length_append, Array.length_toList]; rfl
    have hp1 : (es1.toList.map fun e => dec e.2).Perm (k :: ks) := by
      refine (lp.map _).trans ?_
      rw [List.map_append]
      show (_ ++ [dec x]).Perm _
      rw [hdec k x hk]
      exact List.Perm.trans (l₂ := k :: es.toList.map fun (e : Int × Value) => dec e.2) List.perm_append_comm (hp.cons k)
    have fin : ∀ h', Heap.SameBut a s.heap h' -> Good knd dec led h' a (k :: ks) -> Q true { s with heap := h' } := fun h' sb g' => by
      have q := h h' true sb
      rw [if_neg hm] at q
      exact q g'
    have nd1 : (k :: ks).Nodup := List.nodup_cons.mpr ⟨hm, nd⟩
    refine wpAny_bind (gave_any ?_)
    split
    · refine wpAny_bind ?_
      rw [hashByValue_scannable 8 hs]
      refine wpAny_pure ?_
      refine add_tail (led := led) (dum := dum) (fun b s₁ Q' hq => gave_any hq) ho hx hd ((hel.push hk hs).perm lp) hp1 nd1 (by rw [sz, n]; exact room) ?_ ?_ fun h' sb g' => ?_
      · split
        · exact lf
        · exact SetTable.fits_plain_off lf
      · split
        · exact lt
        · exact tb_off lt
      · exact wpAny_pure (fin h' sb g')
    · refine wpAny_bind (wpAny_pure ?_)
      simp only [↓reduceIte]
      refine add_tail (led := led) (dum := dum) (fun b s₁ Q' hq => gave_any hq) ho hx hd ((hel.push hk hs).perm lp) hp1 nd1 (by rw [sz, n]; exact room) lf lt fun h' sb g' => ?_
      exact wpAny_pure (fin h' sb g')
end
end SetP
namespace SetP
open PySem PySem.Spec PyProof.Rows
section
variable {κ : Type} [DecidableEq κ]
def met (val : Nat -> κ) : Nat -> List κ
  | 0 => []
  | i + 1 => if val i ∈ met val i then met val i else val i :: met val i
theorem met_len (val : Nat -> κ) : ∀ i, (met val i).length <= i
  | 0 => Nat.le_refl _
  | i + 1 => by
    have ih := met_len val i
    unfold met
    split
    · omega
    · rw [List.length_cons]; omega
theorem mem_met (val : Nat -> κ) (k : κ) : ∀ i, k ∈ met val i ↔ ∃ j, j < i /\ val j = k
  | 0 => by simp [met]
  | i + 1 => by
    have ih := mem_met val k i
    have lt : (∃ j, j < i + 1 /\ val j = k) ↔ (∃ j, j < i /\ val j = k) \/ val i = k := by
      constructor
      · rintro ⟨j, hj, e⟩
        by_cases q : j = i
        · subst q; exact .inr e
        · exact .inl ⟨j, by omega, e⟩
      · rintro (⟨j, hj, e⟩ | e)
        · exact ⟨j, by omega, e⟩
        · exact ⟨i, by omega, e⟩
    rw [lt, <- ih]
    show k ∈ (if val i ∈ met val i then met val i else val i :: met val i) ↔ _
    split
    · rename_i hm
      exact ⟨.inl, fun h => h.elim id fun e => e ▸ hm⟩
    · rw [List.mem_cons]
      exact ⟨fun h => h.elim (fun e => .inr e.symm) .inl, fun h => h.elim .inr fun e => .inl e.symm⟩
variable {prog : Program} {w : World} {knd : KeyKind prog w κ} {dec : Value -> κ} {led : Bool} {A : Around} {R : Result -> Shared -> Prop} {I : Addr} {fp wr : List Addr} {G : Array GenState -> Array GenState -> Prop} {n : Nat} {P : Nat -> Value -> Prop} {St : Nat -> Shared -> Prop}
theorem loop_ok (hdec : ∀ k v, knd.is k v = true -> dec v = k) (W : WalksS prog w A.in1 I fp wr G n P St) (S : Addr) (off : S ∉ fp) (val : Nat -> κ) (hval : ∀ i v, P i v -> knd.is (val i) v = true /\ v.scannable = true) (hb : n + 1 < scanBound) :
    ∀ (k i : Nat) (s : Shared), n - i = k -> i <= n -> St i s -> Good knd dec led s.heap S (met val i) -> (∀ s', Moved (S :: wr) G s s' -> Good knd dec led s'.heap S (met val n) -> R (.ok (.ret .none)) s') -> codeAny (model prog w) A (.builtin "set.update.loop" ⟨[.ref S, .ref I], []⟩) R s := by
  have offw : S ∉ wr := fun h => off (W.sub _ h)
  have sub : ∀ b ∈ wr, b ∈ S :: wr := fun b hb => List.mem_cons_of_mem _ hb
  intro k
  induction k with
  | zero =>
    intro i s hk hi st g fin
    have e : i = n := by omega
    subst e
    refine codeAny_builtin F.entry_set_update_loop ?_
    rw [Around.under_plainId F.plain_set_update_loop _]
    refine wpAny_bind (m := pyNext (.ref I)) (W.done s _ _ st fun s' hm => ?_)
    exact wpAny_pure (fin s' (hm.mono sub) (g.keep fun o h => hm.heap S o offw h))
  | succ k ih =>
    intro i s hk hi st g fin
    have lt : i < n := by omega
    refine codeAny_builtin F.entry_set_update_loop ?_
    rw [Around.under_plainId F.plain_set_update_loop _]
    refine wpAny_bind (m := pyNext (.ref I)) (W.item i s _ _ lt st fun v s' hP st' hm => ?_)
    obtain ⟨his, hsc⟩ := hval i v hP
    refine wpAny_bind (m := holding [v] (setAdd S v)) (wpAny_holding ?_)
    unfold setAdd
    refine wpAny_holding (wpAny_bind (knd.pyHash (k := val i) his ?_))
    refine add_ok (led := led) (s := { s' with toks := s'.toks + 1 }) hdec his hsc (g.keep fun o h => hm.heap S o offw h) (by have := met_len val i; omega) fun h' b sb g' => ?_
    refine wpAny_pure ⟨plainId_quiet F.plain_set_update_loop _, ih (i + 1) _ (by omega) lt (W.frame _ s' _ _ st' (Nat.le_succ _) fun b hb o e => ?_) g' fun s'' hm'' g'' => ?_⟩
    · rw [sb.2 b (fun h : b = S => off (by rw [<- h]; exact hb))]; exact e
    · refine fin s'' (Moved.trans W.gtrans ((hm.mono sub).then_heap (Nat.le_succ _) fun b o hb e => ?_) hm'') g''
      rw [sb.2 b (fun h : b = S => hb (h ▸ List.mem_cons_self))]; exact e
end
section
variable {prog : Program} {w : World} {A : Around} {E : Value -> Shared -> Prop} {s : Shared}
def ledIn (w : World) : Bool := !w.params.followText "set-order"
theorem new_code (a : Value) {Q₁ : Value -> Shared -> Prop} (h : Q₁ (.ref s.heap.objs.size) { s with heap := s.heap.push { cls := .type "set", dict := none, data := .set #[] 0 (.fresh 0 0 (ledIn w)) } }) :
    codeAny (model prog w) A (.call (.builtin "set.__new__") ⟨[.type "set", a], []⟩) (wants Q₁ E) s := by
  refine codeAny_of_tree (wpAny_bind (m := checkBuiltinCall "set.__new__" ⟨[.type "set", a], []⟩) (wpAny_of_eq (F.newCall_set_1 a) (wpAny_pure ⟨plainId_quiet F.plain_set_new _, codeAny_builtin F.entry_set_new ?_⟩)))
  rw [Around.under_plainId F.plain_set_new _]
  unfold Builtin.«set.__new__» Builtin.Frozenset.newClass
  have sub := sub_set_self
  obtain ⟨hp, g, d, tk, os⟩ := s
  dsimp only
  wp_walk
  refine wpAny_askSetting (wpAny_pure ?_)
  dsimp only
  simp only [newObj]
  exact wpAny_bind (wpAny_alloc (wpAny_pure (wpAny_pure h)))
theorem good_new {κ : Type} [DecidableEq κ] {knd : KeyKind prog w κ} {dec : Value -> κ} {led : Bool} {h : Heap} {a : Addr} (e : h.get? a = some { cls := .type "set", dict := none, data := .set #[] 0 (.fresh 0 0 led) }) : Good knd dec led h a [] :=
  ⟨_, #[], 0, .fresh 0 0 led, e, ⟨rfl, rfl, rfl⟩, rfl, fun x hx => by simp at hx, by simp, List.nodup_nil, by show 0 < 4096; decide, by cases led <;> rfl, tb_fresh led⟩
set_option maxHeartbeats 4000000 in
theorem call_set {κ : Type} [DecidableEq κ] {knd : KeyKind prog w κ} {dec : Value -> κ} (hdec : ∀ k v, knd.is k v = true -> dec v = k) {l : Addr} {items : Array Value} {Q : Value -> Shared -> Prop} (val : Nat -> κ) (hh : A.handled = none) (hl : s.heap.IsList l items)
    (hi : ∀ (i : Nat) (v : Value), items[i]? = some v -> knd.is (val i) v = true /\ v.scannable = true) (hb : items.size + 1 < scanBound)
    (h : ∀ (h' : Heap) (tk : Nat), Good knd dec (ledIn w) h' s.heap.objs.size (met val items.size) -> (∀ b o, b < s.heap.objs.size -> s.heap.get? b = some o -> h'.get? b = some o) -> Q (.ref s.heap.objs.size) { s with heap := h', toks := tk }) :
    wpAny (model prog w) A (call (.type "set") [.ref l]) Q E s := by
  obtain ⟨c, tl, hmro⟩ := F.called_set.mro
  have hmade := F.called_set.made
  have hsub := F.called_set.sub
  refine wpAny_call (codeAny_of_tree (wpAny_pure ⟨Code.quiet_builtin _ (by decide +kernel), codeAny_builtin F.entry_type_call ?_⟩))
  rw [Around.under_plain (weight_type_call_type "set" [.ref l] []) rfl]
  have h1 := F.called_set.notType
  have h2 := F.called_set.canCreate
  have hct := F.typeCall_set_1 (.ref l)
  repeat (any_goals (first | assumption | wp_step))
  refine codeAny_mono (new_code (.ref l) (E := E) (Q₁ := fun obj s₁ => obj = .ref s.heap.objs.size /\ s₁ = { s with heap := s.heap.push { cls := .type "set", dict := none, data := .set #[] 0 (.fresh 0 0 (ledIn w)) } }) ⟨rfl, rfl⟩) fun r s₁ hr => ?_
  cases r with
  | error e => exact hr
  | ok fl =>
    cases fl with
    | ret obj =>
      obtain ⟨rfl, rfl⟩ := hr
      have hS : (s.heap.push { cls := .type "set", dict := none, data := .set #[] 0 (.fresh 0 0 (ledIn w)) }).get? s.heap.objs.size = some { cls := .type "set", dict := none, data := .set #[] 0 (.fresh 0 0 (ledIn w)) } := Heap.get?_push_size _ rfl
      have hT : Shared.TypeIs { s with heap := s.heap.push { cls := .type "set", dict := none, data := .set #[] 0 (.fresh 0 0 (ledIn w)) } } (.ref s.heap.objs.size) "set" := ⟨_, hS, rfl⟩
      have hli := F.called_set.init.lookup
      have hbi := F.called_set.init.bind (.ref s.heap.objs.size)
      repeat (any_goals (first | assumption | wp_step))
      refine codeAny_mono (codeAny_call_builtin (R := wants (fun r s₂ => r = .none /\ ∃ h' tk, s₂ = { s with heap := h', toks := tk } /\ Good knd dec (ledIn w) h' s.heap.objs.size (met val items.size) /\ (∀ b o, b < s.heap.objs.size -> s.heap.get? b = some o -> h'.get? b = some o)) E)
        F.called_set.init.plain F.entry_set_init (check_set_init_1 hT ?_)) fun r₂ s₂ hr₂ => ?_
      · obtain ⟨ol, hol, hcl, nl, hdl⟩ := hl
        obtain ⟨ocls, odict, odata, oslots⟩ := ol
        simp only at hcl hdl
        subst hcl
        subst hdl
        have hol' : (s.heap.push { cls := .type "set", dict := none, data := .set #[] 0 (.fresh 0 0 (ledIn w)) }).get? l = some { cls := .type "list", dict := odict, data := .seq items nl, slots := oslots } := Heap.get?_push_of_some _ hol
        have hsls := F.sub_list_set
        have hslf := F.sub_list_frozenset
        have hne : (Value.type "list" == Value.type "dict") = false := by decide
        have hl1 : (s.heap.push { cls := .type "set", dict := none, data := .set #[] 0 (.fresh 0 0 (ledIn w)) }).IsList l items := ⟨_, hol', rfl, nl, rfl⟩
        unfold Builtin.«set.__init__» noKeywords Builtin.Frozenset.updateFrom
        generalize hPI : pyIter = PI
        wp_walk
        subst hPI
        refine wpAny_pyIter_list hl1 (wpAny_bind (wpAny_runValue ?_))
        have hlS : l < s.heap.objs.size := Heap.lt_size hol
        have sz : (s.heap.push { cls := .type "set", dict := none, data := .set #[] 0 (.fresh 0 0 (ledIn w)) }).objs.size = s.heap.objs.size + 1 := Heap.size_push ..
        have hneI : l ≠ (s.heap.push { cls := .type "set", dict := none, data := .set #[] 0 (.fresh 0 0 (ledIn w)) }).objs.size := by rw [sz]; exact Nat.ne_of_lt (Nat.lt_succ_of_lt hlS)
        refine loop_ok (led := ledIn w) hdec ((Walks.list (by simp [hh]) _ l hneI items).toS) s.heap.objs.size (by
          rw [sz]
          intro z
          rcases List.mem_cons.mp z with z | z
          · exact absurd z (Nat.ne_of_lt (Nat.lt_succ_self _))
          · exact absurd (List.mem_singleton.mp z) (Nat.ne_of_gt hlS)) val hi hb (items.size - 0) 0 _ (by omega) (Nat.zero_le _) ⟨⟨_, Heap.get?_push_size _ rfl, rfl, rfl⟩, hl1.push _⟩ (good_new (Heap.get?_push_of_some _ hS)) fun s' hm g' => ?_
        obtain ⟨h', g1, d1, tk', os1⟩ := s'
        have eg : g1 = s.gens := hm.gens
        have ed : d1 = s.drawn := hm.drawn
        have eo : os1 = s.os := hm.os
        subst eg ed eo
        refine wpAny_pure ?_
        refine wpAny_pure ⟨rfl, h', tk', rfl, g', fun b o hb e => hm.heap b o (fun z => ?_) (Heap.get?_push_of_some _ (Heap.get?_push_of_some _ e))⟩
        rcases List.mem_cons.mp z with z | z
        · exact absurd z (Nat.ne_of_lt hb)
        · have z := List.mem_singleton.mp z
          rw [sz] at z
          exact absurd z (Nat.ne_of_lt (Nat.lt_succ_of_lt hb))
      · cases r₂ with
        | error e => exact hr₂
        | ok fl₂ =>
          cases fl₂ with
          | ret r =>
            obtain ⟨rfl, h', tk, rfl, hS', hk'⟩ := hr₂
            repeat (any_goals (first | assumption | wp_step))
            exact h _ _ hS' hk'
          | _ => exact hr₂.elim
    | _ => exact hr.elim
end
end SetP
namespace SetP
open PySem PySem.Spec PyProof.Rows
set_option maxRecDepth 100000
theorem si_owner : Manifest.owners.lookup (String.ofList ['r', 'o', 't', 'a', 'r', 'e', 't', 'i', '_', 't', 'e', 's'].reverse) = some Manifest.sig_set_iterator := by kernel_rfl
theorem si_next : Slot "set_iterator" "__next__" "set_iterator.__next__" := .of (owner := "set_iterator") (n := "__next__") (by rw [typeLookup_type, builtinLookup_eq_fast]; kernel_rfl) (by decide +kernel) (by decide +kernel) (by decide +kernel) (by first | exact .inl (by decide +kernel) | exact .inr (by decide +kernel)) (by rw [isSubtype_type]; kernel_rfl)
theorem si_next_entry : entryFor table "set_iterator.__next__" = some Builtin.«set_iterator.__next__» := entryFor_of_tree (by kernel_rfl)
theorem si_next_args (a : Value) : argsOk "set_iterator.__next__" ⟨[a], []⟩ := by unfold argsOk; rw [signature?_of (id := "set_iterator.__next__") (n := ['_', '_', 't', 'x', 'e', 'n', '_', '_']) (o := ['r', 'o', 't', 'a', 'r', 'e', 't', 'i', '_', 't', 'e', 's']) (by kernel_rfl) si_owner]; kernel_rfl
theorem si_iter : Slot "set_iterator" "__iter__" "set_iterator.__iter__" := .of (owner := "set_iterator") (n := "__iter__") (by rw [typeLookup_type, builtinLookup_eq_fast]; kernel_rfl) (by decide +kernel) (by decide +kernel) (by decide +kernel) (by first | exact .inl (by decide +kernel) | exact .inr (by decide +kernel)) (by rw [isSubtype_type]; kernel_rfl)
theorem si_iter_entry : entryFor table "set_iterator.__iter__" = some Builtin.«dict_keyiterator.__iter__» := entryFor_alias (id' := "dict_keyiterator.__iter__") (by kernel_rfl) rfl (by decide +kernel) (by kernel_rfl)
theorem si_iter_args (a : Value) : argsOk "set_iterator.__iter__" ⟨[a], []⟩ := by unfold argsOk; rw [signature?_of (id := "set_iterator.__iter__") (n := ['_', '_', 'r', 'e', 't', 'i', '_', '_']) (o := ['r', 'o', 't', 'a', 'r', 'e', 't', 'i', '_', 't', 'e', 's']) (by kernel_rfl) si_owner]; kernel_rfl
theorem set_iter_entry : entryFor table "set.__iter__" = some Builtin.«frozenset.__iter__» := entryFor_alias (id' := "frozenset.__iter__") (by kernel_rfl) rfl (by decide +kernel) (by kernel_rfl)
theorem set_len : typeLookup (.type "set") "__len__" = pure (some (.builtin "set.__len__")) := by rw [typeLookup_type, builtinLookup_eq_fast]; kernel_rfl
end SetP
namespace SetP
open PySem PySem.Spec PyProof.Rows
set_option maxRecDepth 100000
section
variable {prog : Program} {w : World} {A : Around} {E : Value -> Shared -> Prop} {s : Shared}
theorem erase_perm {α : Type} : ∀ {l : List α} {i : Nat} (h : i < l.length), (l[i] :: l.eraseIdx i).Perm l
  | x :: l, 0, h => .refl _
  | x :: l, i + 1, h => by
    have hi : i < l.length := by simpa using h
    have ih := erase_perm (l := l) (i := i) hi
    show (l[i] :: x :: l.eraseIdx i).Perm (x :: l)
    exact (List.Perm.swap _ _ _).trans (ih.cons x)
theorem any_choose {src : Source} {n : Nat} {Q : Nat -> Shared -> Prop} (hn : 0 < n) (h : ∀ i d, i < n -> Q i { s with drawn := d }) : wpAny (model prog w) A (choose src n) Q E s :=
  fun _ _ _ => ⟨Nat.ne_of_gt hn, h _ _ (Nat.mod_lt _ hn)⟩
theorem draw_ok {α : Type} : ∀ (n : Nat) (xs : List α) (s : Shared) (Q : List α -> Shared -> Prop), xs.length = n -> (∀ ys d, ys.Perm xs -> Q ys { s with drawn := d }) -> wpAny (model prog w) A (drawOrder n xs) Q E s
  | 0, xs, s, Q, hl, h => by
    have e : xs = [] := List.length_eq_zero_iff.mp hl
    subst e
    unfold drawOrder
    exact wpAny_pure (h [] s.drawn (.refl _))
  | n + 1, [], s, Q, hl, h => by simp at hl
  | n + 1, x :: xs, s, Q, hl, h => by
    unfold drawOrder
    refine wpAny_bind (any_choose (by rw [hl]; omega) fun i d hi => ?_)
    have e : (x :: xs)[i]? = some (x :: xs)[i] := List.getElem?_eq_getElem hi
    rw [e]
    refine wpAny_bind (draw_ok n _ _ _ (by rw [List.length_eraseIdx, if_pos hi, hl]; rfl) fun ys d' p => ?_)
    exact wpAny_pure (h _ d' ((p.cons _).trans (erase_perm hi)))
theorem pick_go {α : Type} (next : Nat -> Nat) : ∀ (fuel k : Nat) (left : List α) (out : Array α), left.length = fuel -> (pickOrder.go next fuel k left out).toList.Perm (out.toList ++ left)
  | 0, k, left, out, hl => by
    have e : left = [] := List.length_eq_zero_iff.mp hl
    subst e
    unfold pickOrder.go
    rw [List.append_nil]
  | fuel + 1, k, left, out, hl => by
    have hi : next k % left.length < left.length := Nat.mod_lt _ (by omega)
    unfold pickOrder.go
    rw [List.getElem?_eq_getElem hi]
    dsimp only
    refine (pick_go next fuel (k + 1) _ _ (by rw [List.length_eraseIdx, if_pos hi, hl]; rfl)).trans ?_
    rw [Array.toList_push, List.append_assoc]
    exact List.Perm.append_left _ (erase_perm hi)
theorem vK {α : Type} (next : Nat -> Nat) (xs : Array α) : (pickOrder next xs).toList.Perm xs.toList := by
  have q := pick_go next xs.size 0 xs.toList #[] (by simp)
  have e : (#[] : Array α).toList ++ xs.toList = xs.toList := rfl
  rw [e] at q
  exact q
variable {a it T : Addr} {o : Obj} {es : Array (Int × Value)} {ep : Nat} {t : SetTable}
theorem vQ {Q : Bool -> Shared -> Prop} (h : Q (w.params.followText "set-order") s) : wpAny (model prog w) A setsByText Q E s := by
  unfold setsByText
  exact wpAny_bind (wpAny_askSetting (wpAny_pure h))
theorem drawn_ok {Q : Bool -> Shared -> Prop} (ho : s.heap.get? a = some o) (hd : o.data = .set es ep t) (hf : t.fits es.size = true) (h : Q (!w.params.followText "set-order" && (!t.plain && decide (es.size > 1))) s) : wpAny (model prog w) A (setDrawn a) Q E s := by
  unfold setDrawn
  refine wpAny_bind (wpAny_setState_of ho hd hf ?_)
  exact wpAny_bind (vQ (wpAny_pure h))
theorem uO {Q : Array (Int × Value) -> Shared -> Prop} (ho : s.heap.get? a = some o) (hd : o.data = .set es ep t) (hf : t.fits es.size = true) (h : Q es s) : wpAny (model prog w) A (setEntries a) Q E s := by
  unfold setEntries
  exact wpAny_bind (wpAny_setState_of ho hd hf (wpAny_pure h))
theorem next_text {slot i : Nat} {Q : Option (Value × Nat) -> Shared -> Prop} (ho : s.heap.get? a = some o) (hd : o.data = .set es ep t) (hf : t.fits es.size = true) (hb : w.params.followText "set-order" = true)
    (h : Q (((pickOrder (w.params.setOrder a ep) es)[i]?).map fun e => (e.2, slot)) s) : wpAny (model prog w) A (setNext a slot i ep) Q E s := by
  unfold setNext
  refine wpAny_bind (wpAny_setState_of ho hd hf ?_)
  refine wpAny_bind (vQ ?_)
  rw [hb]
  simp only [↓reduceIte, bne_self_eq_false, Bool.false_eq_true]
  refine wpAny_bind ?_
  unfold setWalk
  refine wpAny_bind (wpAny_setState_of ho hd hf ?_)
  refine wpAny_bind (vQ ?_)
  rw [hb]
  simp only [↓reduceIte]
  refine wpAny_bind (wpAny_askSetting (wpAny_pure ?_))
  exact wpAny_pure h
theorem next_place {slot i : Nat} {Q : Option (Value × Nat) -> Shared -> Prop} (ho : s.heap.get? a = some o) (hd : o.data = .set es ep t) (hf : t.fits es.size = true) (hb : w.params.followText "set-order" = false) (hl : t.led = true) (hn : (!t.plain && decide (es.size > 1)) = false)
    (h : Q (match es[SetTable.below t.place slot]?, t.place[SetTable.below t.place slot]? with | some (_, x), some j => some (x, j + 1) | _, _ => none) s) : wpAny (model prog w) A (setNext a slot i ep) Q E s := by
  unfold setNext
  refine wpAny_bind (wpAny_setState_of ho hd hf ?_)
  refine wpAny_bind (vQ ?_)
  rw [hb]
  simp only [↓reduceIte, Bool.false_eq_true]
  show wpAny _ _ (if (!t.plain && decide (es.size > 1)) = true then _ else _) _ _ _
  rw [if_neg (by rw [hn]; exact Bool.false_ne_true)]
  refine wpAny_bind ?_
  show wpAny _ _ (if (!t.led && !es.isEmpty) = true then _ else pure ()) _ _ _
  rw [if_neg (by rw [hl]; exact Bool.false_ne_true)]
  exact wpAny_pure (wpAny_pure h)
theorem next_drawn {place : Nat} {x : Int × Value} {Q : Value -> Shared -> Prop} (ho : s.heap.get? a = some o) (hd : o.data = .set es ep t) (hf : t.fits es.size = true) (hx : es[place]? = some x) (h : Q x.2 s) : wpAny (model prog w) A (setNextDrawn a place ep) Q E s := by
  unfold setNextDrawn
  refine wpAny_bind (wpAny_setState_of ho hd hf ?_)
  simp only [bne_self_eq_false, Bool.false_eq_true, ↓reduceIte, hx]
  exact wpAny_pure h
def itO (first : Value) (i : Nat) (a : Addr) (n ep : Nat) : Obj := { cls := .type "set_iterator", data := .fields #[first, .int i 0, .ref a, .int n 0, .int ep 0] }
theorem iter_set {Q : Value -> Shared -> Prop} (ho : s.heap.get? a = some o) (hx : o.ExactSet) (hd : o.data = .set es ep t) (hf : t.fits es.size = true)
    (h1 : (!w.params.followText "set-order" && (!t.plain && decide (es.size > 1))) = false -> Q (.ref s.heap.objs.size) { s with heap := s.heap.push (itO (.int 0 0) 0 a es.size ep) })
    (h2 : (!w.params.followText "set-order" && (!t.plain && decide (es.size > 1))) = true -> es.size <= sizeLine /\ ∀ (d : Drawn) (ps : List Nat), ps.Perm (List.range es.size) -> Q (.ref (s.heap.objs.size + 1)) { s with drawn := d, heap := (s.heap.push { cls := .type "tuple", data := .seq (ps.map fun (i : Nat) => Value.int i 0).toArray }).push (itO (.ref s.heap.objs.size) 0 a es.size ep) }) :
    wpAny (model prog w) A (pyIter (.ref a)) Q E s := by
  have hT : s.TypeIs (.ref a) "set" := ⟨o, ho, hx.1⟩
  refine wpAny_pyIter_slot hT F.slot_set_iter (wpAny_call_entry F.slot_set_iter hT set_iter_entry ?_ (F.args_set_iter_1 _))
  unfold Builtin.«frozenset.__iter__»
  refine wpAny_bind (wpAny_pure ?_)
  refine wpAny_bind ?_
  unfold Builtin.Frozenset.sizeOf
  refine wpAny_bind (uO ho hd hf (wpAny_pure ?_))
  refine wpAny_bind (drawn_ok ho hd hf ?_)
  cases hc : (!w.params.followText "set-order" && (!t.plain && decide (es.size > 1))) with
  | false =>
    simp only [Bool.false_eq_true, ↓reduceIte]
    refine wpAny_bind (wpAny_pure ?_)
    refine wpAny_bind (wpAny_setEpoch_of ho hd hf ?_)
    exact wpAny_bind (wpAny_newObj_type (wpAny_pure ⟨_, rfl, "set_iterator", _, ⟨_, Heap.get?_push_size _ rfl, rfl⟩, si_next.lookup, h1 hc⟩))
  | true =>
    obtain ⟨hz, h2⟩ := h2 hc
    simp only [↓reduceIte]
    refine wpAny_bind (draw_ok _ _ _ _ (by simp) fun ps d hp => ?_)
    refine wpAny_bind (wpAny_newTuple ?_ (by rw [List.length_map, hp.length_eq, List.length_range]; exact hz))
    have ho' := Heap.get?_push_of_some ({ cls := .type "tuple", data := .seq (ps.map fun (i : Nat) => rawInt i).toArray } : Obj) ho
    refine wpAny_bind (wpAny_setEpoch_of (s := { s with drawn := d, heap := _ }) ho' hd hf ?_)
    refine wpAny_bind (wpAny_newObj_type (wpAny_pure ⟨_, rfl, "set_iterator", _, ⟨_, Heap.get?_push_size _ rfl, rfl⟩, si_next.lookup, ?_⟩))
    have q := h2 d ps hp
    have sz : (s.heap.push ({ cls := .type "tuple", data := .seq (ps.map fun (i : Nat) => Value.int i 0).toArray } : Obj)).objs.size = s.heap.objs.size + 1 := Heap.size_push ..
    rw [<- sz] at q
    exact q
end
end SetP
namespace SetP
open PySem PySem.Spec PyProof.Rows
set_option maxRecDepth 100000
section
variable {prog : Program} {w : World} {A : Around} {E : Value -> Shared -> Prop} {s : Shared} {a it T : Addr} {o : Obj} {es : Array (Int × Value)} {ep : Nat} {t : SetTable} {i : Nat} {first : Value}
theorem next_head {Q : Option Value -> Shared -> Prop} (hi : s.heap.get? it = some (itO first i a es.size ep)) (ho : s.heap.get? a = some o) (hd : o.data = .set es ep t) (hf : t.fits es.size = true)
    (h : wpAny (model prog w) A.in1 (if let .int slot _ := first then do
        match <- setNext a slot.toNat (i : Int).toNat (ep : Int).toNat with
        | some (x, next) =>
          setField (.ref it) 0 (rawInt next)
          setField (.ref it) 1 (rawInt ((i : Int) + 1))
          ret x
        | none => setField (.ref it) 2 .none; raiseNew (<- newExc (.type "StopIteration") [])
      else do
        let some places <- seqItems? first | unsupported "internal:set_iterator"
        match places[(i : Int).toNat]? with
        | some (.int place _) =>
          let x <- setNextDrawn a place.toNat (ep : Int).toNat
          setField (.ref it) 1 (rawInt ((i : Int) + 1))
          ret x
        | some _ => unsupported "internal:set_iterator"
        | none => setField (.ref it) 0 (rawInt 0); setField (.ref it) 2 .none; raiseNew (<- newExc (.type "StopIteration") []))
      (fun fin s' => ∃ v, fin = .done (.ret v) /\ Q (some v) s')
      (fun e s' => s'.TypeIs e "StopIteration" /\ Q none s') s) : wpAny (model prog w) A (pyNext (.ref it)) Q E s := by
  have hT : s.TypeIs (.ref it) "set_iterator" := ⟨_, hi, rfl⟩
  unfold pyNext
  refine wpAny_bind (wpAny_attempt (wpAny_callSpecial?_slot (name := Str.ofString "__next__") hT si_next (wpAny_call_entry si_next hT si_next_entry ?_ (si_next_args _))))
  unfold Builtin.«set_iterator.__next__»
  refine wpAny_bind (wpAny_pure ?_)
  refine wpAny_bind (wpAny_fieldsOf hi rfl ?_)
  dsimp only
  refine wpAny_bind (uO ho hd hf ?_)
  rw [if_neg (by simp)]
  exact wpAny_mono h (fun fin s' ⟨v, e, q⟩ => ⟨v, e, wpAny_pure q⟩) fun e s' ⟨ty, q⟩ => wpAny_bind (wpAny_isInstance (T := "StopIteration") (b := true) ty isSubtype_stop (wpAny_pure q))
theorem stop_ok {α : Type} {Q : α -> Shared -> Prop} {E' : Value -> Shared -> Prop} (hh : A.handled = none) (h : ∀ (e : Value) (h' : Heap), (∀ b u, s.heap.get? b = some u -> h'.get? b = some u) -> ({ s with heap := h' } : Shared).TypeIs e "StopIteration" -> E' e { s with heap := h' }) :
    wpAny (model prog w) A (newExc (.type "StopIteration") [] >>= fun e => (raiseNew e : Sem α)) Q E' s := by
  refine wpAny_bind ?_
  simp only [newExc, newTuple]
  refine wpAny_bind (wpAny_newObj_type (wpAny_bind (m := firstArgMember _ _) (wpAny_of_eq (a := Value.none) (by first | rfl | (simp only [firstArgMember]; rfl)) (wpAny_newObj_type ?_ (by size_fits)))) (by size_fits))
  simp only [raiseNew]
  refine wpAny_bind (wpAny_handled ?_)
  rw [hh]
  refine wpAny_bind (wpAny_pure (wpAny_throw ?_))
  refine h _ _ (fun b u e => Heap.get?_push_of_some _ (Heap.get?_push_of_some _ e)) ?_
  exact ⟨_, Heap.get?_push_size _ rfl, rfl⟩
theorem set_at {f : Obj -> Obj} {u : Obj} (hi : s.heap.get? it = some u) (hn : (f u).isFreed = false) : (s.heap.update it f).get? it = some (f u) := Heap.get?_update_self f hi hn
theorem set_off {f : Obj -> Obj} {b : Addr} {u : Obj} (hb : b ≠ it) (e : s.heap.get? b = some u) : (s.heap.update it f).get? b = some u := (Heap.get?_update_other _ _ (Ne.symm hb)).trans e
theorem item_place {Q : Option Value -> Shared -> Prop} {slot next : Nat} {tk : Tok} {x : Value} (hi : s.heap.get? it = some (itO (.int slot tk) i a es.size ep)) (ho : s.heap.get? a = some o) (hd : o.data = .set es ep t) (hf : t.fits es.size = true)
    (hs : ∀ (R : Option (Value × Nat) -> Shared -> Prop) (E' : Value -> Shared -> Prop), R (some (x, next)) s -> wpAny (model prog w) A.in1 (setNext a slot i ep) R E' s)
    (h : ∀ h', h'.get? it = some (itO (.int next 0) (i + 1) a es.size ep) -> (∀ b u, b ≠ it -> s.heap.get? b = some u -> h'.get? b = some u) -> Q (some x) { s with heap := h' }) : wpAny (model prog w) A (pyNext (.ref it)) Q E s := by
  refine next_head hi ho hd hf ?_
  dsimp only
  refine wpAny_bind (hs _ _ ?_)
  dsimp only
  refine wpAny_bind (wpAny_setField hi rfl (by simp) ?_)
  have h1 := set_at (f := Obj.mapFields (·.setIfInBounds 0 (rawInt next))) hi rfl
  refine wpAny_bind (wpAny_setField (s := { s with heap := _ }) h1 rfl (by simp) ?_)
  have h2 := set_at (s := { s with heap := _ }) (f := Obj.mapFields (·.setIfInBounds 1 (rawInt ((i : Int) + 1)))) h1 rfl
  exact wpAny_pure ⟨x, rfl, h _ h2 fun b u hb e => set_off (s := { s with heap := _ }) hb (set_off hb e)⟩
theorem end_place {Q : Option Value -> Shared -> Prop} {slot : Nat} {tk : Tok} (hh : A.handled = none) (hi : s.heap.get? it = some (itO (.int slot tk) i a es.size ep)) (ho : s.heap.get? a = some o) (hd : o.data = .set es ep t) (hf : t.fits es.size = true)
    (hs : ∀ (R : Option (Value × Nat) -> Shared -> Prop) (E' : Value -> Shared -> Prop), R none s -> wpAny (model prog w) A.in1 (setNext a slot i ep) R E' s)
    (h : ∀ h', (∀ b u, b ≠ it -> s.heap.get? b = some u -> h'.get? b = some u) -> Q none { s with heap := h' }) : wpAny (model prog w) A (pyNext (.ref it)) Q E s := by
  refine next_head hi ho hd hf ?_
  dsimp only
  refine wpAny_bind (hs _ _ ?_)
  dsimp only
  refine wpAny_bind (wpAny_setField hi rfl (by simp) ?_)
  exact stop_ok (s := { s with heap := _ }) (by simp [hh]) fun e h' k ty => ⟨ty, h h' fun b u hb e => k b u (set_off hb e)⟩
theorem item_drawn {Q : Option Value -> Shared -> Prop} {ps : List Nat} {place : Nat} {x : Int × Value} (hi : s.heap.get? it = some (itO (.ref T) i a es.size ep)) (ho : s.heap.get? a = some o) (hd : o.data = .set es ep t) (hf : t.fits es.size = true)
    (hT : s.heap.get? T = some { cls := .type "tuple", data := .seq (ps.map fun (i : Nat) => Value.int i 0).toArray }) (hp : ps[i]? = some place) (hx : es[place]? = some x)
    (h : ∀ h', h'.get? it = some (itO (.ref T) (i + 1) a es.size ep) -> (∀ b u, b ≠ it -> s.heap.get? b = some u -> h'.get? b = some u) -> Q (some x.2) { s with heap := h' }) : wpAny (model prog w) A (pyNext (.ref it)) Q E s := by
  refine next_head hi ho hd hf ?_
  dsimp only
  refine wpAny_bind (wpAny_seqItems hT rfl ?_)
  have e : ((ps.map fun (i : Nat) => Value.int i 0).toArray)[(i : Int).toNat]? = some (.int (place : Nat) 0) := by
    rw [Int.toNat_natCast, List.getElem?_toArray, List.getElem?_map, hp]
    rfl
  dsimp only
  rw [e]
  dsimp only
  refine wpAny_bind (next_drawn ho hd hf (x := x) (by rw [Int.toNat_natCast]; exact hx) ?_)
  refine wpAny_bind (wpAny_setField hi rfl (by simp) ?_)
  have h1 := set_at (f := Obj.mapFields (·.setIfInBounds 1 (rawInt ((i : Int) + 1)))) hi rfl
  exact wpAny_pure ⟨x.2, rfl, h _ h1 fun b u hb e => set_off hb e⟩
theorem end_drawn {Q : Option Value -> Shared -> Prop} {ps : List Nat} (hh : A.handled = none) (hi : s.heap.get? it = some (itO (.ref T) i a es.size ep)) (ho : s.heap.get? a = some o) (hd : o.data = .set es ep t) (hf : t.fits es.size = true)
    (hT : s.heap.get? T = some { cls := .type "tuple", data := .seq (ps.map fun (i : Nat) => Value.int i 0).toArray }) (hp : ps[i]? = none)
    (h : ∀ h', (∀ b u, b ≠ it -> s.heap.get? b = some u -> h'.get? b = some u) -> Q none { s with heap := h' }) : wpAny (model prog w) A (pyNext (.ref it)) Q E s := by
  refine next_head hi ho hd hf ?_
  dsimp only
  refine wpAny_bind (wpAny_seqItems hT rfl ?_)
  have e : ((ps.map fun (i : Nat) => Value.int i 0).toArray)[(i : Int).toNat]? = none := by
    rw [Int.toNat_natCast, List.getElem?_toArray, List.getElem?_map, hp]
    rfl
  dsimp only
  rw [e]
  dsimp only
  refine wpAny_bind (wpAny_setField hi rfl (by simp) ?_)
  have h1 := set_at (f := Obj.mapFields (·.setIfInBounds 0 (rawInt 0))) hi rfl
  refine wpAny_bind (wpAny_setField (s := { s with heap := _ }) h1 rfl (by simp) ?_)
  exact stop_ok (s := { s with heap := _ }) (by simp [hh]) fun e h' k ty => ⟨ty, h h' fun b u hb e => k b u (set_off (s := { s with heap := _ }) hb (set_off hb e))⟩
end
end SetP
namespace SetP
open PySem PySem.Spec PyProof.Rows
set_option maxRecDepth 100000
section
variable {prog : Program} {w : World} {A : Around} {E : Value -> Shared -> Prop} {s : Shared} {a it T : Addr} {o : Obj} {es : Array (Int × Value)} {ep : Nat} {t : SetTable}
theorem itO_self {Q : Value -> Shared -> Prop} {first : Value} {i n : Nat} (hi : s.heap.get? it = some (itO first i a n ep)) (h : Q (.ref it) s) : wpAny (model prog w) A (pyIter (.ref it)) Q E s := by
  have hT : s.TypeIs (.ref it) "set_iterator" := ⟨_, hi, rfl⟩
  refine wpAny_pyIter_slot hT si_iter (wpAny_call_entry si_iter hT si_iter_entry ?_ (si_iter_args _))
  refine wpAny_bind (wpAny_pure ?_)
  exact wpAny_pure ⟨_, rfl, "set_iterator", _, hT, si_next.lookup, h⟩
theorem fits_size (hf : t.fits es.size = true) : t.place.size = es.size := by
  unfold SetTable.fits at hf
  rw [Bool.and_eq_true] at hf
  exact eq_of_beq hf.1
theorem below_zero {xs : Array Nat} (hr : Rz xs) : SetTable.below xs 0 = 0 := by
  obtain ⟨b1, b2, b3⟩ := below_ok hr 0
  cases e : SetTable.below xs 0 with
  | zero => rfl
  | succ k =>
    rw [e] at b1 b2
    have h0 : 0 < xs.size := by omega
    exact absurd (b2 0 _ (Nat.succ_pos k) (Array.getElem?_eq_getElem h0)) (Nat.not_lt_zero _)
theorem below_succ {xs : Array Nat} (hr : Rz xs) {i j : Nat} (h : xs[i]? = some j) : SetTable.below xs (j + 1) = i + 1 := by
  obtain ⟨b1, b2, b3⟩ := below_ok hr (j + 1)
  generalize SetTable.below xs (j + 1) = p at *
  have hi : i < xs.size := by
    by_cases z : i < xs.size
    · exact z
    · rw [Array.getElem?_eq_none (by omega)] at h; cases h
  have h1 : i < p := by
    by_cases z : i < p
    · exact z
    · have := b3 i j (by omega) h; omega
  by_cases z : p = i + 1
  · exact z
  · have hp : i + 1 < xs.size := by omega
    have q1 := b2 (i + 1) _ (by omega) (Array.getElem?_eq_getElem hp)
    have q2 := hr i (i + 1) j _ (by omega) h (Array.getElem?_eq_getElem hp)
    omega
theorem rz_small {xs : Array Nat} (h : xs.size <= 1) : Rz xs := fun i k a b hik ha hb => by
  rw [Array.getElem?_eq_none (by omega)] at hb
  cases hb
theorem walk_place (hh : A.handled = none) (hne : a ≠ it) (hd : o.data = .set es ep t) (hf : t.fits es.size = true) (hb : w.params.followText "set-order" = false) (hl : t.led = true) (hn : (!t.plain && decide (es.size > 1)) = false) (hr : Rz t.place) :
    Walks prog w A it [it, a] [it] es.size (fun i v => (es.toList.map (·.2))[i]? = some v) (fun i h => h.get? a = some o /\ ∃ (slot : Nat) (tk : Tok), h.get? it = some (itO (.int slot tk) i a es.size ep) /\ SetTable.below t.place slot = i) where
  sub := fun b hb => by simp at hb; simp [hb]
  frame := fun i h h' ⟨h1, slot, tk, h2, h3⟩ k => ⟨k a (by simp) _ h1, slot, tk, k it (by simp) _ h2, h3⟩
  item := fun i s Q E hi ⟨h1, slot, tk, h2, h3⟩ hQ => by
    have hp : i < t.place.size := by rw [fits_size hf]; exact hi
    refine item_place (x := es[i].2) (next := t.place[i] + 1) h2 h1 hd hf (fun R E' hR => next_place h1 hd hf hb hl hn ?_) fun h' hi' k => ?_
    · rw [h3, Array.getElem?_eq_getElem hi, Array.getElem?_eq_getElem hp]
      exact hR
    · refine hQ _ h' s.toks (by simp [hi]) ⟨k a o hne h1, _, _, hi', below_succ hr (Array.getElem?_eq_getElem hp)⟩ fun b u hb e => k b u (fun z => hb (by simp [z])) e
  done := fun s Q E ⟨h1, slot, tk, h2, h3⟩ hQ => by
    refine end_place hh h2 h1 hd hf (fun R E' hR => next_place h1 hd hf hb hl hn ?_) fun h' k => hQ h' s.toks fun b u hb e => k b u (fun z => hb (by simp [z])) e
    rw [h3, Array.getElem?_eq_none (Nat.le_refl _)]
    exact hR
  self := fun i s Q E ⟨h1, slot, tk, h2, h3⟩ hQ => itO_self h2 hQ
theorem walk_text (hh : A.handled = none) (hne : a ≠ it) (hd : o.data = .set es ep t) (hf : t.fits es.size = true) (hb : w.params.followText "set-order" = true) :
    Walks prog w A it [it, a] [it] es.size (fun i v => ((pickOrder (w.params.setOrder a ep) es).toList.map (·.2))[i]? = some v) (fun i h => h.get? a = some o /\ ∃ (slot : Nat) (tk : Tok), h.get? it = some (itO (.int slot tk) i a es.size ep)) where
  sub := fun b hb => by simp at hb; simp [hb]
  frame := fun i h h' ⟨h1, slot, tk, h2⟩ k => ⟨k a (by simp) _ h1, slot, tk, k it (by simp) _ h2⟩
  item := fun i s Q E hi ⟨h1, slot, tk, h2⟩ hQ => by
    have hz : i < (pickOrder (w.params.setOrder a ep) es).size := by rw [<- Array.length_toList, (vK _ es).length_eq, Array.length_toList]; exact hi
    refine item_place (x := (pickOrder (w.params.setOrder a ep) es)[i].2) (next := slot) h2 h1 hd hf (fun R E' hR => next_text h1 hd hf hb ?_) fun h' hi' k => ?_
    · rw [Array.getElem?_eq_getElem hz]
      exact hR
    · refine hQ _ h' s.toks (by simp [hz]) ⟨k a o hne h1, _, _, hi'⟩ fun b u hb e => k b u (fun z => hb (by simp [z])) e
  done := fun s Q E ⟨h1, slot, tk, h2⟩ hQ => by
    have hz : (pickOrder (w.params.setOrder a ep) es).size = es.size := by rw [<- Array.length_toList, (vK _ es).length_eq, Array.length_toList]
    refine end_place hh h2 h1 hd hf (fun R E' hR => next_text h1 hd hf hb ?_) fun h' k => hQ h' s.toks fun b u hb e => k b u (fun z => hb (by simp [z])) e
    rw [Array.getElem?_eq_none (by rw [hz]; exact Nat.le_refl _)]
    exact hR
  self := fun i s Q E ⟨h1, slot, tk, h2⟩ hQ => itO_self h2 hQ
theorem walk_drawn {ps : List Nat} (hh : A.handled = none) (hne : a ≠ it) (hnT : T ≠ it) (hd : o.data = .set es ep t) (hf : t.fits es.size = true) (hp : ps.Perm (List.range es.size)) :
    Walks prog w A it [it, a, T] [it] es.size (fun i v => (ps.map fun p => ((es[p]?).map (·.2)).getD .none)[i]? = some v)
      (fun i h => h.get? a = some o /\ h.get? T = some { cls := .type "tuple", data := .seq (ps.map fun (i : Nat) => Value.int i 0).toArray } /\ h.get? it = some (itO (.ref T) i a es.size ep)) where
  sub := fun b hb => by simp at hb; simp [hb]
  frame := fun i h h' ⟨h1, h2, h3⟩ k => ⟨k a (by simp) _ h1, k T (by simp) _ h2, k it (by simp) _ h3⟩
  item := fun i s Q E hi ⟨h1, h2, h3⟩ hQ => by
    have hl : ps.length = es.size := by rw [hp.length_eq, List.length_range]
    have hi' : i < ps.length := by omega
    have hm : ps[i] < es.size := List.mem_range.mp (hp.mem_iff.mp (List.getElem_mem hi'))
    refine item_drawn (place := ps[i]) (x := es[ps[i]]) h3 h1 hd hf h2 (List.getElem?_eq_getElem hi') (Array.getElem?_eq_getElem hm) fun h' hi' k => ?_
    refine hQ _ h' s.toks ?_ ⟨k a o hne h1, k T _ hnT h2, hi'⟩ fun b u hb e => k b u (fun z => hb (by simp [z])) e
    rw [List.getElem?_map, List.getElem?_eq_getElem (by omega), Option.map_some, Array.getElem?_eq_getElem hm]
    rfl
  done := fun s Q E ⟨h1, h2, h3⟩ hQ => by
    have hl : ps.length = es.size := by rw [hp.length_eq, List.length_range]
    exact end_drawn hh h3 h1 hd hf h2 (List.getElem?_eq_none (by omega)) fun h' k => hQ h' s.toks fun b u hb e => k b u (fun z => hb (by simp [z])) e
  self := fun i s Q E ⟨h1, h2, h3⟩ hQ => itO_self h3 hQ
end
end SetP
namespace SetP
open PySem PySem.Spec PyProof.Rows
set_option maxRecDepth 100000
section
variable {prog : Program} {w : World} {A : Around} {E : Value -> Shared -> Prop} {s : Shared} {a it T : Addr} {o : Obj} {es : Array (Int × Value)} {ep : Nat} {t : SetTable}
theorem hint_set {Q : Bool -> Shared -> Prop} (hT : s.TypeIs (.ref a) "set") (h : Q false s) : wpAny (model prog w) A (Builtin.List.listLengthHint (.ref a)) Q E s := by
  unfold Builtin.List.listLengthHint
  refine wpAny_bind (wpAny_specialOf hT F.slot_set_len.lookup ?_)
  generalize hid : ("set.__len__" : String) = id0
  wp_delta
  rw [show splitId id0 = some ("set", "__len__") from by subst hid; decide +kernel]
  subst hid
  refine wpAny_bind (wpAny_isInstance (T := "set") (b := true) hT sub_set_self (wpAny_ite_split (fun hab => absurd hab (by decide)) fun _ => wpAny_ite_split (fun _ => wpAny_bind (wpAny_typeOf hT (wpAny_pure h))) fun hab => absurd (by decide +kernel) hab))
theorem loop_go {R : Result -> Shared -> Prop} {fp : List Addr} {n : Nat} {P : Nat -> Value -> Prop} {St : Nat -> Heap -> Prop} {S : Addr} {res : Value} (W : Walks prog w A.in1 it fp [it] n P St) (hn : n <= sizeLine) (off : S ∉ fp) {c₁ : Nat}
    (st : St 0 s.heap) (hS : s.heap.get? S = some { cls := .type "list", data := .seq #[] c₁ })
    (hR : ∀ h' tk acc c', (∀ b u, b ≠ S -> b ≠ it -> s.heap.get? b = some u -> h'.get? b = some u) -> h'.get? S = some { cls := .type "list", dict := none, data := .seq acc c', slots := #[] } -> ItemsOf P acc n -> R (.ok (.ret res)) { s with heap := h', toks := tk }) :
    codeAny (model prog w) A (.builtin "list.extend.loop" ⟨[.ref S, .ref it, res], []⟩) R s := by
  refine codeAny_extend_loopS W.toS hn S off res n 0 _ #[] c₁ rfl (Nat.zero_le _) st hS (ItemsOf.nil _) fun s' acc c' hm hS' hacc => ?_
  rw [Moved.eq_with hm]
  refine hR s'.heap s'.toks acc c' (fun b u h1 h2 e => hm.heap b u (fun z => ?_) e) hS' hacc
  rcases List.mem_cons.mp z with z | z
  · exact h1 z
  · exact h2 (List.mem_singleton.mp z)
theorem tail_go {R : Result -> Shared -> Prop} {fp : List Addr} {n : Nat} {P : Nat -> Value -> Prop} {St : Nat -> Heap -> Prop} {S : Addr} {res : Value} {b : Bool} (W : Walks prog w A.in1 it fp [it] n P St) (hn : n <= sizeLine) (off : S ∉ fp) {c₀ : Nat} (hT : s.TypeIs (.ref a) "set")
    (st : St 0 s.heap) (hS : s.heap.get? S = some { cls := .type "list", data := .seq #[] c₀ })
    (hR : ∀ h' tk acc c', (∀ b u, b ≠ S -> b ≠ it -> s.heap.get? b = some u -> h'.get? b = some u) -> h'.get? S = some { cls := .type "list", dict := none, data := .seq acc c', slots := #[] } -> ItemsOf P acc n -> R (.ok (.ret res)) { s with heap := h', toks := tk }) :
    wpAny (model prog w) A.in1 (holding [.ref it] (Builtin.List.listLengthHint (.ref a)) >>= fun room => if (room || b) = true then (rule "list.extend.makes-room" >>= fun _ => Builtin.List.listTouch (.ref S) >>= fun _ => again (.builtin "list.extend.loop" ⟨[.ref S, .ref it, res], []⟩)) else again (.builtin "list.extend.loop" ⟨[.ref S, .ref it, res], []⟩))
      (fun fin s' => match fin with | .done f => R (.ok f) s' | .again c' => c'.quiet = true /\ codeAny (model prog w) A c' R s') (fun e s' => R (.error e) s') s := by
  refine wpAny_bind (wpAny_holding (hint_set hT ?_))
  refine wpAny_ite_split (fun _ => ?_) fun _ => wpAny_pure ⟨plainId_quiet F.plain_extend_loop _, loop_go W hn off st hS hR⟩
  refine wpAny_bind (wpAny_rule ?_)
  refine wpAny_bind ?_
  show wpAny _ _ (updateSeq S (·.push .none) >>= fun _ => updateSeq S (·.pop)) _ _ _
  refine wpAny_bind (wpAny_updateSeq hS rfl ?_)
  have hS2 := Heap.get?_update_self (Obj.mapSeq (·.push Value.none)) hS rfl
  refine wpAny_updateSeq (hz := by seq_fits) hS2 rfl ?_
  have hS3 := Heap.get?_update_self (Obj.mapSeq (·.pop)) hS2 rfl
  have keep : ∀ c u, c ≠ S -> s.heap.get? c = some u -> ((s.heap.update S (Obj.mapSeq (·.push Value.none))).update S (Obj.mapSeq (·.pop))).get? c = some u := fun c u hc e => (Heap.get?_update_other _ _ (Ne.symm hc)).trans ((Heap.get?_update_other _ _ (Ne.symm hc)).trans e)
  refine wpAny_pure ⟨plainId_quiet F.plain_extend_loop _, loop_go (s := { s with heap := _ }) W hn off (W.frame 0 _ _ st fun c hc u e => keep c u (fun z => off (z ▸ hc)) e) hS3 fun h' tk acc c' k h1 h2 => hR h' tk acc c' (fun c u n1 n2 e => k c u n1 n2 (keep c u n1 e)) h1 h2⟩
theorem items_eq {ord : List Value} {acc : Array Value} {n : Nat} (h : ItemsOf (fun i v => ord[i]? = some v) acc n) (hl : ord.length = n) : acc.toList = ord := by
  apply List.ext_getElem?
  intro i
  rw [Array.getElem?_toList]
  by_cases hi : i < acc.size
  · rw [Array.getElem?_eq_getElem hi]
    exact (h.2 i _ (Array.getElem?_eq_getElem hi)).symm
  · rw [Array.getElem?_eq_none (by omega), List.getElem?_eq_none (by rw [hl, <- h.1]; omega)]
theorem range_vals (es : Array (Int × Value)) : (List.range es.size).map (fun p => ((es[p]?).map (·.2)).getD Value.none) = es.toList.map (·.2) := by
  apply List.ext_getElem (by simp)
  intro i h1 h2
  have hi : i < es.size := by simpa using h1
  simp [hi]
theorem extend_set {R : Result -> Shared -> Prop} {S : Addr} {res : Value} {c₀ : Nat} (hh : A.handled = none) (ho : s.heap.get? a = some o) (hx : o.ExactSet) (hd : o.data = .set es ep t) (hf : t.fits es.size = true) (tb : Tb (ledIn w) t) (hz : es.size <= sizeLine) (hSa : S ≠ a)
    (hS : s.heap.get? S = some { cls := .type "list", data := .seq #[] c₀ })
    (hR : ∀ h' tk d acc c', (∀ b u, b ≠ S -> s.heap.get? b = some u -> h'.get? b = some u) -> h'.get? S = some { cls := .type "list", dict := none, data := .seq acc c', slots := #[] } -> acc.toList.Perm (es.toList.map (·.2)) -> R (.ok (.ret res)) { s with heap := h', toks := tk, drawn := d }) :
    wpAny (model prog w) A.in1 (Builtin.List.listExtendWith (.ref S) (.ref a) res)
      (fun fin s' => match fin with | .done f => R (.ok f) s' | .again c' => c'.quiet = true /\ codeAny (model prog w) A c' R s') (fun e s' => R (.error e) s') s := by
  have hT : s.TypeIs (.ref a) "set" := ⟨o, ho, hx.1⟩
  have lta : a < s.heap.objs.size := Heap.lt_size ho
  have ltS : S < s.heap.objs.size := Heap.lt_size hS
  have hi : A.in1.handled = none := by simp [hh]
  unfold Builtin.List.listExtendWith
  refine wpAny_bind (wpAny_typeOf hT ?_)
  have h1 : Builtin.List.listSameRef (.ref S) (.ref a) = false := by simp [Builtin.List.listSameRef, hSa]
  simp only [h1, show (Value.type "set" == Value.type "list") = false by decide, show (Value.type "set" == Value.type "tuple") = false by decide, Bool.or_false, Bool.false_eq_true, if_false]
  have old : ∀ {b : Addr} {u : Obj} {n : Nat}, s.heap.get? b = some u -> s.heap.objs.size <= n -> b ≠ n := fun e hn z => absurd (Heap.lt_size e) (by rw [z]; exact Nat.not_lt_of_le hn)
  refine wpAny_bind (iter_set ho hx hd hf (fun hc => ?_) fun hc => ⟨hz, fun d ps hp => ?_⟩)
  · have hS' := Heap.get?_push_of_some (itO (.int 0 0) 0 a es.size ep) hS
    have ho' := Heap.get?_push_of_some (itO (.int 0 0) 0 a es.size ep) ho
    have hI : (s.heap.push (itO (.int 0 0) 0 a es.size ep)).get? s.heap.objs.size = some (itO (.int 0 0) 0 a es.size ep) := Heap.get?_push_size _ rfl
    have off : S ∉ [s.heap.objs.size, a] := fun z => by
      rcases List.mem_cons.mp z with z | z
      · exact old hS (Nat.le_refl _) z
      · exact hSa (List.mem_singleton.mp z)
    have hne : a ≠ s.heap.objs.size := old ho (Nat.le_refl _)
    cases hb : w.params.followText "set-order" with
    | true =>
      refine tail_go (s := { s with heap := _ }) (walk_text hi hne hd hf hb) hz off ⟨o, ho', hx.1⟩ ⟨ho', 0, 0, hI⟩ hS' fun h' tk acc c' k h2 h3 => ?_
      refine hR h' tk s.drawn acc c' (fun b u n e => k b u n (old e (Nat.le_refl _)) (Heap.get?_push_of_some _ e)) h2 ?_
      rw [items_eq h3 (by rw [List.length_map, (vK _ es).length_eq, Array.length_toList])]
      exact (vK _ es).map _
    | false =>
      have hl : t.led = true := by rw [tb.led]; unfold ledIn; rw [hb]; rfl
      have hn : (!t.plain && decide (es.size > 1)) = false := by rw [hb] at hc; exact hc
      have hr : Rz t.place := by
        cases hp : t.plain with
        | true => exact tb.rz hp
        | false =>
          rw [hp] at hn
          refine rz_small ?_
          rw [fits_size hf]
          have : ¬ es.size > 1 := of_decide_eq_false (by simpa using hn)
          omega
      refine tail_go (s := { s with heap := _ }) (walk_place hi hne hd hf hb hl hn hr) hz off ⟨o, ho', hx.1⟩ ⟨ho', 0, 0, hI, below_zero hr⟩ hS' fun h' tk acc c' k h2 h3 => ?_
      refine hR h' tk s.drawn acc c' (fun b u n e => k b u n (old e (Nat.le_refl _)) (Heap.get?_push_of_some _ e)) h2 ?_
      rw [items_eq h3 (by rw [List.length_map, Array.length_toList])]
  · have e0 : ∀ {b : Addr} {u : Obj}, s.heap.get? b = some u -> ((s.heap.push { cls := .type "tuple", data := .seq (ps.map fun (i : Nat) => Value.int i 0).toArray }).push (itO (.ref s.heap.objs.size) 0 a es.size ep)).get? b = some u := fun e => Heap.get?_push_of_some _ (Heap.get?_push_of_some _ e)
    have sz : (s.heap.push ({ cls := .type "tuple", data := .seq (ps.map fun (i : Nat) => Value.int i 0).toArray } : Obj)).objs.size = s.heap.objs.size + 1 := Heap.size_push ..
    have hI : ((s.heap.push { cls := .type "tuple", data := .seq (ps.map fun (i : Nat) => Value.int i 0).toArray }).push (itO (.ref s.heap.objs.size) 0 a es.size ep)).get? (s.heap.objs.size + 1) = some (itO (.ref s.heap.objs.size) 0 a es.size ep) := by
      rw [<- sz]; exact Heap.get?_push_size _ rfl
    have hTT : ((s.heap.push { cls := .type "tuple", data := .seq (ps.map fun (i : Nat) => Value.int i 0).toArray }).push (itO (.ref s.heap.objs.size) 0 a es.size ep)).get? s.heap.objs.size = some { cls := .type "tuple", data := .seq (ps.map fun (i : Nat) => Value.int i 0).toArray } := Heap.get?_push_of_some _ (Heap.get?_push_size _ rfl)
    have off : S ∉ [s.heap.objs.size + 1, a, s.heap.objs.size] := fun z => by
      rcases List.mem_cons.mp z with z | z
      · exact old hS (Nat.le_succ _) z
      · rcases List.mem_cons.mp z with z | z
        · exact hSa z
        · exact old hS (Nat.le_refl _) (List.mem_singleton.mp z)
    refine tail_go (s := { s with drawn := d, heap := _ }) (walk_drawn hi (old ho (Nat.le_succ _)) (Nat.ne_of_lt (Nat.lt_succ_self _)) hd hf hp) hz off ⟨o, e0 ho, hx.1⟩ ⟨e0 ho, hTT, hI⟩ (e0 hS) fun h' tk acc c' k h2 h3 => ?_
    refine hR h' tk d acc c' (fun b u n e => k b u n (old e (Nat.le_succ _)) (e0 e)) h2 ?_
    rw [items_eq h3 (by rw [List.length_map, hp.length_eq, List.length_range])]
    have e1 := range_vals es
    rw [<- e1]
    exact hp.map _
theorem collect_set {R : List Value -> Shared -> Prop} (hh : A.handled = none) (ho : s.heap.get? a = some o) (hx : o.ExactSet) (hd : o.data = .set es ep t) (hf : t.fits es.size = true) (tb : Tb (ledIn w) t) (hz : es.size <= sizeLine)
    (h : ∀ h' tk d (acc : List Value), (∀ b u, s.heap.get? b = some u -> h'.get? b = some u) -> acc.Perm (es.toList.map (·.2)) -> R acc { s with heap := h', toks := tk, drawn := d }) :
    wpAny (model prog w) A (collect (.ref a)) R E s := by
  have lt : a < s.heap.objs.size := Heap.lt_size ho
  unfold collect
  refine wpAny_bind (wpAny_runValue (codeAny_builtin entry_proto_collect' ?_))
  rw [Around.under_plainId F.plain_proto_collect _]
  refine wpAny_bind (m := newList []) (wpAny_newObj_type (wpAny_pure ⟨plainId_quiet F.plain_list_iadd _, codeAny_builtin entry_list_iadd' ?_⟩))
  rw [Around.under_plainId F.plain_list_iadd _]
  have hS : (s.heap.push { cls := .type "list", data := .seq ([] : List Value).toArray }).get? s.heap.objs.size = some { cls := .type "list", data := .seq #[] } := Heap.get?_push_size _ rfl
  have key := extend_set (prog := prog) (A := A) (S := s.heap.objs.size) (res := .ref s.heap.objs.size) (s := { s with heap := s.heap.push { cls := .type "list", data := .seq ([] : List Value).toArray } })
    (R := fun (q : Result) (s' : Shared) => ∃ (h' : Heap) (tk : Nat) (d : Drawn) (acc : Array Value) (c' : Nat), q = .ok (.ret (.ref s.heap.objs.size)) /\ s' = { s with heap := h', toks := tk, drawn := d } /\ (∀ b u, s.heap.get? b = some u -> h'.get? b = some u) /\
      h'.get? s.heap.objs.size = some { cls := .type "list", dict := none, data := .seq acc c', slots := #[] } /\ acc.toList.Perm (es.toList.map (·.2)))
    hh (Heap.get?_push_of_some _ ho) hx hd hf tb hz (Nat.ne_of_gt lt) hS fun h' tk d acc c' k h1 h2 => ⟨h', tk, d, acc, c', rfl, rfl, fun b u e => k b u (Nat.ne_of_lt (Heap.lt_size e)) (Heap.get?_push_of_some _ e), h1, h2⟩
  refine wpAny_mono key (fun fin s' x => ?_) fun e s' x => ?_
  · cases fin with
    | done f =>
      obtain ⟨h', tk, d, acc, c', e, rfl, k, h1, h2⟩ := x
      cases e
      refine wpAny_bind (m := load s.heap.objs.size) (wpAny_load h1 ?_)
      exact wpAny_pure (h h' tk d acc.toList k h2)
    | again c1 =>
      refine ⟨x.1, codeAny_mono x.2 fun q s2 y => ?_⟩
      obtain ⟨h', tk, d, acc, c', rfl, rfl, k, h1, h2⟩ := y
      refine wpAny_bind (m := load s.heap.objs.size) (wpAny_load h1 ?_)
      exact wpAny_pure (h h' tk d acc.toList k h2)
  · obtain ⟨_, _, _, _, _, e', _⟩ := x
    cases e'
end
end SetP
namespace L2
open PySem PySem.Spec PyProof.Rows SetP
def decI : Value -> Int
  | .int k _ => k
  | _ => 0
theorem dec_ok {P : Program} {w : World} : ∀ k v, (intKind P w).is k v = true -> decI v = k := fun k v h => by
  obtain ⟨t, rfl⟩ := Value.isInt_shape h
  rfl
theorem Inv.drew {X : Cx} {pins : List (Addr × Obj)} {σ : St} {H : Hp} {s : Shared} (I : Inv X pins σ H s) (d : Drawn) : Inv X pins σ H { s with drawn := d } := ⟨I.ok, I.os, I.bare, I.base, I.loc, I.cell, I.free, I.freeC, I.pin, I.hok, I.len⟩
abbrev TSt := St -> Hp -> (List Int -> Hp -> Prop) -> Prop
def StP (X : Cx) (pins : List (Addr × Obj)) (σ : St) (Q : List Int -> Hp -> Prop) (v : Value) (s' : Shared) : Prop :=
  ∃ (a : Addr) (ks : List Int) (H' : Hp), v = .ref a /\ Inv X pins σ H' s' /\ Good (intKind X.prog X.w) decI (ledIn X.w) s'.heap a ks /\ FpOk X pins H' a /\ Q ks H'
def PSt (X : Cx) (e : Expr) (t : TSt) : Prop := ∀ (pins : List (Addr × Obj)) (s : Shared) (σ : St) (H : Hp) (Q : List Int -> Hp -> Prop), Inv X pins σ H s -> t σ H Q -> wpAny (model X.prog X.w) X.A (eval e X.env) (StP X pins σ Q) X.xe s
section
variable {X : Cx}
theorem are_at : ∀ {ns : List Int} {its : List Value}, IntsAre its ns -> ∀ {i : Nat} {v : Value}, its[i]? = some v -> ∃ t, v = .int (ns.getD i 0) t
  | _, _, .nil, i, v, h => by simp at h
  | _, _, .cons n t r, 0, v, h => by simp at h; subst h; exact ⟨t, rfl⟩
  | _, _, .cons n t r, i + 1, v, h => by
    obtain ⟨t', e⟩ := are_at r (by simpa using h)
    exact ⟨t', e⟩
theorem are_len : ∀ {ns : List Int} {its : List Value}, IntsAre its ns -> its.length = ns.length
  | _, _, .nil => rfl
  | _, _, .cons n t r => congrArg (· + 1) (are_len r)
def tSetL (K : PySem.W.Frag) (te : TE) : TSt := fun σ H Q => tCons te tNil σ H fun vs H1 => ∃ (p : Addr) (ns : List Int), vs = [.ref p] /\ SqL K H1 p (ns.map V.int) /\ ns.length < 4000 /\ ∀ ks : List Int, ks.Nodup -> (∀ z, z ∈ ks ↔ z ∈ ns) -> Q ks H1
theorem bt_set : bootBuiltins "set" = some (.type "set") := by decide +kernel
theorem pst_set (K : PySem.W.Frag) {e : Expr} {te : TE} {p pos : Pos} (hc : X.calm = true) (hm : X.mg "set" = none) (he : PE X e te) (hK : X.K = K := by rfl) (hg : Gl X "set" := by rfl) (hs : starEach [e] X.env = [(false, eval e X.env)] := by rfl) : PSt X (.Call (.Name "set" p) [e] [] pos) (tSetL K te) := by
  subst hK
  intro pins s σ H Q I h
  refine wpAny_Call_Name_kw (ld_blt I hg hm bt_set ?_)
  have ha : PA X [e] (tCons te tNil) := zB he zF hs
  refine PyProof.Rows.callWith_type1 (thn (ha pos pins s σ H _ I h) fun us s1 ⟨vs, H1, I1, r1, q1⟩ => ?_) hs rfl
  obtain ⟨l, ns, e1, hq, h4, q⟩ := q1
  subst e1
  cases r1 with
  | cons r rr =>
    cases rr
    cases r
    obtain ⟨its, rv, pl, hz⟩ := I1.list hq
    have hi : IntsAre its ns := ints_of rv
    have hl := are_len hi
    refine call_set (knd := intKind X.prog X.w) (dec := decI) dec_ok (fun i => ns.getD i 0) (I1.ok.hd hc) pl.isList (fun i v hv => ?_) (by rw [List.size_toArray, hl]; show ns.length + 1 < 4096; omega) fun h' tk g k => ?_
    · obtain ⟨t, rfl⟩ := are_at hi (by rw [List.getElem?_toArray] at hv; exact hv)
      exact ⟨intKind_is _ _ _ _, rfl⟩
    · have I2 := I1.kept (h' := h') (t' := tk) fun b o e => k b o (Heap.lt_size e) e
      obtain ⟨_, _, _, _, _, _, _, _, _, nd, _⟩ := id g
      refine ⟨_, _, H1, rfl, I2, g, I1.fpOk (Nat.le_refl _) (I1.hok.fresh (Nat.le_refl _)), q _ nd fun z => ?_⟩
      rw [mem_met, List.size_toArray, hl]
      constructor
      · rintro ⟨j, hj, rfl⟩
        rw [List.getD_eq_getElem?_getD, List.getElem?_eq_getElem hj]
        exact List.getElem_mem hj
      · intro hz
        obtain ⟨j, hj, e⟩ := List.getElem_of_mem hz
        exact ⟨j, hj, by rw [List.getD_eq_getElem?_getD, List.getElem?_eq_getElem hj]; exact e⟩
def tSorted (ts : TSt) : TE := fun σ H Q => ts σ H fun ks H1 => ks.length < 64 /\ ∀ (l : Addr) (ms : List Int), H1 l = none -> ms.Perm ks -> ms.Pairwise (· <= ·) -> Q (.ref l) (upd H1 l (.lst (ms.map V.int)))
theorem ints_dec {P : Program} {w : World} : ∀ {vs : List Value}, (∀ v ∈ vs, ∃ k, (intKind P w).is k v = true) -> IntsAre vs (vs.map decI)
  | [], _ => .nil
  | v :: vs, h => by
    obtain ⟨k, hk⟩ := h v List.mem_cons_self
    obtain ⟨t, rfl⟩ := Value.isInt_shape hk
    exact .cons k t (ints_dec (P := P) (w := w) fun u hu => h u (List.mem_cons_of_mem _ hu))
theorem sort_set {pins : List (Addr × Obj)} {σ : St} {H : Hp} {s : Shared} {Q : VK} {a : Addr} {ks : List Int} (hc : X.calm = true) (I : Inv X pins σ H s) (g : Good (intKind X.prog X.w) decI (ledIn X.w) s.heap a ks) (h64 : ks.length < 64)
    (q : ∀ (l : Addr) (ms : List Int), H l = none -> ms.Perm ks -> ms.Pairwise (· <= ·) -> Q (.ref l) (upd H l (.lst (ms.map V.int)))) : wpAny (model X.prog X.w) X.A (call (.builtin "sorted") [.ref a]) (EP X pins σ Q) X.xe s := by
  obtain ⟨o, es, ep, t, ho, hx, hd, hel, hp, nd, hb, hf, tb⟩ := g
  have hsz : es.size = ks.length := by rw [<- hp.length_eq, List.length_map, Array.length_toList]
  refine PySem.Calls.call_function_entry kind_sorted plain_sorted entry_sorted (args_sorted1 _) ?_
  unfold Builtin.«sorted»
  refine wpAny_bind (m := checkCount "sorted" 1 1 _) (wpAny_pure ?_)
  refine wpAny_bind (collect_set (A := X.A.in1) (I.ok.hd hc) ho hx hd hf tb (fits_of_scanBound hb) fun h' tk d acc hkeep hacc => ?_)
  have I' : Inv X pins σ H { s with heap := h', toks := tk, drawn := d } := (I.kept (h' := h') (t' := tk) hkeep).drew d
  have hI : IntsAre acc (acc.map decI) := ints_dec (P := X.prog) (w := X.w) fun v hv => by
    obtain ⟨e, he, rfl⟩ := List.mem_map.mp (hacc.mem_iff.mp hv)
    obtain ⟨⟨k, hk, _⟩, _⟩ := hel e he
    exact ⟨k, hk⟩
  have hpk : (acc.map decI).Perm ks := by
    refine (hacc.map decI).trans ?_
    rw [List.map_map]
    exact hp
  have hal : acc.length = ks.length := by rw [<- hpk.length_eq, List.length_map]
  have hsl : acc.length <= sizeLine := by rw [hal]; exact Nat.le_of_lt (Nat.lt_trans h64 (by decide))
  refine wpAny_bind (wpAny_newList ?_ hsl)
  have hoL : (h'.push (seqObj "list" acc.toArray 0)).get? h'.objs.size = some (seqObj "list" acc.toArray 0) := Heap.get?_push_size _ rfl
  refine wpAny_bind (wpAny_holding (wpAny_call_entry slot_list_sort ⟨_, hoL, rfl⟩ entry_list_sort (list_sort_tree hoL hI (by omega) fun out ns' a1 a2 a3 => ⟨_, rfl, ?_⟩) (args_list_sort _)))
  refine wpAny_pure ⟨_, rfl, ?_⟩
  obtain ⟨e, he⟩ := sortedHeap_at (out := out) hoL
  refine ⟨.ref h'.objs.size, _, I'.laid (t' := tk) (o := .lst (ns'.map V.int)) (fun b ob w => ?_) (Nat.le_refl _) ?_, rfl, q _ ns' (I'.hok.fresh (Nat.le_refl _)) (a2.trans hpk) a3⟩
  · have hb : h'.get? b = some ob := w
    have hlt := Heap.lt_size hb
    rw [sortedHeap_old (Nat.ne_of_lt hlt) (by rw [size_push']; exact Nat.lt_succ_of_lt hlt), Heap.get?_push_ne _ _ _ (Nat.ne_of_lt hlt)]
    exact hb
  · refine ⟨?_, out.toList, e, uC a1, ?_⟩
    · rw [List.length_map, a2.length_eq, List.length_map]; exact hsl
    · rw [Array.toArray_toList]; exact he
theorem pe_sortSt {e : Expr} {ts : TSt} {p pos : Pos} (hc : X.calm = true) (hm : X.mg "sorted" = none) (he : PSt X e ts) (hg : Gl X "sorted" := by rfl) (hs : starEach [e] X.env = [(false, eval e X.env)] := by rfl) : PE X (.Call (.Name "sorted" p) [e] [] pos) (tSorted ts) := by
  intro pins s σ H Q I h
  refine wpAny_Call_Name_kw (ld_blt I hg hm (by decide +kernel : bootBuiltins "sorted" = some (.builtin "sorted")) ?_)
  refine PyProof.Rows.callWith_builtin1 (Q := _) ?_ hs rfl
  rw [hs]
  show wpAny _ _ (spliced ((false, eval e X.env) :: backTo pos [])) _ _ s
  refine Calls.spliced_cons (thn (he pins s σ H _ I h) fun u s1 ⟨a, ks, H1, e1, I1, g, fo, h64, q⟩ => ?_)
  subst e1
  refine Calls.spliced_nil ?_
  exact sort_set hc I1 g h64 q
end
end L2
namespace Ts
open PySem L2
def insU (z : Int) : List Int -> List Int
  | [] => [z]
  | y :: ys => if z < y then z :: y :: ys else if z = y then y :: ys else y :: insU z ys
def usort (ns : List Int) : List Int := ns.foldr insU []
def usortM (ns : List Int) : Option (List Int) := if ns.length < 64 then some (usort ns) else none
theorem mem_insU {z x : Int} : ∀ {ys : List Int}, x ∈ insU z ys ↔ x = z \/ x ∈ ys
  | [] => by simp [insU]
  | y :: ys => by
    unfold insU
    split
    · simp
    · split
      · rename_i h; subst h; simp
      · rw [List.mem_cons, mem_insU, List.mem_cons]
        exact ⟨fun h => h.elim (fun h => .inr (.inl h)) fun h => h.elim .inl fun h => .inr (.inr h), fun h => h.elim (fun h => .inr (.inl h)) fun h => h.elim .inl fun h => .inr (.inr h)⟩
theorem insU_lt {z : Int} : ∀ {ys : List Int}, ys.Pairwise (· < ·) -> (insU z ys).Pairwise (· < ·)
  | [], _ => by simp [insU]
  | y :: ys, h => by
    have h1 := List.pairwise_cons.mp h
    unfold insU
    split
    · rename_i hz
      refine List.pairwise_cons.mpr ⟨fun x hx => ?_, h⟩
      rcases List.mem_cons.mp hx with e | e
      · rw [e]; exact hz
      · exact Int.lt_trans hz (h1.1 x e)
    · split
      · exact h
      · refine List.pairwise_cons.mpr ⟨fun x hx => ?_, insU_lt h1.2⟩
        rcases mem_insU.mp hx with e | e
        · rw [e]; omega
        · exact h1.1 x e
theorem mem_usort {x : Int} : ∀ {ns : List Int}, x ∈ usort ns ↔ x ∈ ns
  | [] => by simp [usort]
  | n :: ns => by
    show x ∈ insU n (usort ns) ↔ _
    rw [mem_insU, mem_usort, List.mem_cons]
theorem usort_lt : ∀ ns : List Int, (usort ns).Pairwise (· < ·)
  | [] => .nil
  | n :: ns => insU_lt (usort_lt ns)
theorem lt_uniq : ∀ {xs ys : List Int}, xs.Pairwise (· < ·) -> ys.Pairwise (· < ·) -> (∀ s, s ∈ xs ↔ s ∈ ys) -> xs = ys
  | [], [], _, _, _ => rfl
  | [], y :: ys, _, _, h => absurd ((h y).mpr List.mem_cons_self) (by simp)
  | x :: xs, [], _, _, h => absurd ((h x).mp List.mem_cons_self) (by simp)
  | x :: xs, y :: ys, hx, hy, h => by
    have h1 := List.pairwise_cons.mp hx
    have h2 := List.pairwise_cons.mp hy
    have e : x = y := by
      rcases List.mem_cons.mp ((h x).mp List.mem_cons_self) with e | e
      · exact e
      · rcases List.mem_cons.mp ((h y).mpr List.mem_cons_self) with e' | e'
        · exact e'.symm
        · have a1 := h2.1 x e
          have a2 := h1.1 y e'
          omega
    subst e
    rw [lt_uniq h1.2 h2.2 fun s => ?_]
    constructor
    · intro hs
      rcases List.mem_cons.mp ((h s).mp (List.mem_cons_of_mem _ hs)) with e | e
      · have := h1.1 s hs; omega
      · exact e
    · intro hs
      rcases List.mem_cons.mp ((h s).mpr (List.mem_cons_of_mem _ hs)) with e | e
      · have := h2.1 s hs; omega
      · exact e
theorem sub_len : ∀ {ks ns : List Int}, ks.Nodup -> (∀ z ∈ ks, z ∈ ns) -> ks.length <= ns.length
  | [], _, _, _ => Nat.zero_le _
  | k :: ks, ns, nd, h => by
    obtain ⟨a, b, e⟩ := List.append_of_mem (h k List.mem_cons_self)
    have nd' := List.nodup_cons.mp nd
    have q := sub_len (ks := ks) (ns := a ++ b) nd'.2 fun z hz => by
      have hm := h z (List.mem_cons_of_mem _ hz)
      rw [e] at hm
      rcases List.mem_append.mp hm with m | m
      · exact List.mem_append.mpr (.inl m)
      · rcases List.mem_cons.mp m with m | m
        · exact absurd (m ▸ hz) nd'.1
        · exact List.mem_append.mpr (.inr m)
    rw [e, List.length_append, List.length_cons, List.length_cons]
    rw [List.length_append] at q
    omega
theorem uZ : ∀ {ms : List Int}, ms.Pairwise (· <= ·) -> ms.Nodup -> ms.Pairwise (· < ·)
  | [], _, _ => .nil
  | m :: ms, h, nd => by
    have h1 := List.pairwise_cons.mp h
    have n1 := List.nodup_cons.mp nd
    refine List.pairwise_cons.mpr ⟨fun x hx => ?_, uZ h1.2 n1.2⟩
    have a := h1.1 x hx
    have b : m ≠ x := fun e => n1.1 (e ▸ hx)
    omega
section
variable {K : PySem.W.Frag} {B : Bs} {sl : List (Slot K)} {md : Md} {t : TE}
theorem eo_sortSet {m : Option (List Int)} (h : Ex B sl .hp t m) : Eo B sl md (tSorted (tSetL K t)) (m.bind usortM) := fun c hc F O H σ Q s k => by
  cases m with
  | none => cases hc
  | some ns =>
    have hc : usortM ns = some c := hc
    unfold usortM at hc
    split at hc
    case isFalse => cases hc
    rename_i hl
    cases hc
    refine h ns rfl F O H σ _ s fun v F' H' g r1 => ?_
    obtain ⟨p, vs, rfl, z1, z2⟩ := r1
    have z3 : vs = ns.map V.int := z2.vals
    subst z3
    refine ⟨p, ns, rfl, SqL.of z1, by omega, fun ks nd hm => ⟨Nat.lt_of_le_of_lt (sub_len nd fun z hz => (hm z).mp hz) hl, fun l ms hn p1 p2 => ?_⟩⟩
    have e : ms = usort ns := lt_uniq (uZ p2 (p1.nodup_iff.mpr nd)) (usort_lt ns) fun z => by rw [p1.mem_iff, hm, mem_usort]
    subst e
    exact k l _ F' H' g hn (a2_ints _)
end
end Ts
namespace SetP
open PySem PySem.Spec PyProof.Rows
set_option maxRecDepth 100000
theorem set_and_entry : entryFor table "set.__and__" = some Builtin.«frozenset.__and__» := entryFor_alias (id' := "frozenset.__and__") (by kernel_rfl) rfl (by decide +kernel) (by kernel_rfl)
section
variable {prog : Program} {w : World} {κ : Type} [DecidableEq κ] {knd : KeyKind prog w κ} {dec : Value -> κ} {led : Bool} {A : Around} {E : Value -> Shared -> Prop} {s : Shared}
theorem Good.setOf (hdec : ∀ k v, knd.is k v = true -> dec v = k) {h : Heap} {a : Addr} {ks : List κ} (g : Good knd dec led h a ks) : h.SetOf knd a (fun k => decide (k ∈ ks)) ks.length := by
  obtain ⟨o, es, ep, t, h1, h2, h3, hel, hp, nd, hb, hf, tb⟩ := g
  refine ⟨o, es, ep, t, h1, h2, h3, hel, fun k => ?_, hb, hf, by rw [<- hp.length_eq, List.length_map, Array.length_toList]⟩
  rw [decide_eq_true_iff, <- hp.mem_iff, List.mem_map]
  constructor
  · rintro ⟨e, he, rfl⟩
    obtain ⟨⟨k', hk, _⟩, _⟩ := hel e he
    exact ⟨e, he, by rw [hdec k' _ hk]; exact hk⟩
  · rintro ⟨e, he, hk⟩
    exact ⟨e, he, hdec _ _ hk⟩
theorem Good.size {h : Heap} {a : Addr} {ks : List κ} (g : Good knd dec led h a ks) : ∃ o es ep t, h.get? a = some o /\ o.ExactSet /\ o.data = .set es ep t /\ t.fits es.size = true /\ es.size = ks.length /\ Tb led t /\ ElemsOf knd es.toList /\ (es.toList.map fun e => dec e.2).Perm ks := by
  obtain ⟨o, es, ep, t, h1, h2, h3, hel, hp, nd, hb, hf, tb⟩ := g
  exact ⟨o, es, ep, t, h1, h2, h3, hf, by rw [<- hp.length_eq, List.length_map, Array.length_toList], tb, hel, hp⟩
theorem Good.type {s : Shared} {a : Addr} {ks : List κ} (g : Good knd dec led s.heap a ks) : s.TypeIs (.ref a) "set" := by
  obtain ⟨o, _, _, _, h1, h2, _⟩ := g
  exact ⟨o, h1, h2.1⟩
theorem any_set {Q : Bool -> Shared -> Prop} {a : Addr} (hT : s.TypeIs (.ref a) "set") (h : Q true s) : wpAny (model prog w) A (Builtin.Frozenset.isAnySet (.ref a)) Q E s := by
  unfold Builtin.Frozenset.isAnySet
  refine wpAny_bind (wpAny_isInstance (T := "set") (b := true) hT sub_set_self ?_)
  exact wpAny_pure h
theorem size_ok {Q : Nat -> Shared -> Prop} {a : Addr} {ks : List κ} (g : Good knd dec led s.heap a ks) (h : Q ks.length s) : wpAny (model prog w) A (Builtin.Frozenset.sizeOf a) Q E s := by
  obtain ⟨o, es, ep, t, h1, h2, h3, hf, hl, _⟩ := g.size
  unfold Builtin.Frozenset.sizeOf
  refine wpAny_bind (uO h1 h3 hf (wpAny_pure ?_))
  rw [hl]
  exact h
theorem quiet_ok (sets : List Addr) (hs : ∀ a ∈ sets, ∃ ks : List κ, Good knd dec led s.heap a ks) (hn : ∀ k v, knd.is k v = true -> ∀ b, v ≠ .ref b) {Q : Bool -> Shared -> Prop} (h : Q true s) : wpAny (model prog w) A (setsQuiet sets) Q E s := by
  unfold setsQuiet
  refine wpAny_bind (wpAny_mono (wpAny_forIn_list (β := Option Bool × Unit) _ (fun l b s' => s' = s /\ b = (none, ()) /\ ∀ a ∈ l, ∃ ks : List κ, Good knd dec led s.heap a ks) (fun b s' => s' = s /\ b = (none, ())) ?turn (fun b s' hI => ⟨hI.1, hI.2.1⟩) sets _ ⟨rfl, rfl, hs⟩) ?post (fun _ _ h => h))
  case post =>
    rintro b s' ⟨rfl, rfl⟩
    exact wpAny_pure h
  case turn =>
    rintro a rest b s' ⟨rfl, rfl, hg⟩
    obtain ⟨ks, g⟩ := hg a List.mem_cons_self
    obtain ⟨o, es, ep, t, h1, h2, h3, hf, hl, tb, hel, hp⟩ := g.size
    refine wpAny_bind (uO h1 h3 hf ?_)
    rw [<- Array.forIn_toList]
    refine wpAny_bind (wpAny_mono (wpAny_forIn_list (β := Option Bool × Unit) _ (fun l b s'' => s'' = s' /\ b = (none, ()) /\ ∀ e ∈ l, ∀ c, e.2 ≠ .ref c) (fun b s'' => s'' = s' /\ b = (none, ())) ?t2 (fun b s' hI => ⟨hI.1, hI.2.1⟩) es.toList _ ⟨rfl, rfl, ?p0⟩) ?p2 (fun _ _ h => h))
    case p0 =>
      intro e he c z
      obtain ⟨⟨k, hk, _⟩, _⟩ := hel e he
      exact hn k _ hk c z
    case p2 =>
      rintro b s'' ⟨rfl, rfl⟩
      exact wpAny_pure ⟨rfl, rfl, fun a ha => hg a (List.mem_cons_of_mem _ ha)⟩
    case t2 =>
      rintro ⟨hh, x⟩ l b s'' ⟨rfl, rfl, hl⟩
      have hx := hl _ List.mem_cons_self
      dsimp only at hx ⊢
      split
      · exact absurd rfl (hx _)
      · exact wpAny_pure ⟨rfl, rfl, fun e he => hl e (List.mem_cons_of_mem _ he)⟩
theorem walk_ok {a : Addr} {ks : List κ} (g : Good knd dec (ledIn w) s.heap a ks) (hq : w.params.followText "set-order" = false -> ∀ o es ep t, s.heap.get? a = some o -> o.data = .set es ep t -> (!t.plain && decide (es.size > 1)) = false) {Q : Array (Int × Value) -> Shared -> Prop}
    (h : ∀ es : Array (Int × Value), ElemsOf knd es.toList -> (es.toList.map fun e => dec e.2).Perm ks -> Q es s) : wpAny (model prog w) A (setWalk a) Q E s := by
  obtain ⟨o, es, ep, t, h1, h2, h3, hf, hl, tb, hel, hp⟩ := g.size
  unfold setWalk
  refine wpAny_bind (wpAny_setState_of h1 h3 hf ?_)
  dsimp only
  refine wpAny_bind (vQ ?_)
  cases hb : w.params.followText "set-order" with
  | true =>
    simp only [↓reduceIte]
    refine wpAny_bind (wpAny_askSetting (wpAny_pure ?_))
    exact h _ (hel.perm (vK _ es)) (((vK _ es).map _).trans hp)
  | false =>
    have q := hq hb o es ep t h1 h3
    have hled : t.led = true := by rw [tb.led]; unfold ledIn; rw [hb]; rfl
    simp only [Bool.false_eq_true, ↓reduceIte]
    show wpAny _ _ (if (!t.plain && decide (es.size > 1)) = true then _ else _) _ _ _
    rw [if_neg (by rw [q]; exact Bool.false_ne_true)]
    refine wpAny_bind ?_
    show wpAny _ _ (if (!t.led && decide (es.size > 1)) = true then _ else pure ()) _ _ _
    rw [if_neg (by rw [hled]; exact Bool.false_ne_true)]
    exact wpAny_pure (wpAny_pure (h es hel hp))
theorem unseen_ok {a f : Addr} {others : List Addr} {ks kf : List κ} (g : Good knd dec (ledIn w) s.heap a ks) (gf : Good knd dec (ledIn w) s.heap f kf) (hs : ∀ b ∈ others, ∃ ks : List κ, Good knd dec (ledIn w) s.heap b ks) (hn : ∀ k v, knd.is k v = true -> ∀ b, v ≠ .ref b) {Q : Array (Int × Value) -> Shared -> Prop}
    (h : ∀ (es : Array (Int × Value)) (h' : Heap), ElemsOf knd es.toList -> (es.toList.map fun e => dec e.2).Perm ks -> Heap.SameBut f s.heap h' -> Good knd dec (ledIn w) h' f kf -> Q es { s with heap := h' }) : wpAny (model prog w) A (setWalkUnseen a others (some f)) Q E s := by
  obtain ⟨o, es, ep, t, h1, h2, h3, hf, hl, tb, hel, hp⟩ := g.size
  unfold setWalkUnseen
  refine wpAny_bind (wpAny_setState_of h1 h3 hf ?_)
  dsimp only
  refine wpAny_bind (vQ ?_)
  split
  · rename_i c
    refine walk_ok g (fun hb o' es' ep' t' h1' h3' => ?_) fun es' hel' hp' => h es' s.heap hel' hp' (Heap.SameBut.refl f s.heap) gf
    rw [h1] at h1'
    cases h1'
    rw [h3] at h3'
    cases h3'
    rw [hb] at c
    simp only [Bool.false_or, Bool.or_eq_true, Bool.and_eq_true, decide_eq_true_eq] at c
    rcases c with ⟨_, c⟩ | c
    · rw [c]; rfl
    · rw [decide_eq_false (by omega), Bool.and_false]
  · refine wpAny_bind (quiet_ok (knd := knd) (dec := dec) (led := ledIn w) (a :: others) (fun b hb => (List.mem_cons.mp hb).elim (fun e => e ▸ ⟨ks, g⟩) (hs b)) hn ?_)
    simp only [Bool.not_true, Bool.false_eq_true, ↓reduceIte]
    refine wpAny_bind (wpAny_rule ?_)
    obtain ⟨of, ef, epf, tf, f1, f2, f3, ff, fl, tbf, felm, fp⟩ := gf.size
    refine wpAny_bind (wpAny_setState_of f1 f3 ff ?_)
    dsimp only
    split
    · have gl := gf.len
      refine wpAny_bind (wpAny_storeSet_of f1 f3 ?_ (fits_of_scanBound (by rw [fl]; exact gl)))
      obtain ⟨_, _, _, _, e1, _, _, _, _, nd, hb, _, _⟩ := gf
      refine wpAny_pure (h es _ hel hp (Heap.SameBut.update _ f _) ⟨_, ef, _, _, put_at (es' := ef) (t' := _) f1 f3, f2, rfl, felm, fp, nd, ?_, ?_, ?_⟩)
      · rw [fl]; exact gl
      · exact ff
      · refine ⟨?_, fun z => ?_⟩
        · show (tf.led && t.led) = _
          rw [tbf.led, tb.led, Bool.and_self]
        · exact tbf.rz (Bool.and_eq_true_iff.mp z).1
    · exact wpAny_pure (h es s.heap hel hp (Heap.SameBut.refl f s.heap) gf)
theorem inter_loop (hdec : ∀ k v, knd.is k v = true -> dec v = k) (id : String) {x y r : Addr} {ka ky : List κ} (hn : ∀ k v, knd.is k v = true -> ∀ b, v ≠ .ref b) (hxr : x ≠ r) (hyr : y ≠ r) (gx : Good knd dec (ledIn w) s.heap x ka) (gy : Good knd dec (ledIn w) s.heap y ky) (gr : Good knd dec (ledIn w) s.heap r []) {Q : Unit -> Shared -> Prop}
    (h : ∀ (h' : Heap) (kr : List κ), Heap.SameBut r s.heap h' -> Good knd dec (ledIn w) h' r kr -> (∀ k, k ∈ kr ↔ k ∈ ka /\ k ∈ ky) -> Q () { s with heap := h' }) :
    wpAny (model prog w) A (do
      let was <- setEpoch y
      for (h, x') in <- setWalkUnseen y [x, r] (some r) do
        holding [x'] do
          if (<- setFind x x' h).isSome then
            let _ <- setAddHashed r x' h
        Builtin.Frozenset.unchanged id y was) Q E s := by
  obtain ⟨o, es, ep, t, h1, h2, h3, hf, hl, tb, hel, hp⟩ := gy.size
  refine wpAny_bind (wpAny_setEpoch_of h1 h3 hf ?_)
  refine wpAny_bind (unseen_ok gy gr (fun b hb => (List.mem_cons.mp hb).elim (fun e => e ▸ ⟨ka, gx⟩) fun e => (List.mem_singleton.mp e) ▸ ⟨[], gr⟩) hn fun es' h' hel' hp' sb gr' => ?_)
  rw [<- Array.forIn_toList]
  have ln : es'.toList.length = ky.length := by rw [<- hp'.length_eq, List.length_map]
  refine wpAny_bind (wpAny_mono (wpAny_forIn_list (β := Unit) _ (fun l _ s' => ∃ h2 kr, s' = { s with heap := h2 } /\ Heap.SameBut r s.heap h2 /\ Good knd dec (ledIn w) h2 r kr /\ ElemsOf knd l /\ kr.length + l.length <= ky.length /\ ∀ k, (k ∈ kr \/ (k ∈ ka /\ k ∈ l.map fun e => dec e.2)) ↔ (k ∈ ka /\ k ∈ ky)) (fun _ s' => ∃ h2 kr, s' = { s with heap := h2 } /\ Heap.SameBut r s.heap h2 /\ Good knd dec (ledIn w) h2 r kr /\ ∀ k, k ∈ kr ↔ k ∈ ka /\ k ∈ ky) ?turn ?fin es'.toList () ⟨h', [], rfl, sb, gr', hel', by rw [ln, List.length_nil]; omega, fun k => ?_⟩) ?post (fun _ _ h => h))
  case turn =>
    rintro ⟨hs, v⟩ l b s' ⟨h2, kr, rfl, sb2, g2, hl2, hlen, hm⟩
    obtain ⟨⟨k, hk, hh⟩, hsc⟩ := hl2 _ List.mem_cons_self
    dsimp only at hk hh hsc ⊢
    subst hh
    have kx : ∀ o, s.heap.get? x = some o -> h2.get? x = some o := fun o e => by rw [sb2.2 x hxr]; exact e
    have ky' : ∀ o, s.heap.get? y = some o -> h2.get? y = some o := fun o e => by rw [sb2.2 y hyr]; exact e
    have gx2 := gx.keep kx
    have dv : dec v = k := hdec k v hk
    rw [List.length_cons] at hlen
    have cont : ∀ (h3' : Heap) (kr' : List κ), Heap.SameBut r s.heap h3' -> Good knd dec (ledIn w) h3' r kr' -> kr'.length + l.length <= ky.length -> (∀ c, (c ∈ kr' \/ (c ∈ ka /\ c ∈ l.map fun e => dec e.2)) ↔ (c ∈ ka /\ c ∈ ky)) ->
        wpAny (model prog w) A (Builtin.Frozenset.unchanged id y ep) (fun _ s'' => wpAny (model prog w) A (pure (ForInStep.yield ())) (fun q s'' => match q with | .yield _ => ∃ h2 kr, s'' = { s with heap := h2 } /\ Heap.SameBut r s.heap h2 /\ Good knd dec (ledIn w) h2 r kr /\ ElemsOf knd l /\ kr.length + l.length <= ky.length /\ ∀ k, (k ∈ kr \/ (k ∈ ka /\ k ∈ l.map fun e => dec e.2)) ↔ (k ∈ ka /\ k ∈ ky) | .done _ => ∃ h2 kr, s'' = { s with heap := h2 } /\ Heap.SameBut r s.heap h2 /\ Good knd dec (ledIn w) h2 r kr /\ ∀ k, k ∈ kr ↔ k ∈ ka /\ k ∈ ky) E s'') E { s with heap := h3' } := fun h3' kr' sb3 g3 l3 m3 => by
      unfold Builtin.Frozenset.unchanged
      refine wpAny_bind (wpAny_setEpoch_of (s := { s with heap := h3' }) (by show h3'.get? y = _; rw [sb3.2 y hyr]; exact h1) h3 hf ?_)
      simp only [bne_self_eq_false, Bool.false_eq_true, ↓reduceIte]
      exact wpAny_pure (wpAny_pure ⟨h3', kr', rfl, sb3, g3, fun e he => hl2 e (List.mem_cons_of_mem _ he), l3, m3⟩)
    refine wpAny_bind (wpAny_holding (wpAny_bind (wpAny_setFind_of (s := { s with heap := h2 }) hk hsc (gx2.setOf hdec) fun q hq => ?_)))
    cases q with
    | none =>
      have nk : k ∉ ka := by simpa using hq.symm
      simp only [Option.isSome_none, Bool.false_eq_true, ↓reduceIte]
      refine wpAny_pure (wpAny_bind (cont h2 kr sb2 g2 (by omega) fun c => ?_))
      rw [<- hm c, List.map_cons, List.mem_cons]
      show _ ↔ (c ∈ kr \/ c ∈ ka /\ (c = dec v \/ _))
      rw [dv]
      constructor
      · rintro (z | ⟨z1, z2⟩)
        · exact .inl z
        · exact .inr ⟨z1, .inr z2⟩
      · rintro (z | ⟨z1, z2 | z2⟩)
        · exact .inl z
        · exact absurd (z2 ▸ z1) nk
        · exact .inr ⟨z1, z2⟩
    | some j =>
      have mk : k ∈ ka := by simpa using hq.symm
      simp only [Option.isSome_some, ↓reduceIte]
      refine wpAny_bind (add_ok (led := ledIn w) (s := { s with heap := h2 }) hdec hk hsc g2 (by have := gy.len; omega) fun h3' b' sb3 g3 => ?_)
      refine wpAny_pure (wpAny_bind (cont h3' _ (sb2.trans sb3) g3 ?_ fun c => ?_))
      · split
        · omega
        · rw [List.length_cons]; omega
      · rw [<- hm c, List.map_cons, List.mem_cons]
        show _ ↔ (c ∈ kr \/ c ∈ ka /\ (c = dec v \/ _))
        rw [dv]
        have e : c ∈ (if k ∈ kr then kr else k :: kr) ↔ c = k \/ c ∈ kr := by
          split
          · rename_i z
            exact ⟨.inr, fun q => q.elim (fun q => q ▸ z) fun q => q⟩
          · exact List.mem_cons
        rw [e]
        constructor
        · rintro ((z | z) | ⟨z1, z2⟩)
          · exact .inr ⟨z ▸ mk, .inl z⟩
          · exact .inl z
          · exact .inr ⟨z1, .inr z2⟩
        · rintro (z | ⟨z1, z2 | z2⟩)
          · exact .inl (.inr z)
          · exact .inl (.inl z2)
          · exact .inr ⟨z1, z2⟩
  case fin =>
    rintro b s' ⟨h2, kr, rfl, sb2, g2, _, _, hm⟩
    refine ⟨h2, kr, rfl, sb2, g2, fun k => ?_⟩
    rw [<- hm k]
    simp
  case post =>
    rintro b s' ⟨h2, kr, rfl, sb2, g2, hm⟩
    exact wpAny_pure (h h2 kr sb2 g2 hm)
  · rw [hp'.mem_iff]
    simp
theorem base_ok {a : Addr} (hT : s.TypeIs (.ref a) "set") {Q : Value -> Shared -> Prop} (h : Q (.type "set") s) : wpAny (model prog w) A (Builtin.Frozenset.baseOf a) Q E s := by
  unfold Builtin.Frozenset.baseOf
  refine wpAny_bind (wpAny_isInstance (T := "set") (b := true) hT sub_set_self ?_)
  exact wpAny_pure h
theorem newSet_ok {Q : Value -> Shared -> Prop} (h : Q (.ref s.heap.objs.size) { s with heap := s.heap.push { cls := .type "set", dict := none, data := .set #[] 0 (.fresh 0 0 (ledIn w)) } }) : wpAny (model prog w) A (newSet (.type "set")) Q E s := by
  unfold newSet setsByText
  refine wpAny_bind (wpAny_bind (wpAny_askSetting (wpAny_pure ?_)))
  dsimp only
  simp only [newObj]
  exact wpAny_bind (wpAny_alloc (wpAny_pure h))
theorem inter_ok (hdec : ∀ k v, knd.is k v = true -> dec v = k) (id : String) {a b : Addr} {ka kb : List κ} (hn : ∀ k v, knd.is k v = true -> ∀ b, v ≠ .ref b) (hab : b ≠ a) (ga : Good knd dec (ledIn w) s.heap a ka) (gb : Good knd dec (ledIn w) s.heap b kb) {Q : Value -> Shared -> Prop}
    (h : ∀ (h' : Heap) (kr : List κ), Good knd dec (ledIn w) h' s.heap.objs.size kr -> (∀ k, k ∈ kr ↔ k ∈ ka /\ k ∈ kb) -> (∀ c o, c < s.heap.objs.size -> s.heap.get? c = some o -> h'.get? c = some o) -> Q (.ref s.heap.objs.size) { s with heap := h' }) :
    wpAny (model prog w) A (Builtin.Frozenset.intersection id a (.ref b)) Q E s := by
  have la : a < s.heap.objs.size := by obtain ⟨o, _, _, _, h1, _⟩ := ga; exact Heap.lt_size h1
  have lb : b < s.heap.objs.size := by obtain ⟨o, _, _, _, h1, _⟩ := gb; exact Heap.lt_size h1
  unfold Builtin.Frozenset.intersection
  rw [if_neg (fun e => hab (Value.ref.inj (eq_of_beq e)))]
  refine wpAny_bind (base_ok ga.type (wpAny_bind (newSet_ok ?_)))
  refine wpAny_bind (wpAny_pure ?_)
  have up : ∀ c o, s.heap.get? c = some o -> (s.heap.push { cls := .type "set", dict := none, data := .set #[] 0 (.fresh 0 0 (ledIn w)) }).get? c = some o := fun c o e => Heap.get?_push_of_some _ e
  have ga1 := ga.keep (up a)
  have gb1 := gb.keep (up b)
  have gr1 : Good knd dec (ledIn w) (s.heap.push { cls := .type "set", dict := none, data := .set #[] 0 (.fresh 0 0 (ledIn w)) }) s.heap.objs.size [] := good_new (Heap.get?_push_size _ rfl)
  generalize hp : s.heap.push { cls := .type "set", dict := none, data := .set #[] 0 (.fresh 0 0 (ledIn w)) } = hq at up ga1 gb1 gr1 ⊢
  have fin : ∀ (h' : Heap) (kr : List κ), Heap.SameBut s.heap.objs.size hq h' -> Good knd dec (ledIn w) h' s.heap.objs.size kr -> (∀ k, k ∈ kr ↔ k ∈ ka /\ k ∈ kb) -> Q (.ref s.heap.objs.size) { s with heap := h' } := fun h' kr sb g m =>
    h h' kr g m fun c o hc e => by rw [sb.2 c (Nat.ne_of_lt hc)]; exact up c o e
  refine wpAny_bind (wpAny_holding (wpAny_bind (any_set (s := { s with heap := hq }) (Good.type (s := { s with heap := hq }) gb1) ?_)))
  simp only [↓reduceIte]
  refine wpAny_bind (wpAny_pure ?_)
  refine wpAny_bind (size_ok (s := { s with heap := hq }) gb1 (wpAny_bind (size_ok (s := { s with heap := hq }) ga1 ?_)))
  split
  · exact inter_loop (s := { s with heap := hq }) hdec id hn (Nat.ne_of_lt lb) (Nat.ne_of_lt la) gb1 ga1 gr1 fun h' kr sb g m => wpAny_pure (fin h' kr sb g fun k => by rw [m k, and_comm])
  · exact inter_loop (s := { s with heap := hq }) hdec id hn (Nat.ne_of_lt la) (Nat.ne_of_lt lb) ga1 gb1 gr1 fun h' kr sb g m => wpAny_pure (fin h' kr sb g m)
theorem and_ok (hdec : ∀ k v, knd.is k v = true -> dec v = k) {a b : Addr} {ka kb : List κ} (hn : ∀ k v, knd.is k v = true -> ∀ b, v ≠ .ref b) (hab : b ≠ a) (ga : Good knd dec (ledIn w) s.heap a ka) (gb : Good knd dec (ledIn w) s.heap b kb) {Q : Value -> Shared -> Prop}
    (h : ∀ (h' : Heap) (kr : List κ), Good knd dec (ledIn w) h' s.heap.objs.size kr -> (∀ k, k ∈ kr ↔ k ∈ ka /\ k ∈ kb) -> (∀ c o, c < s.heap.objs.size -> s.heap.get? c = some o -> h'.get? c = some o) -> Q (.ref s.heap.objs.size) { s with heap := h' }) :
    wpAny (model prog w) A (binaryOp .BitAnd (.ref a) (.ref b)) Q E s := by
  refine wpAny_binaryOp_same (op := .BitAnd) (T := "set") ga.type gb.type F.fills_set_and F.slot_set_and (wpAny_call_entry F.slot_set_and ga.type set_and_entry ?_ (F.args_set_and_2 _ _))
  refine wpAny_bind (m := Builtin.Frozenset.slot1 "__and__" ⟨[.ref a, .ref b], []⟩) ?_
  unfold Builtin.Frozenset.slot1 slotArgs
  refine wpAny_pure ?_
  dsimp only
  refine wpAny_bind (wpAny_bind (any_set ga.type ?_))
  refine any_set gb.type ?_
  simp only [Bool.not_true, Bool.false_eq_true, ↓reduceIte]
  refine wpAny_bind (wpAny_pure (wpAny_bind (inter_ok hdec _ hn hab ga gb fun h' kr g m k => wpAny_pure ⟨.ref s.heap.objs.size, rfl, ?_, h h' kr g m k⟩)))
  exact fun z => Value.noConfusion z
end
end SetP
namespace L2
open PySem PySem.Spec PyProof.Rows SetP
section
variable {X : Cx}
def tAndS (ta tb : TSt) : TSt := fun σ H Q => ta σ H fun ks H1 => tb σ H1 fun js H2 => ∀ rs : List Int, rs.Nodup -> (∀ z, z ∈ rs ↔ z ∈ ks /\ z ∈ js) -> Q rs H2
theorem pst_and {a b : Expr} {ta tb : TSt} {pos : Pos} (ha : PSt X a ta) (hb : PSt X b tb) : PSt X (.BinOp a .BitAnd b pos) (tAndS ta tb) := by
  intro pins s σ H Q I h
  refine wpAny_BinOp (thn (ha pins s σ H _ I h) fun u s1 ⟨p, ks, H1, e, I1, g, fo, h1⟩ => ?_)
  subst e
  obtain ⟨o, es, ep, t, go, gx, gd, _⟩ := id g
  have I1' := I1.pinned (fp := [p]) (fun b hb => by rw [List.mem_singleton.mp hb]; exact fo) (fun b hb => by
    rw [List.mem_singleton.mp hb]
    exact ⟨o, go, fun v z => by rw [gd] at z; cases z⟩)
  refine thn (hb _ s1 σ H1 _ I1' h1) fun u2 s2 ⟨p2, js, H2, e2, I2, g2, fo2, q2⟩ => ?_
  subst e2
  have pm : (p, o) ∈ X.pn ++ (pins ++ pinsAt [p] s1.heap) := List.mem_append_right _ (List.mem_append_right _ (vO (List.mem_singleton.mpr rfl) go))
  have kp : s2.heap.get? p = some o := (I2.pin (p, o) pm).1
  have g1 := g.keep (h' := s2.heap) fun o' e' => by rw [go] at e'; cases e'; exact kp
  have ne : p2 ≠ p := Ne.symm (fo2.2.2.2.2.2 (p, o) pm)
  have I3 := I2.unpinned
  refine and_ok dec_ok (fun k v hk b z => ?_) ne g1 g2 fun h' kr g3 m k => ?_
  · obtain ⟨t, rfl⟩ := Value.isInt_shape hk
    cases z
  · have I4 := I3.kept (h' := h') (t' := s2.toks) fun b o e => k b o (Heap.lt_size e) e
    obtain ⟨_, _, _, _, _, _, _, _, _, nd, _⟩ := id g3
    exact ⟨_, kr, H2, rfl, I4, g3, I3.fpOk (Nat.le_refl _) (I3.hok.fresh (Nat.le_refl _)), q2 kr nd m⟩
end
end L2
namespace Ts
open PySem L2
def uandM (ns ms : List Int) : Option (List Int) := if ns.length < 64 /\ ms.length < 4000 then some (usort (ns.filter fun z => decide (z ∈ ms))) else none
section
variable {K : PySem.W.Frag} {B : Bs} {sl : List (Slot K)} {md : Md} {t1 t2 : TE}
theorem eo_sortAnd {m1 m2 : Option (List Int)} (h1 : Ex B sl .hp t1 m1) (h2 : Ex B sl .hp t2 m2) : Eo B sl md (tSorted (tAndS (tSetL K t1) (tSetL K t2))) (m1.bind fun a => m2.bind fun b => uandM a b) := fun c hc F O H σ Q s k => by
  obtain ⟨ns, ms, ha, hb, hf⟩ := bind2 hc
  unfold uandM at hf
  split at hf
  case isFalse => cases hf
  rename_i hl
  cases hf
  refine h1 ns ha F O H σ _ s fun v F' H' g r1 => ?_
  obtain ⟨p, vs, rfl, z1, z2⟩ := r1
  have z3 : vs = ns.map V.int := z2.vals
  subst z3
  refine ⟨p, ns, rfl, SqL.of z1, by omega, fun ks nd hm => ?_⟩
  refine h2 ms hb F' O H' σ _ (s.grow g) fun w F2 H2 g2 r2 => ?_
  obtain ⟨p', vs', rfl, y1, y2⟩ := r2
  have y3 : vs' = ms.map V.int := y2.vals
  subst y3
  refine ⟨p', ms, rfl, SqL.of y1, hl.2, fun js jd hj rs rd hr => ⟨Nat.lt_of_le_of_lt (sub_len rd fun z hz => (hm z).mp ((hr z).mp hz).1) hl.1, fun l us hn p1 p2 => ?_⟩⟩
  have e : us = usort (ns.filter fun z => decide (z ∈ ms)) := lt_uniq (uZ p2 (p1.nodup_iff.mpr rd)) (usort_lt _) fun z => by rw [p1.mem_iff, hr, hm, hj, mem_usort, List.mem_filter, decide_eq_true_iff]
  subst e
  exact k l _ F2 H2 (g.trans g2) hn (a2_ints _)
end
end Ts
namespace L2
open PySem PySem.Spec PyProof.Rows
section
variable {X : Cx}
theorem ip_or : PIp X .BitOr (ipI fun i j => Builtin.bitOr i j) := by
  intro pins s σ H x y v u Q I r1 r2 h
  obtain ⟨i, j, e1, e2, q⟩ := h
  subst e1; subst e2
  obtain ⟨t, rfl⟩ := r1
  obtain ⟨t', rfl⟩ := r2
  exact ior_int ⟨.int _, H, I.tok _, ⟨_, rfl⟩, q⟩
def rGetL (K : PySem.W.Frag) : V -> V -> Hp -> VK -> Prop := fun x y H Q => ∃ p xs i v, x = .ref p /\ y = .int i /\ 0 <= i /\ SqL K H p xs /\ atI xs i = some v /\ Q v H
theorem get_listK (K : PySem.W.Frag) (h : X.K = K := by rfl) : PGet X (rGetL K) := by
  subst h
  intro pins s σ H o i ov iv Q I rx ry h
  obtain ⟨p, xs, i, z, rfl, rfl, h0, hq, he, q⟩ := h
  cases rx
  obtain ⟨t, rfl⟩ := ry
  obtain ⟨its, r, pl, hz⟩ := I.list hq
  obtain ⟨j, h1, h2, h3, h4, h5⟩ := atI_get he
  obtain ⟨w, ew, rw'⟩ := r.get h2
  have hl := r.length
  have hn := line63
  have hj : i.toNat = j := by
    rw [seqIndex_of h0 h5] at h1
    exact Option.some.inj h1
  exact wpAny_getItem_list pl.isList h0 (by omega) (by rw [hj]; simpa using ew) ⟨z, H, I, rw', q⟩
theorem pt_truthK (K : PySem.W.Frag) {a : Expr} {ta : TE} (ha : PE X a ta) (hK : X.K = K := by rfl) (he : ∀ whole, isTrue a X.env whole = (do let v <- whole; standAt a.pos; holding [v] (truthy v)) := by intro _; rfl) :
    PT X a (fun σ H Q => ta σ H fun x H' => ∃ k, TruV K x H' k /\ Q k H') := by
  subst hK
  exact pt_truth ha he
end
end L2
namespace Ts
open PySem L2
def shlM (a b : Int) : Option Int := if 0 <= b /\ b <= 1000000 /\ a.natAbs < 2 ^ 64 then some (a * 2 ^ b.toNat) else none
def shrM (a b : Int) : Option Int := if 0 <= b then some (a / 2 ^ b.toNat) else none
section
variable {K : PySem.W.Frag} {B : Bs} {sl : List (Slot K)} {md : Md} {t t1 t2 te : TE} {m1 m2 : Option Int}
theorem ex_band (h1 : Ex B sl .hp t1 m1) (h2 : Ex B sl .hp t2 m2) : Ex B sl md (tOp (rI0 fun i j => .int (Builtin.bitAnd i j)) t1 t2) (m1.bind fun a => m2.bind fun b => some (Builtin.bitAnd a b)) := ex_rI0 (fun _ _ => rfl) h1 h2
theorem ex_shl (h1 : Ex B sl .hp t1 m1) (h2 : Ex B sl .hp t2 m2) : Ex B sl md (tOp (rI CPow fun i j => .int (i * 2 ^ j.toNat)) t1 t2) (m1.bind fun a => m2.bind fun b => shlM a b) :=
  ex_op (f := shlM) (fun a b c v w H Q e r1 r2 q => by
    unfold shlM at e
    split at e
    case isFalse => cases e
    rename_i hc
    cases e; cases r1; cases r2
    exact ⟨a, b, rfl, rfl, hc, q⟩) h1 h2
theorem ex_shr (h1 : Ex B sl .hp t1 m1) (h2 : Ex B sl .hp t2 m2) : Ex B sl md (tOp (rI (fun _ j => 0 <= j) fun i j => .int (i / 2 ^ j.toNat)) t1 t2) (m1.bind fun a => m2.bind fun b => shrM a b) :=
  ex_op (f := shrM) (fun a b c v w H Q e r1 r2 q => by
    unfold shrM at e
    split at e
    case isFalse => cases e
    rename_i hc
    cases e; cases r1; cases r2
    exact ⟨a, b, rfl, rfl, hc, q⟩) h1 h2
theorem et_int {m : Option Int} (h : Ex B sl .hp t m) : Et B sl (fun σ H Q => t σ H fun x H' => ∃ k, TruV K x H' k /\ Q k H') (m.bind fun i => some (i != 0)) := fun c hc F O H σ Q s k => by
  cases m with
  | none => cases hc
  | some i =>
    cases (show some (i != 0) = some c from hc)
    refine h i rfl F O H σ _ s fun v F' H' g r => ?_
    cases r
    exact ⟨_, rfl, k F' H' g⟩
def extM (xs ys : List Int) : Option (List Int) := if xs.length + ys.length < cap then some (xs ++ ys) else none
theorem sn_extend {n : Bool} {xs : List Int} {m : Option (List Int)} (i : Nat) (hs : sl[i]? = some (.ow n xs)) (hh : sl.all (fun s => !isHs s) = true) (h : Ex B sl .hp te m) :
    Sn B sl (tDrop (tBM K "list" rExtend (tVar i) (tCons te tNil))) (fun ys => sl.set i (.ow n ys)) (m.bind fun a => extM xs a) := fun ys ha G D σ H s k => by
  cases m with
  | none => cases ha
  | some a =>
    have ha' : extM xs a = some ys := ha
    unfold extM at ha'
    split at ha'
    case isFalse => cases ha'
    rename_i hl
    cases ha'
    obtain ⟨F, O, g, z⟩ := s
    obtain ⟨p, vs, h1, h2, h3, _⟩ := z.chg hs hh
    refine ⟨_, h1, .inl ⟨rfl, _, SqL.of h2⟩, ?_⟩
    refine h a rfl F O H σ _ z fun v F' H' gr r => ?_
    obtain ⟨p', vs', h1', h2', h3', h4'⟩ := (z.grow gr).chg hs hh
    have e := h1.symm.trans h1'
    cases e
    obtain ⟨q, us, rfl, z1, z2⟩ := r
    have z3 : us = a.map V.int := z2.vals
    subst z3
    have e3 : vs' = xs.map V.int := h3'.vals
    subst e3
    obtain ⟨O', z'⟩ := h4' (xs.map V.int ++ a.map V.int) (xs ++ a) (by rw [<- List.map_append]; exact a2_ints _)
    exact ⟨p, q, _, _, rfl, rfl, h2', z1, by rw [List.length_map, List.length_map]; exact Nat.le_of_lt (cap_lt hl), k _ _ ⟨F', O', g.trans gr.ff, z'⟩⟩
def augM (f : Int -> Int -> Int) (xs : List Int) (ix : Int) (y : Int) : Option (List Int) := if 0 <= ix then (L2.atI xs ix).bind fun x => setAt xs ix (f x y) else none
theorem sn_augix {n : Bool} {xs : List Int} {mi : Option Int} {m : Option Int} {ti : TE} {f : Int -> Int -> Int} (i : Nat) (hs : sl[i]? = some (.ow n xs)) (hh : sl.all (fun s => !isHs s) = true) (hi : Ex B sl .hp ti mi) (hv : Ex B sl .hp te m) :
    Sn B sl (tAugS (tVar i) ti te (rGetL K) (ipI f) rSetL) (fun ys => sl.set i (.ow n ys)) (mi.bind fun k => m.bind fun a => augM f xs k a) := fun ys ha G D σ H s k => by
  obtain ⟨ix, a, e1, e2, ha'⟩ := bind2 ha
  unfold augM at ha'
  split at ha'
  case isFalse => cases ha'
  rename_i h0
  obtain ⟨x, ex, ha'⟩ := Option.bind_eq_some_iff.mp ha'
  obtain ⟨F, O, g, z⟩ := s
  obtain ⟨p, vs, h1, h2, h3, _⟩ := z.chg hs hh
  refine ⟨_, h1, ?_⟩
  refine hi ix e1 F O H σ _ z fun v F' H' gr r => ?_
  cases r
  obtain ⟨p', vs', h1', h2', h3', h4'⟩ := (z.grow gr).chg hs hh
  have e := h1.symm.trans h1'
  cases e
  obtain ⟨xv, exv, rx⟩ := h3'.atI ex
  have rx : xv = .int x := Sc.is.mp rx
  subst rx
  refine ⟨p, vs', ix, _, rfl, rfl, h0, SqL.of h2', exv, ?_⟩
  refine hv a e2 F' O H' σ _ (z.grow gr) fun w F2 H2 gr2 rw => ?_
  cases rw
  obtain ⟨p2, vs2, y1, y2, y3, y4⟩ := ((z.grow gr).grow gr2).chg hs hh
  have e := h1.symm.trans y1
  cases e
  refine ⟨x, a, rfl, rfl, ?_⟩
  unfold setAt at ha'
  cases ej : ixN xs.length ix with
  | none => rw [ej] at ha'; cases ha'
  | some jj =>
    rw [ej] at ha'
    cases ha'
    obtain ⟨O', z'⟩ := y4 (vs2.set jj (.int (f x a))) (xs.set jj (f x a)) (y3.set (Sc.is.mpr rfl) jj)
    exact ⟨p, vs2, ix, jj, rfl, rfl, y2, by rw [y3.len, ej], k _ _ ⟨F2, O', (g.trans gr.ff).trans gr2.ff, z'⟩⟩
end
end Ts
namespace Ts
open PySem L2
section
variable {K : PySem.W.Frag} {B : Bs} {sl : List (Slot K)} {F H H2 : Hp} {O : Own} {σ : St} {te : TE}
end
end Ts
namespace Ts
open PySem L2
section
variable {K : PySem.W.Frag} {B : Bs} {sl sl2 : List (Slot K)} {G F H : Hp} {O : Own} {σ : St} {te : TE}
theorem sn_tup2 {α β : Type} [Rp K α] [Rp K β] {m : Option (α × β)} {n : Bool} {g : TG} {L : α × β -> List (Slot K)} (h : Ex B sl (mdb n) te m) (hg : Tg B sl n g L) : Sn B sl (tAsg te g) L m := fun a ha G D σ H s k => by
  obtain ⟨F, O, g0, z⟩ := s
  exact h a ha F O H σ _ z fun v F' H' gr r => hg v a F' O H' σ _ (z.grow gr) r fun σ' z' => k _ _ ⟨F', O, g0.trans gr.ff, z'⟩
inductive LeD {α : Type} [Rp K α] (kvs : List (Key × α)) : List (Slot K) -> List (Slot K) -> Prop
  | here {a : List (Slot K)} : LeD kvs (.od kvs :: a) (.fz false (Dc.mk kvs) :: a)
  | skip {s : Slot K} {a b : List (Slot K)} : LeD kvs a b -> LeD kvs (s :: a) (s :: b)
theorem SlotsOk.leD {α : Type} [Rp K α] {kvs : List (Key × α)} {P : Own} (h : LeD kvs sl sl2) : ∀ {F : Hp} {σ : St} {O : Own}, Ok B F (P ++ O) H -> SlotsOk B F (lo F (P ++ O) H) H sl σ O -> ∃ F' O', Same F F' /\ Ok B F' (P ++ O') H /\ Same (lo F (P ++ O) H) (lo F' (P ++ O') H) /\ SlotsOk B F' (lo F' (P ++ O') H) H sl2 σ O' := by
  induction h generalizing P with
  | here =>
    intro F σ O k h
    cases h with
    | @od _ _ _ _ _ O p ks r h =>
      obtain ⟨a1, a2, a3⟩ := k.one
      have sf : Same F (upd F p (.dK ks)) := xV a1 _
      exact ⟨upd F p (.dK ks), O, sf, k.freeze, lo_freeze, .fz ⟨p, ks, rfl, zR, r.imp fun _ _ z => ⟨z.1, Rp.mono sf z.2⟩⟩ (h.mono sf lo_freeze (.refl _))⟩
  | skip _ ih =>
    intro F σ O k h
    cases h with
    | un h => obtain ⟨F', O', a, b, c, d⟩ := ih k h; exact ⟨F', O', a, b, c, .un d⟩
    | fz r h => obtain ⟨F', O', a, b, c, d⟩ := ih k h; exact ⟨F', O', a, b, c, .fz (Rp.mono (wN _ a) r) d⟩
    | hs r h => obtain ⟨F', O', a, b, c, d⟩ := ih k h; exact ⟨F', O', a, b, c, .hs r d⟩
    | nu r h => obtain ⟨F', O', a, b, c, d⟩ := ih k h; exact ⟨F', O', a, b, c, .nu (Rp.mono (xS c) r) d⟩
    | @ow _ _ _ _ _ _ O p vs r h =>
      have e : P ++ (p, HO.lst vs) :: O = (P ++ [(p, HO.lst vs)]) ++ O := by simp
      rw [e] at k h
      obtain ⟨F', O', a, b, c, d⟩ := ih k h
      have e' : (P ++ [(p, HO.lst vs)]) ++ O' = P ++ (p, HO.lst vs) :: O' := by simp
      rw [e'] at b c d
      rw [<- e] at c
      exact ⟨F', _ :: O', a, b, c, .ow (r.imp fun _ _ => Rp.mono (wN _ a)) d⟩
    | @od _ _ _ _ _ O p vs r h =>
      have e : P ++ (p, HO.dK vs) :: O = (P ++ [(p, HO.dK vs)]) ++ O := by simp
      rw [e] at k h
      obtain ⟨F', O', a, b, c, d⟩ := ih k h
      have e' : (P ++ [(p, HO.dK vs)]) ++ O' = P ++ (p, HO.dK vs) :: O' := by simp
      rw [e'] at b c d
      rw [<- e] at c
      exact ⟨F', _ :: O', a, b, c, .od (r.imp fun _ _ z => ⟨z.1, Rp.mono a z.2⟩) d⟩
theorem Sg.leD {α : Type} [Rp K α] {kvs : List (Key × α)} (h : Sg B G sl σ H) (l : LeD kvs sl sl2) : Sg B G sl2 σ H := by
  obtain ⟨F, O, g, k, s⟩ := h
  obtain ⟨F', O', a, b, _, d⟩ := SlotsOk.leD (P := []) l k s
  exact ⟨F', O', g.trans a, b, d⟩
theorem sn_preD {α : Type} [Rp K α] {kvs : List (Key × α)} {t : TS} {S : Type} {L : S -> List (Slot K)} {m : Option S} (l : LeD kvs sl sl2) (h : Sn B sl2 t L m) : Sn B sl t L m := fun a ha G D σ H q k => h a ha G D σ H (q.leD l) k
end
end Ts
namespace Ts
open PySem L2
section
variable {K : PySem.W.Frag} {B : Bs} {sl : List (Slot K)} {md : Md} {t t2 : TE} {α β : Type} [Rp K α] [Rp K β]
end
end Ts
namespace Ts
open PySem L2
def top (i : Nat) : Stmt := PySem.Challenge.pw_treesay_k36_the_core_by_closure.main.body.getD i (.Pass ⟨0, 0, 0, 0⟩)
abbrev s_flags : Stmt := top 2
abbrev s_shared : Stmt := top 3
abbrev s_distances : Stmt := top 5
abbrev s_comes_to : Stmt := top 6
abbrev s_bits_of : Stmt := top 8
abbrev s_onward_bits : Stmt := top 9
abbrev s_rings : Stmt := top 10
abbrev s_missed_by : Stmt := top 11
abbrev s_fair_rings : Stmt := top 12
abbrev s_joined : Stmt := top 13
abbrev s_core : Stmt := top 14
abbrev s_is_stand : Stmt := top 25
abbrev s_check_stands : Stmt := top 26
abbrev s_check_steps : Stmt := top 27
abbrev s_is_name : Stmt := top 28
abbrev s_check_marks : Stmt := top 29
abbrev s_check_fair : Stmt := top 30
abbrev s_copied : Stmt := top 31
abbrev sSources : Stmt := top 32
abbrev sInit : Stmt := inClass (top 33) 0
abbrev s_Machine_many : Stmt := inClass (top 33) 1
abbrev s_Machine_next_of : Stmt := inClass (top 33) 2
abbrev s_Machine_before : Stmt := inClass (top 33) 3
abbrev s_Machine_fair_at : Stmt := inClass (top 33) 6
abbrev s_l_cell_at : Stmt := top 35
abbrev s_l_whole : Stmt := top 36
abbrev s_l_mix : Stmt := top 37
abbrev s_l_steps_by : Stmt := top 38
abbrev s_l_set_by : Stmt := top 39
abbrev s_l_fair_by : Stmt := top 40
abbrev s_l_small_by : Stmt := top 41
abbrev s_l_line_by : Stmt := top 42
abbrev s_l_reach : Stmt := top 43
abbrev s_l_again : Stmt := top 44
abbrev s_l_meets : Stmt := top 45
abbrev s_l_core : Stmt := top 46
abbrev s_law : Stmt := top 47
end Ts
namespace Ts
open PySem L2
section
variable {P : Program} {w : World} {K : PySem.W.Frag} {mg : Str -> Option Value} {base : Heap}
def spSo (K : PySem.W.Frag) : Sp := fun vs H Q _ => ∃ (a : Addr) (bs : List Addr) (xss : List (List Int)), vs = [.ref a] /\ SqL K H a (bs.map V.ref) /\ RowsR K H bs xss /\ xss.length <= 60 /\ Valid xss.length xss /\
  ∀ (r : Addr) (cs : List Addr) (H' : Hp), Same H H' -> H r = none -> H' r = some (.lst (cs.map V.ref)) -> cs.length = xss.length -> RowF H' cs (src xss) -> (∀ c ∈ cs, H c = none) -> Q (.ref r) H'
theorem scSo : FnScope ["steps", "sources", "stand", "targets", "target"] ["steps"] (defScope sSources) := ⟨rfl, rfl, rfl, by decide +kernel, rfl, by decide +kernel, by decide +kernel⟩
theorem ndSd : (["stand"] : List Str).Nodup := by decide +kernel
theorem nd_inj {cs : List Addr} (nd : cs.Nodup) {i j : Nat} {c : Addr} (h1 : cs[i]? = some c) (h2 : cs[j]? = some c) : i = j := by
  obtain ⟨k1, e1⟩ := List.getElem?_eq_some_iff.mp h1
  obtain ⟨k2, e2⟩ := List.getElem?_eq_some_iff.mp h2
  exact (List.getElem_inj nd).mp (e1.trans e2.symm)
theorem RowF.put {H : Hp} {cs : List Addr} {row row' : Nat -> List Int} (r : RowF H cs row) (nd : cs.Nodup) {j : Nat} {c : Addr} (hc : cs[j]? = some c) {xs : List Int} (e : row' j = xs) (e' : ∀ k, k ≠ j -> row' k = row k) : RowF (upd H c (.lst (xs.map V.int))) cs row' := fun k d hd => by
  by_cases hk : k = j
  · subst hk
    rw [hc] at hd
    cases hd
    rw [zR, e]
  · rw [zQ (fun z => hk (nd_inj nd hd (by rw [z]; exact hc))), e' k hk]
    exact r k d hd
theorem ok_so {f : Addr} {fd : FuncData} (F : Fun K "sources_of" "sources_of" sSources f fd) (B : Bl K mg) : FnOk P w K mg base CX0 1 f fd ["steps"] (spSo K) := by
  refine F.ok scSo (fun vs H Q E h => ?_) (fun cdv A outer s H vs Q E hr h => ?_)
  · obtain ⟨a, bs, xss, rfl, _⟩ := h
    rfl
  obtain ⟨a, bs, xss, rfl, hS, hR, h60, hV, q⟩ := h
  have hbl : (bs.map V.ref).length = xss.length := by rw [List.length_map]; exact hR.1
  refine ⟨_, zA (ps_comp (i := 1) (own := ["stand"]) (ix := []) scSo.nd rfl rfl rfl rfl rfl (pi_list (pv 0)) (fun C s H fp => zL (i := 0) ndSd rfl (Or.inl rfl)) (fun C s H fp => vA) (fun C s H fp => xT zF))
    (zA (yP PassesOwn.never rfl (pi_enum rfl B.enum (zB (pv 0) zF)) (pg_tup rfl (xG (zL (i := 2) scSo.nd rfl (Or.inl rfl)) (xG (zL (i := 3) scSo.nd rfl (Or.inl rfl)) uT)))
      (pss_one (yP PassesOwn.never rfl (pi_list (pv 3)) (zL (i := 4) scSo.nd rfl (Or.inl rfl))
        (pss_one (yU (pe_bm PySem.F.plainAttrs_list PySem.F.slot_list_append PySem.F.type_list_append yT (uB ix_list (pv 1) (pv 4) (fun _ _ => rfl)) (zB (pv 2) zF)))))))
    (pss_one (yA (pv 1)))), ?_⟩
  refine ⟨_, rfl, a, rfl, ⟨_, hS⟩, comp_list (K := K) (a := a) (xs := bs.map V.ref) (fun i ys σ H2 => ∃ (cs : List Addr) (v : Option V), ys = cs.map V.ref /\ σ = [v] /\ Same H H2 /\ News H H2 cs (List.replicate i []) /\ cs.length = i)
    ⟨[], none, rfl, rfl, Same.refl H, News.nil, rfl⟩ (fun i ys σ H2 _ ⟨cs, v, e, _, s2, _, hi⟩ => ⟨s2.seq hS, by rw [e, List.length_map, hi]; exact Nat.le_refl _⟩) (small1000 (by omega)) ?_ ?_⟩
  · rintro i y ys σ H2 hi ⟨cs, v, rfl, rfl, s2, hN, hci⟩
    refine name_if0 ?_
    refine ⟨(by show 0 <= sizeLine; decide), fun l hl' => ?_⟩
    refine ⟨cs ++ [l], _, by rw [List.map_append] <;> rfl, rfl, s2.trans (xV hl' _), ?_, by rw [List.length_append, hci] <;> rfl⟩
    have e : List.replicate (i + 1) ([] : List V) = List.replicate i [] ++ [[]] := List.replicate_succ'
    rw [e]
    exact hN.snoc s2 hl'
  rintro ys σ H2 ⟨cs, v, rfl, rfl, s2, hN, hci⟩ r hr0
  have hcl : cs.length = xss.length := by rw [hci, hbl]
  have s3 : Same H (upd H2 r (.lst (cs.map V.ref))) := s2.trans (xV hr0 _)
  have hrH : H r = none := s2.free hr0
  have nrc : r ∉ cs := hN.notin hr0
  have R0 : RowF (upd H2 r (.lst (cs.map V.ref))) cs (src (xss.take 0)) := fun j c hc => by
    obtain ⟨xs, h1, h2⟩ := hN.at_ j c hc
    have e : xs = [] := by
      rw [List.getElem?_replicate] at h1
      split at h1
      · exact (Option.some.inj h1).symm
      · cases h1
    subst e
    rw [zQ (fun z => nrc (by rw [<- z]; exact List.mem_of_getElem? hc)), h2]
    rfl
  refine ⟨_, rfl, a, rfl, ⟨_, s3.seq hS⟩, for_enum (K := K) (a := a) (xs := bs.map V.ref) (fun i σ H4 => ∃ u v t, σ = [some (.ref a), some (.ref r), u, v, t] /\ Same H H4 /\ H4 r = some (.lst (cs.map V.ref)) /\ RowF H4 cs (src (xss.take i)))
    ⟨none, none, none, rfl, s3, zR, R0⟩ (fun i σ H4 _ ⟨_, _, _, _, s4, _⟩ => s4.seq hS) ?_ ?_⟩
  · rintro i x t σ H4 hi ht ⟨u, v, t', rfl, s4, hr4, R4⟩
    obtain ⟨b, rfl, hb⟩ := ref_at hi
    obtain ⟨xs, hx, hsq⟩ := hR.2 i b hb
    obtain ⟨ne, nd, len, vr⟩ := hV.2 xs (List.mem_of_getElem? hx)
    have il := yR hx
    have st : Same H4 (upd H4 t (.tup [.int i, .ref b])) := xV ht _
    have s5 := s4.trans st
    refine ⟨t, _, rfl, SqT.of zR, rfl, _, _, rfl, _, _, rfl, rfl, ?_⟩
    refine ⟨_, rfl, b, rfl, ⟨_, s5.seq hsq⟩, for_list (K := K) (a := b) (xs := xs.map V.int) (fun m σ H6 => ∃ tt, σ = [some (.ref a), some (.ref r), some (.int i), some (.ref b), tt] /\ Same H H6 /\ H6 r = some (.lst (cs.map V.ref)) /\
      RowF H6 cs fun j => src (xss.take i) j ++ (if (j : Int) ∈ xs.take m then [(i : Int)] else [])) ⟨t', rfl, s5, st _ _ hr4, fun j c hc => ?_⟩ (fun m σ H6 _ ⟨_, _, s6, _⟩ => s6.seq hsq) ?_ ?_⟩
    · rw [st _ _ (R4 j c hc)]
      simp
    · rintro m y σ H6 hm ⟨tt, rfl, s6, hr6, R6⟩
      obtain ⟨z, rfl, hz⟩ := int_at hm
      obtain ⟨z0, z1⟩ := vr z (List.mem_of_getElem? hz)
      have zl : z.toNat < cs.length := by rw [hcl]; omega
      have hc : cs[z.toNat]? = some cs[z.toNat] := List.getElem?_eq_getElem zl
      have hz' : ((z.toNat : Nat) : Int) = z := by omega
      have hrow := R6 z.toNat _ hc
      have hno : ¬ z ∈ xs.take m := notin_take nd hz
      simp only [hz', if_neg hno, List.append_nil] at hrow
      have hix : atI (cs.map V.ref) z = some (.ref cs[z.toNat]) := by
        have := atI_nat (ref_get hc)
        rw [hz'] at this
        exact this
      refine ⟨_, rfl, _, rfl, r, _, z, _, rfl, rfl, SqL.of hr6, hix, .inl ⟨rfl, _, SqL.of hrow⟩, _, rfl, _, _, _, rfl, rfl, hrow, ?_, ?_⟩
      · have := src_len (xss.take i) z.toNat
        rw [List.length_take] at this
        refine small1000 ?_
        rw [List.length_map]
        omega
      · have cH : H cs[z.toNat] = none := hN.new _ (List.mem_of_getElem? hc)
        have cr : r ≠ cs[z.toNat] := fun e => nrc (by rw [e]; exact List.mem_of_getElem? hc)
        refine ⟨_, rfl, s6.put cH _, by rw [zQ cr]; exact hr6, ?_⟩
        have em : (src (xss.take i) z.toNat).map V.int ++ [V.int i] = (src (xss.take i) z.toNat ++ [(i : Int)]).map V.int := by rw [List.map_append] <;> rfl
        rw [em]
        refine R6.put hN.nd hc ?_ fun k hk => ?_
        · rw [hz', if_pos ((wQ hz).mpr (.inr rfl))]
        · have hk' : ((k : Int) ∈ xs.take (m + 1)) = ((k : Int) ∈ xs.take m) := by
            rw [wQ hz]
            refine propext ⟨fun h => h.elim id fun e => absurd (by omega) hk, .inl⟩
          simp only [hk']
    · rintro σ H6 ⟨tt, rfl, s6, hr6, R6⟩
      refine ⟨_, _, _, rfl, s6, hr6, fun j c hc => ?_⟩
      rw [R6 j c hc, src_take hx j, List.length_map, List.take_length]
  · rintro σ H4 ⟨u, v, t, rfl, s4, hr4, R4⟩
    refine ⟨_, rfl, ?_⟩
    have e : xss.take (bs.map V.ref).length = xss := by rw [hbl]; exact List.take_length
    rw [e] at R4
    exact q r cs H4 s4 hrH hr4 hcl R4 hN.new
end
end Ts
namespace Ts
open PySem L2
structure FunD (K : PySem.W.Frag) (x qual : Str) (st : Stmt) (dV : Value) (f : Addr) (fd : FuncData) : Prop where
  ex : ∃ (oc : Value) (od : Option Addr) (kV doc pm : Value) (an : Option Addr) (cdv ct : Value) (osl : Array (Option Value)),
    fd = fnOf x qual (defArgs st) (defBody st) (defScope st) dV kV doc pm an cdv ct /\ K.lookup f = some ⟨oc, od, .func fd, osl⟩ /\ codeIn K cdv qual = true
  kp : keepIn K (.ref f) = true
section
variable {P : Program} {w : World} {K : PySem.W.Frag} {mg : Str -> Option Value} {base : Heap}
theorem FunD.ok {x qual : Str} {st : Stmt} {dV : Value} {f : Addr} {fd : FuncData} {N ps : List Str} {k : Nat} {sp : Sp} (F : FunD K x qual st dV f fd) (S : FnScope N ps (defScope st)) (len : ∀ vs H Q E, sp vs H Q E -> vs.length = ps.length)
    (hbody : ∀ (cdv : Value) (A : Around) (outer : List Env) (s : Shared) (H : Hp) (vs : List V) (Q : VK) (E : XK), Room k (A.deeper (PyProof.Rows.envOfC qual (defScope st) s.heap.objs.size f cdv)) -> sp vs H Q E ->
      ∃ t, PSs (cxOf CX0 P w K mg base N qual (defScope st) f cdv A outer s H E).nox (defBody st) t /\ t { nx := fun _ H' => Q .non H', rt := Q } (start N vs) H) : FnOk P w K mg base CX0 (k + 1) f fd ps sp := by
  obtain ⟨oc, od, kV, doc, pm, an, cdv, ct, osl, rfl, lk, hcd⟩ := F.ex
  refine fn_of lk hcd S len fun A outer s H vs Q E hr hsp => ?_
  obtain ⟨t, h, q⟩ := hbody cdv A outer s H vs Q E hr hsp
  exact ⟨t, h.nox, q⟩
structure Cl (K : PySem.W.Frag) (mg : Str -> Option Value) (C : Addr) : Prop where
  cl : Cls K C
  nS : NoAttr K C "steps"
  nM : NoAttr K C "marks"
  nF : NoAttr K C "fair"
  nB : NoAttr K C "sources"
  mgC : mg "Machine" = some (.ref C)
theorem scIn : FnScope ["self", "steps", "marks", "fair", "given_marks", "given_fair"] ["self", "steps", "marks", "fair"] (defScope sInit) := ⟨rfl, rfl, rfl, by decide +kernel, rfl, by decide +kernel, by decide +kernel⟩
theorem ndNs : (["name", "stands"] : List Str).Nodup := by decide +kernel
theorem uM (f : Str) (v : V) : ∀ fs : List (Str × V), (putF f v fs).length <= fs.length + 1
  | [] => Nat.le_refl _
  | (g, x) :: r => by
    unfold putF
    split
    · exact Nat.le_succ _
    · exact Nat.succ_le_succ (uM f v r)
theorem rows_of {R : Hp} : ∀ {vs : List V} {xss : List (List Int)}, A2 (rp K R) vs xss -> ∃ bs : List Addr, vs = bs.map V.ref /\ RowsR K R bs xss
  | [], [], _ => ⟨[], rfl, rfl, fun i b h => by simp at h⟩
  | v :: vs, xs :: xss, h => by
    obtain ⟨bs, e, h1, h2⟩ := rows_of h.2
    obtain ⟨p, ws, rfl, h3, h4⟩ := h.1
    have h5 : ws = xs.map V.int := h4.vals
    refine ⟨p :: bs, by rw [e, List.map_cons], by rw [List.length_cons, List.length_cons, h1], fun i b hb => ?_⟩
    cases i with
    | zero => simp at hb; subst hb; exact ⟨xs, rfl, SqL.of (by rw [h3, h5])⟩
    | succ i => exact h2 i b (by simpa using hb)
  | [], _ :: _, h => h.elim
  | _ :: _, [], h => h.elim
def fSo (xss : LLI) : Option LLI := if xss.length <= 60 /\ Valid xss.length xss then some (srcs xss) else none
theorem ok_soG {f : Addr} {fd : FuncData} (F : Fun K "sources_of" "sources_of" sSources f fd) (B : Bl K mg) : FnOk P w K mg base CX0 1 f fd ["steps"] (spF K false (fun a : LLI × Unit => ([.fz false a.1] : List (Slot K))) fun a => fSo a.1) := by
  refine (ok_so F B).imp fun vs H Q E h => ?_
  obtain ⟨⟨xss, ⟨⟩⟩, b, Fa, s, hb, r, q⟩ := h
  have hb : fSo xss = some b := hb
  unfold fSo at hb
  split at hb
  case isFalse => cases hb
  rename_i hv
  cases hb
  cases r with
  | cons r1 r2 =>
    cases r2
    obtain ⟨a, ws, rfl, h1, h2⟩ := r1
    obtain ⟨bs, rfl, h3⟩ := rows_of (K := K) h2
    refine ⟨a, bs, xss, rfl, SqL.of (s _ _ h1), h3.same s, hv.1, hv.2, fun rr cs H' s' hr e l R N => q _ _ s' ?_⟩
    refine ⟨rr, _, rfl, by show dif H' H rr = _; rw [uH hr]; exact e, ?_⟩
    exact rowf_rp (K := K) l R fun c hc o e => by show dif H' H c = _; rw [uH (N c hc)]; exact e
theorem ok_inG {k : Nat} {f C : Addr} {fd : FuncData} {dV : Value} {fS : LLI -> Option Unit} {fM : MKs -> Int -> Option Unit} {fF : LLI -> Int -> Option Unit} {fC fO : LLI -> Option LLI} (F : FunD K "__init__" "Machine.__init__" sInit dV f fd) (T : Cl K mg C) (B : Bl K mg)
    (CS : Cal P w K mg base k "check_steps" ["steps"] (spF K false (fun a : LLI × Unit => ([.fz false a.1] : List (Slot K))) fun a => fS a.1))
    (CM : Cal P w K mg base k "check_marks" ["marks", "many"] (spF K false (fun a : MKs × Int × Unit => ([.fz false a.1, .fz false a.2.1] : List (Slot K))) fun a => fM a.1 a.2.1))
    (CF : Cal P w K mg base k "check_fair" ["fair", "many"] (spF K false (fun a : LLI × Int × Unit => ([.fz false a.1, .fz false a.2.1] : List (Slot K))) fun a => fF a.1 a.2.1))
    (CC : Cal P w K mg base k "copied" ["lists"] (spF K false (fun a : LLI × Unit => ([.fz false a.1] : List (Slot K))) fun a => fC a.1))
    (CO : Cal P w K mg base k "sources_of" ["steps"] (spF K false (fun a : LLI × Unit => ([.fz false a.1] : List (Slot K))) fun a => fO a.1)) :
    FnOk P w K mg base CX0 (k + 1) f fd ["self", "steps", "marks", "fair"] (spInG K C (mkG C fS fM fF fC fO)) := by
  refine F.ok scIn (fun vs H Q E h => ?_) (fun cdv A outer s H vs Q E hr h => ?_)
  · obtain ⟨p, dx, vS, vM, vF, xss, mo, fo, M, rfl, _⟩ := h
    rfl
  obtain ⟨p, dx, vS, vM, vF, xss, mo, fo, M, rfl, hp, rS, rM, rF, hm, q⟩ := h
  unfold mkG at hm
  obtain ⟨⟨⟩, e1, hm⟩ := vD hm
  obtain ⟨⟨⟩, e2, hm⟩ := vD hm
  obtain ⟨⟨⟩, e3, hm⟩ := vD hm
  obtain ⟨a, e4, hm⟩ := vD hm
  obtain ⟨b, e5, hm⟩ := vD hm
  obtain ⟨c, e6, hm⟩ := vD hm
  obtain ⟨d, e7, hm⟩ := vD hm
  cases hm
  refine ⟨_, zA (zS (i := 4) scIn.nd rfl (Or.inl rfl) (pe_ifExp (vI (pc_isN (pv 2))) (xT zF) (pv 2)))
    (zA (zS (i := 5) scIn.nd rfl (Or.inl rfl) (pe_ifExp (vI (pc_isN (pv 3))) (xT zF) (pv 3)))
    (zA (yU (yO CS hr (zB (pv 1) zF)))
    (zA (yU (yO CM hr (zB (pv 4) (zB (yC (uA K) rfl B.len PySem.boot_len (zB (pv 1) zF)) zF))))
    (zA (yU (yO CF hr (zB (pv 5) (zB (yC (uA K) rfl B.len PySem.boot_len (zB (pv 1) zF)) zF))))
    (zA (ps_fld (pv 0) (yO CC hr (zB (pv 1) zF)) rfl)
    (zA (ps_fld (pv 0) (vC (own := ["name", "stands"]) (ix := []) rfl rfl rfl (yI K (pv 4)) (fun C s H fp => pg_tupK (K := K) (n := 2) rfl rfl (xG (zL (i := 0) ndNs rfl (Or.inl rfl)) (xG (zL (i := 1) ndNs rfl (Or.inl rfl)) uT))) (fun C s H fp => vA)
      (fun C s H fp => pe_tup (zB (pv 0) (zB (wK (c_listK K) rfl B.list uI (zB (pv 1) zF)) zF)))) rfl)
    (zA (ps_fld (pv 0) (yO CC hr (zB (pv 5) zF)) rfl)
    (pss_one (ps_fld (pv 0) (yO CO hr (zB (pe_fld (pv 0) rfl) zF)) rfl))))))))), ?_⟩
  have sg0 : Sg (K := K) ⟨hid H p, H⟩ (hid H p) [.fz false (RefTo.mk () : RefTo p), .fz false xss, .fz false mo, .fz false fo, .un, .un] [some (.ref p), some vS, some vM, some vF, none, none] H :=
    ⟨hid H p, [], .refl _, at_hid (.fz (show rp K _ _ (RefTo.mk () : RefTo p) from rfl) (.fz rS (.fz rM (.fz rF (.un (.un .nil))))))⟩
  refine (Sn.of (yJ false 4 rfl rfl (ex_ife (et_b (md := .hp) (ex_isN (zH 2 rfl))) (Eo.ex (wM (α := Str × List Int))) (ex_get (yE 2 rfl)))) (show _ = some (mo.getD []) by cases mo <;> rfl)) _ rfl (hid H p) _ _ H sg0 fun σ1 H1 sg1 => ?_
  refine (Sn.of (yJ false 5 rfl rfl (ex_ife (et_b (md := .hp) (ex_isN (zH 3 rfl))) (Eo.ex (wM (α := List Int))) (ex_get (yE 3 rfl)))) (show _ = some (fo.getD []) by cases fo <;> rfl)) _ rfl (hid H p) _ _ H1 sg1 fun σ2 H2 sg2 => ?_
  refine (Sn.of (sn_expr (md := .hp) (zO (f := fun a : LLI × Unit => fS a.1) (zG (zH 1 rfl) zU))) (show _ = fS xss from rfl)) () e1 (hid H p) _ _ H2 sg2 fun σ3 H3 sg3 => ?_
  refine (Sn.of (sn_expr (md := .hp) (zO (f := fun a : MKs × Int × Unit => fM a.1 a.2.1) (zG (zH 4 rfl) (zG (Ex.sc (md := .hp) (uP (zH 1 rfl))) zU)))) (show _ = fM (mo.getD []) (xss.length : Int) from rfl)) () e2 (hid H p) _ _ H3 sg3 fun σ4 H4 sg4 => ?_
  refine (Sn.of (sn_expr (md := .hp) (zO (f := fun a : LLI × Int × Unit => fF a.1 a.2.1) (zG (zH 5 rfl) (zG (Ex.sc (md := .hp) (uP (zH 1 rfl))) zU)))) (show _ = fF (fo.getD []) (xss.length : Int) from rfl)) () e3 (hid H p) _ _ H4 sg4 fun σ5 H5 sg5 => ?_
  obtain ⟨F5, O5, g5, k5, s5⟩ := sg5
  have s5 : SlotsOk (K := K) ⟨hid H p, H⟩ F5 (lo F5 O5 H5) H5 [.fz false (RefTo.mk () : RefTo p), .fz false xss, .fz false mo, .fz false fo, .fz false (mo.getD []), .fz false (fo.getD [])] σ5 O5 := s5
  cases s5 with | fz r0 s5 =>
  cases s5 with | fz r1 s5 =>
  cases s5 with | fz r2 s5 =>
  cases s5 with | fz r3 s5 =>
  cases s5 with | fz r4 s5 =>
  cases s5 with | fz r5 s5 =>
  cases s5
  rename_i v0 v1 v2 v3 v4 v5
  have r0 : v0 = .ref p := r0
  subst r0
  have hF : Same F5 (hid H5 p) := fun b o e => by
    by_cases z : b = p
    · subst z
      rcases k5.fa b o e with z | z
      · have z : hid H b b = some o := z
        rw [hid_eq] at z
        cases z
      · have z : H b = none := z
        rw [hp] at z
        cases z
    · rw [hid_ne z]; exact k5.fh b o e
  have r1 : rp K (hid H5 p) v1 xss := Rp.mono hF r1
  have r2 : rp K (hid H5 p) v2 mo := Rp.mono hF r2
  have r3 : rp K (hid H5 p) v3 fo := Rp.mono hF r3
  have r4 : rp K (hid H5 p) v4 (mo.getD []) := Rp.mono hF r4
  have r5 : rp K (hid H5 p) v5 (fo.getD []) := Rp.mono hF r5
  have s05 : Same H H5 := k5.h0
  have hp5 : H5 p = some (.ins C dx []) := s05 _ _ hp
  refine ⟨_, rfl, (xss, ()), a, H5, .refl _, e4, .cons (Rp.mono hid_le r1) .nil, fun y1 H6 s6 t1 => ?_⟩
  have t1 : rp K (dif H6 H5) y1 a := t1
  have hp6 := s6 _ _ hp5
  refine ⟨_, rfl, p, C, dx, [], rfl, hp6, T.cl, T.nS, (by show 0 < 1000; decide), ?_⟩
  have f1 := Rp.mono (new_in (H := H) (p := p) (fun b o _ e => s05 b o e) (by rw [hp5]; intro z; cases z)) t1
  have kp6 : ∀ b o, b ≠ p -> H b = some o -> (upd H6 p (.ins C dx (putF "steps" y1 []))) b = some o := fun b o n e => by rw [zQ n]; exact s6 _ _ (s05 _ _ e)
  have h6 : Same (hid H5 p) (hid (upd H6 p (.ins C dx (putF "steps" y1 []))) p) := by rw [uF]; exact uN s6
  have E2 : Ex (K := K) ⟨hid (upd H6 p (.ins C dx (putF "steps" y1 []))) p, upd H6 p (.ins C dx (putF "steps" y1 []))⟩ [.fz false (RefTo.mk () : RefTo p), .fz false xss, .fz false mo, .fz false fo, .fz false (mo.getD []), .fz false (fo.getD [])] .nw _ _ :=
    (wA (n := false) (slI := [.un, .un]) (no := 2) (ix := []) rfl rfl (yM (yE 4 rfl)) (tg_tup 0 1 rfl rfl (fun _ => rfl) rfl) (fun x => et_if0) (fun x => ex_tup2 (zD 0 rfl) (vX (zH 1 rfl)).ex) (fun x => Le0.un (Le0.un Le0.nil))).ex
  refine E2 b e5 (hid (upd H6 p (.ins C dx (putF "steps" y1 []))) p) [] _ _ _ (at_hid (.fz (show rp K _ _ (RefTo.mk () : RefTo p) from rfl) (.fz (Rp.mono h6 r1) (.fz (Rp.mono h6 r2) (.fz (Rp.mono h6 r3) (.fz (Rp.mono h6 r4) (.fz (Rp.mono h6 r5) .nil))))))) fun y2 F7 H7 g7 t2 => ?_
  have s7 := g7.hh
  have t2 : rp K (dif H7 (upd H6 p (.ins C dx (putF "steps" y1 [])))) y2 b := Rp.mono (xS g7.ok.fh) t2
  have hp7 : H7 p = some (.ins C dx (putF "steps" y1 [])) := s7 _ _ zR
  refine ⟨_, rfl, p, C, dx, _, rfl, hp7, T.cl, T.nM, (by show 1 < 1000; decide), ?_⟩
  have f2 := Rp.mono (new_in (H := H) (p := p) kp6 (by rw [zR]; intro z; cases z)) t2
  have kp7 : ∀ b o, b ≠ p -> H b = some o -> (upd H7 p (.ins C dx (putF "marks" y2 (putF "steps" y1 [])))) b = some o := fun b o n e => by rw [zQ n]; exact s7 _ _ (kp6 _ _ n e)
  have h7 : Same (hid (upd H6 p (.ins C dx (putF "steps" y1 []))) p) (hid (upd H7 p (.ins C dx (putF "marks" y2 (putF "steps" y1 [])))) p) := by rw [uF (H := H7)]; exact uN s7
  refine ⟨_, rfl, (fo.getD [], ()), c, _, .refl _, e6, .cons (Rp.mono (h6.trans (h7.trans hid_le)) r5) .nil, fun y3 H8 s8 t3 => ?_⟩
  have t3 : rp K (dif H8 (upd H7 p (.ins C dx (putF "marks" y2 (putF "steps" y1 []))))) y3 c := t3
  have hp8 : H8 p = some (.ins C dx (putF "marks" y2 (putF "steps" y1 []))) := s8 _ _ zR
  have l2 : (putF "marks" y2 (putF "steps" y1 [])).length < 1000 := by
    have a1 := uM "marks" y2 (putF "steps" y1 [])
    have a2 := uM "steps" y1 []
    have a3 : ([] : List (Str × V)).length = 0 := rfl
    omega
  refine ⟨_, rfl, p, C, dx, _, rfl, hp8, T.cl, T.nF, l2, ?_⟩
  have f3 := Rp.mono (new_in (H := H) (p := p) kp7 (by rw [zR]; intro z; cases z)) t3
  have kp8 : ∀ b o, b ≠ p -> H b = some o -> (upd H8 p (.ins C dx (putF "fair" y3 (putF "marks" y2 (putF "steps" y1 []))))) b = some o := fun b o n e => by rw [zQ n]; exact s8 _ _ (kp7 _ _ n e)
  have h8 : Same (hid (upd H7 p (.ins C dx (putF "marks" y2 (putF "steps" y1 [])))) p) (hid (upd H8 p (.ins C dx (putF "fair" y3 (putF "marks" y2 (putF "steps" y1 []))))) p) := by rw [uF (H := H8)]; exact uN s8
  have lk : (putF "fair" y3 (putF "marks" y2 (putF "steps" y1 []))).lookup ("steps" : Str) = some y1 := by
    rw [zX, if_neg (by decide +kernel), zX, if_neg (by decide +kernel), zX, if_pos rfl]
  have d1 : Same (dif (hid H6 p) (hid H p)) (hid (upd H8 p (.ins C dx (putF "fair" y3 (putF "marks" y2 (putF "steps" y1 []))))) p) := dif_le.trans ((by rw [uF]; exact .refl _ : Same (hid H6 p) (hid (upd H6 p (.ins C dx (putF "steps" y1 []))) p)).trans (h7.trans h8))
  refine ⟨_, rfl, p, C, dx, _, _, rfl, zR, T.cl, T.nS, lk, (a, ()), d, _, .refl _, e7, .cons (Rp.mono (d1.trans hid_le) f1) .nil, fun y4 H9 s9 t4 => ?_⟩
  have t4 : rp K (dif H9 (upd H8 p (.ins C dx (putF "fair" y3 (putF "marks" y2 (putF "steps" y1 [])))))) y4 d := t4
  have hp9 : H9 p = some (.ins C dx (putF "fair" y3 (putF "marks" y2 (putF "steps" y1 [])))) := s9 _ _ zR
  have l3 : (putF "fair" y3 (putF "marks" y2 (putF "steps" y1 []))).length < 1000 := by
    have a0 := uM "fair" y3 (putF "marks" y2 (putF "steps" y1 []))
    have a1 := uM "marks" y2 (putF "steps" y1 [])
    have a2 := uM "steps" y1 []
    have a3 : ([] : List (Str × V)).length = 0 := rfl
    omega
  refine ⟨_, rfl, p, C, dx, _, rfl, hp9, T.cl, T.nB, l3, ?_⟩
  have f4 := Rp.mono (new_in (H := H) (p := p) kp8 (by rw [zR]; intro z; cases z)) t4
  have kp9 : ∀ b o, b ≠ p -> H b = some o -> (upd H9 p (.ins C dx (putF "sources" y4 (putF "fair" y3 (putF "marks" y2 (putF "steps" y1 [])))))) b = some o := fun b o n e => by rw [zQ n]; exact s9 _ _ (kp8 _ _ n e)
  have u9 : Same (hid H9 p) (upd H9 p (.ins C dx (putF "sources" y4 (putF "fair" y3 (putF "marks" y2 (putF "steps" y1 [])))))) := (by rw [uF]; exact .refl _ : Same (hid H9 p) (hid (upd H9 p (.ins C dx (putF "sources" y4 (putF "fair" y3 (putF "marks" y2 (putF "steps" y1 [])))))) p)).trans hid_le
  have u8 : Same (hid H8 p) (hid H9 p) := (by rw [uF]; exact .refl _ : Same (hid H8 p) (hid (upd H8 p (.ins C dx (putF "fair" y3 (putF "marks" y2 (putF "steps" y1 []))))) p)).trans (uN s9)
  have u7 : Same (hid H7 p) (hid H8 p) := (by rw [uF]; exact .refl _ : Same (hid H7 p) (hid (upd H7 p (.ins C dx (putF "marks" y2 (putF "steps" y1 [])))) p)).trans (uN s8)
  have u6 : Same (hid H6 p) (hid H7 p) := (by rw [uF]; exact .refl _ : Same (hid H6 p) (hid (upd H6 p (.ins C dx (putF "steps" y1 []))) p)).trans (uN s7)
  refine q _ kp9 ⟨p, dx, putF "sources" y4 (putF "fair" y3 (putF "marks" y2 (putF "steps" y1 []))), y1, y2, y3, y4, rfl, ?_, ?_, Rp.mono (xS (u6.trans (u7.trans (u8.trans u9)))) f1, ?_, Rp.mono (xS (u7.trans (u8.trans u9))) f2, ?_, Rp.mono (xS (u8.trans u9)) f3, ?_, Rp.mono (xS u9) f4, ?_⟩
  · rw [uH hid_eq]; exact zR
  · rw [zX, if_neg (by decide +kernel)]; exact lk
  · rw [zX, if_neg (by decide +kernel), zX, if_neg (by decide +kernel), zX, if_pos rfl]
  · rw [zX, if_neg (by decide +kernel), zX, if_pos rfl]
  · rw [zX, if_pos rfl]
  · intro g hg
    simp only [mth, List.mem_cons, List.not_mem_nil, or_false] at hg
    rcases hg with rfl | rfl | rfl | rfl | rfl | rfl <;> (rw [zX, if_neg (by decide +kernel), zX, if_neg (by decide +kernel), zX, if_neg (by decide +kernel), zX, if_neg (by decide +kernel)]; rfl)
end
end Ts
namespace Ts
open PySem L2
section
variable {P : Program} {w : World} {K : PySem.W.Frag} {mg : Str -> Option Value} {base : Heap}
def wG (q0 : Int) (q1 : Int) : Option Bool := if (true) = true then if (!(false)) = true then if decide (((0 : Int)) <= (q0)) = true then some (decide ((q0) < (q1))) else some false else some false else some false
theorem sc_is_stand : FnScope ["thing", "many"] ["thing", "many"] (defScope s_is_stand) := ⟨rfl, rfl, rfl, by decide +kernel, rfl, by decide +kernel, by decide +kernel⟩
set_option maxHeartbeats 4000000 in
theorem ok_is_stand {k : Nat} {f : Addr} {fd : FuncData} (F : Fun K "is_stand" "is_stand" s_is_stand f fd) (B : Bl K mg) : FnOk P w K mg base CX0 (k + 1) f fd ["thing", "many"] (spF K false (fun a : Int × Int × Unit => ([.fz false a.1, .fz false a.2.1] : List (Slot K))) (fun a => wG a.1 a.2.1)) := by
  refine yQ F sc_is_stand (fun _ => rfl) (fun _ => rfl) fun cdv A outer s H E hr => ?_
  refine ⟨_, (zA (yA (pe_and (yC (c_isiK K (rel_ty (n := "int"))) rfl B.isi bt_isi (zB (pv 0) (zB (pe_bltn (v := .ty "int") rfl B.int bt_int rfl) zF))) (pe_and (pe_not (yC (c_isiK K (rel_ty (n := "bool"))) rfl B.isi bt_isi (zB (pv 0) (zB (pe_bltn (v := .ty "bool") rfl B.bool bt_bool rfl) zF)))) (pe_one (pe_chain op_le op_lt zK (pv 0) (pv 1)))))) zE), ?_⟩
  rintro Fa ⟨q0, q1, ⟨⟩⟩
  exact SB.of (yS (Ex.sc (md := .hp) (ex_and (ex_isi B.ii rfl (zD 0 rfl)) (ex_and (ex_not (ex_isi B.ib rfl (zD 0 rfl))) (ex_chain (f := (fun i j => decide (i <= j))) (g := (fun i j => decide (i < j))) (zJ 0) (zD 0 rfl) (zD 1 rfl)))))) (by unfold wG; simp only [bnd])
def zY (q0 : List Int) (q1 : Int) (q2 : Str) : Option Unit := (some ()).bind fun ahead1 => ((some (q0)).bind fun xs => foldM (fun (s2 : List (Key × Bool)) (x4 : Int) => (((wG (x4) (q1)).bind fun a5 => some (!(a5))).bind fun b => if b = true then none else some (())).bind fun s6 => (if ((dget ((Dc.mk s2)).kv (x4)).isSome) = true then none else some (())).bind fun s8 => (dput s2 (x4) (true)).bind fun ahead10 => some (ahead10)) xs (([] : List (Key × Bool)))).bind fun s3 => some (())
theorem sc_check_stands : FnScope ["stands", "many", "where", "ahead", "stand"] ["stands", "many", "where"] (defScope s_check_stands) := ⟨rfl, rfl, rfl, by decide +kernel, rfl, by decide +kernel, by decide +kernel⟩
set_option maxHeartbeats 4000000 in
theorem ok_check_stands {k : Nat} {f : Addr} {fd : FuncData} (F : Fun K "check_stands" "check_stands" s_check_stands f fd) (B : Bl K mg) (C_is_stand : Cal P w K mg base k "is_stand" ["thing", "many"] (spF K false (fun a : Int × Int × Unit => ([.fz false a.1, .fz false a.2.1] : List (Slot K))) (fun a => wG a.1 a.2.1))) : FnOk P w K mg base CX0 (k + 1) f fd ["stands", "many", "where"] (spF K false (fun a : ((List Int)) × Int × Str × Unit => ([.fz false a.1, .fz false a.2.1, .fz false a.2.2.1] : List (Slot K))) (fun a => zY a.1 a.2.1 a.2.2.1)) := by
  refine def_okN F sc_check_stands (fun _ => rfl) (fun _ => rfl) fun cdv A outer s H E hr => ?_
  have hu := hu_of hr
  refine ⟨_, (zA (zS (i := 3) sc_check_stands.nd rfl (by first|exact .inl rfl|exact .inr rfl) pe_dnewK) (zA (yP PassesOwn.never rfl (yI K (pv 0)) (zL (i := 4) sc_check_stands.nd rfl (by first|exact .inl rfl|exact .inr rfl)) (zA (xW (pt_not (pt_val (yO C_is_stand hr (zB (pv 4) (zB (pv 1) zF))))) vJ zE) (zA (xW (vI (pc_din hu (pv 4) (pv 3))) vJ zE) (zA (ps_dput hu (pv 3) (pv 4) uV rfl) zE)))) zE)), ?_⟩
  rintro Fa ⟨q0, q1, q2, ⟨⟩⟩
  exact ⟨_, Sn.of (zI (sn_dnew (α := Bool) 3 rfl rfl) (fun ahead1 => (zI (xE (n := false) (L := (fun s2 : List (Key × Bool) => ([.fz false (q0 : List Int), .fz false (q1 : Int), .fz false (q2 : Str), .od (s2 : List (Key × Bool)), .un] : List (Slot K)))) (([] : List (Key × Bool))) (Le.eq (Le.eq (Le.eq (Le.eq (Le.un Le.nil))))) (yM (yE 0 rfl)) (fun s2 => (zV 4 rfl rfl)) (fun s2 x4 => (zI (wR (et_not (et_b (md := .hp) (zO (zG (Ex.sc (md := .hp) (zD 4 rfl)) (zG (Ex.sc (md := .hp) (zD 1 rfl)) zU))))) uK (zM (fun s7 : Unit => ([.fz false (q0 : List Int), .fz false (q1 : Int), .fz false (q2 : Str), .od (s2 : List (Key × Bool)), .fz false (x4 : Int)] : List (Slot K))) (()) (Le.eq (Le.eq (Le.eq (Le.eq (Le.eq Le.nil))))))) (fun s6 => (zI (wR (et_b (md := .hp) (ex_din (zD 4 rfl) (ex_varD 3 rfl))) uK (zM (fun s9 : Unit => ([.fz false (q0 : List Int), .fz false (q1 : Int), .fz false (q2 : Str), .od (s2 : List (Key × Bool)), .fz false (x4 : Int)] : List (Slot K))) (()) (Le.eq (Le.eq (Le.eq (Le.eq (Le.eq Le.nil))))))) (fun s8 => (zI (sn_dput 3 rfl rfl (Ex.sc (md := .hp) (ex_bl true)) (zD 4 rfl)) (fun ahead10 => (zM (fun s2 : List (Key × Bool) => ([.fz false (q0 : List Int), .fz false (q1 : Int), .fz false (q2 : Str), .od (s2 : List (Key × Bool)), .un] : List (Slot K))) (ahead10) (Le.eq (Le.eq (Le.eq (Le.eq (Le.un Le.nil)))))))))))))) (fun s3 => (zM (fun _ : Unit => ([.un, .un, .un, .un, .un] : List (Slot K))) (()) (Le.un (Le.un (Le.un (Le.un (Le.un Le.nil)))))))))) (by unfold zY; simp only [bnd])⟩
def xO (q0 : List (List Int)) : Option Unit := (some (((q0).length : Int))).bind fun many1 => ((if (decide ((many1) < ((1 : Int)))) = true then some true else some (decide (((60 : Int)) < (many1)))).bind fun b => if b = true then none else some (())).bind fun s2 => ((some (enumL (q0))).bind fun xs => foldM (fun (s4 : Unit) (x6 : Int × (List Int)) => (((((fsI "steps of stand " (x6.1)).bind fun a8 => some ((a8, ()))).bind fun b9 => some ((many1, b9))).bind fun b10 => some ((x6.2, b10))).bind fun z7 => zY z7.1 z7.2.1 z7.2.2.1).bind fun u11 => (if (decide ((((x6.2).length : Int)) = ((0 : Int)))) = true then none else some (())).bind fun s12 => some (())) xs (())).bind fun s5 => some (())
theorem sc_check_steps : FnScope ["steps", "many", "stand", "targets"] ["steps"] (defScope s_check_steps) := ⟨rfl, rfl, rfl, by decide +kernel, rfl, by decide +kernel, by decide +kernel⟩
set_option maxHeartbeats 4000000 in
theorem ok_check_steps {k : Nat} {f : Addr} {fd : FuncData} (F : Fun K "check_steps" "check_steps" s_check_steps f fd) (B : Bl K mg) {t_MOST_STANDS : Tok} (m_MOST_STANDS : mg "MOST_STANDS" = some (.int 60 t_MOST_STANDS)) (C_check_stands : Cal P w K mg base k "check_stands" ["stands", "many", "where"] (spF K false (fun a : ((List Int)) × Int × Str × Unit => ([.fz false a.1, .fz false a.2.1, .fz false a.2.2.1] : List (Slot K))) (fun a => zY a.1 a.2.1 a.2.2.1))) : FnOk P w K mg base CX0 (k + 1) f fd ["steps"] (spF K false (fun a : ((List (List Int))) × Unit => ([.fz false a.1] : List (Slot K))) (fun a => xO a.1)) := by
  refine def_okN F sc_check_steps (fun _ => rfl) (fun _ => rfl) fun cdv A outer s H E hr => ?_
  refine ⟨_, (zA (zS (i := 1) sc_check_steps.nd rfl (by first|exact .inl rfl|exact .inr rfl) (yC (uA K) rfl B.len PySem.boot_len (zB (pv 0) zF))) (zA (xW (PW.pt (pw_or (yB op_lt (pv 1) zK (nomark _)) (pw_or1 (yB op_gt (pv 1) (pe_glob (v := .int 60) rfl m_MOST_STANDS ⟨_, rfl⟩) (nomark _))))) vJ zE) (zA (yP PassesOwn.never rfl (i_enumK K B.enum (zB (pv 0) zF)) (pg_tup rfl (xG (zL (i := 2) sc_check_steps.nd rfl (by first|exact .inl rfl|exact .inr rfl)) (xG (zL (i := 3) sc_check_steps.nd rfl (by first|exact .inl rfl|exact .inr rfl)) uT))) (zA (yU (yO C_check_stands hr (zB (pv 3) (zB (pv 1) (zB (pe_fs (pv 2) (by decide)) zF))))) (zA (xW (yB (uD K (Int) hr) (yC (uA K) rfl B.len PySem.boot_len (zB (pv 3) zF)) zK (nomark _)) vJ zE) zE))) zE))), ?_⟩
  rintro Fa ⟨q0, ⟨⟩⟩
  exact ⟨_, Sn.of (zI (yJ true 1 rfl rfl (Ex.sc (md := .hp) (uP (zH 0 rfl)))) (fun many1 => (zI (wR (et_or (yD (md := .hp) (ex_lt (zD 1 rfl) (zJ 1))) (yD (md := .hp) (ex_gt (zD 1 rfl) (zJ 60)))) uK (zM (fun s3 : Unit => ([.fz false (q0 : List (List Int)), .fz true (many1 : Int), .un, .un] : List (Slot K))) (()) (Le.eq (Le.eq (Le.un (Le.un Le.nil)))))) (fun s2 => (zI (xE (n := false) (L := (fun s4 : Unit => ([.fz false (q0 : List (List Int)), .fz true (many1 : Int), .un, .un] : List (Slot K)))) (()) (Le.eq (Le.eq (Le.un (Le.un Le.nil)))) (ei_enum (yE 0 rfl)) (fun s4 => (tg_tup 2 3 rfl rfl (fun _ => rfl) rfl)) (fun s4 x6 => (zI (sn_expr (md := .hp) (zO (zG (zH 3 rfl) (zG (Ex.sc (md := .hp) (zD 1 rfl)) (zG (Ex.sc (md := .hp) (ex_fsI "steps of stand " (zD 2 rfl))) zU))))) (fun u11 => (zI (wR (yD (md := .hp) (uG (uP (zH 3 rfl)) (zJ 0))) uK (zM (fun s13 : Unit => ([.fz false (q0 : List (List Int)), .fz true (many1 : Int), .fz false (x6.1 : Int), .fz false (x6.2 : List Int)] : List (Slot K))) (()) (Le.eq (Le.eq (Le.eq (Le.eq Le.nil)))))) (fun s12 => (zM (fun s4 : Unit => ([.fz false (q0 : List (List Int)), .fz true (many1 : Int), .un, .un] : List (Slot K))) (()) (Le.eq (Le.eq (Le.un (Le.un Le.nil))))))))))) (fun s5 => (zM (fun _ : Unit => ([.un, .un, .un, .un] : List (Slot K))) (()) (Le.un (Le.un (Le.un (Le.un Le.nil))))))))))) (by unfold xO; simp only [bnd])⟩
def vN (q0 : Str) : Option Bool := (if (!(true)) = true then some true else some (decide ((q0) ∈ (["all", "not", "both", "either", "somenext", "eachnext", "sometill", "eachtill", "someever", "eachever"] : List Str)))).bind fun b => if b = true then some (false) else ((lenS (q0)).bind fun b1 => if decide (((1 : Int)) <= (b1)) = true then some (decide ((b1) <= ((8 : Int)))) else some false).bind fun c4 => if c4 = true then ((some (signs (q0))).bind fun xs => compL (fun (x2 : Str) => some true) (fun (x2 : Str) => some (inS (x2) (("abcdefghijklmnopqrstuvwxyz" : Str)))) xs).bind fun a3 => some ((a3).all id) else some false
theorem sc_is_name : FnScope ["name"] ["name"] (defScope s_is_name) := ⟨rfl, rfl, rfl, by decide +kernel, rfl, by decide +kernel, by decide +kernel⟩
set_option maxHeartbeats 4000000 in
theorem ok_is_name {k : Nat} {f : Addr} {fd : FuncData} (F : Fun K "is_name" "is_name" s_is_name f fd) (B : Bl K mg) {t_LETTERS : Tok} (m_LETTERS : mg "LETTERS" = some (.str "abcdefghijklmnopqrstuvwxyz" t_LETTERS)) {t_LONGEST_NAME : Tok} (m_LONGEST_NAME : mg "LONGEST_NAME" = some (.int 8 t_LONGEST_NAME)) {a_SAYING_WORDS : Addr} (m_SAYING_WORDS : mg "SAYING_WORDS" = some (.ref a_SAYING_WORDS)) (h_SAYING_WORDS : ∀ H, SqT K H a_SAYING_WORDS ((["all", "not", "both", "either", "somenext", "eachnext", "sometill", "eachtill", "someever", "eachever"] : List Str).map V.str)) (zall : mg "all" = none) (zstr : mg "str" = none) : FnOk P w K mg base CX0 (k + 1) f fd ["name"] (spF K false (fun a : Str × Unit => ([.fz false a.1] : List (Slot K))) (fun a => vN a.1)) := by
  refine yQ F sc_is_name (fun _ => rfl) (fun _ => rfl) fun cdv A outer s H E hr => ?_
  refine ⟨_, (zA (xW (PW.pt (pw_or (pt_not (pt_val (yC (c_isiK K (rel_ty (n := "str"))) rfl B.isi bt_isi (zB (pv 0) (zB (pe_bltn (v := .ty "str") rfl zstr bt_str rfl) zF))))) (pw_or1 (yB (op_inK K) (pv 0) (pe_glob (v := .ref a_SAYING_WORDS) rfl m_SAYING_WORDS rfl) (by with_unfolding_all rfl))))) (zA (yA uV) zE) zE) (zA (yA (pe_and (pe_chain op_le op_le zK (yC call_lenS rfl B.len PySem.boot_len (zB (pv 0) zF)) (pe_glob (v := .int 8) rfl m_LONGEST_NAME ⟨_, rfl⟩)) (pe_one (yC (call_allL K rfl) rfl zall bt_all (zB (vC (own := ["sign"]) (ix := []) rfl rfl rfl (pi_str (pv 0)) (fun C s H fp => zL (i := 0) (show (["sign"] : List Str).Nodup from by decide +kernel) rfl (Or.inl rfl)) (fun C s H fp => vA) (fun C s H fp => (pe_cmpR op_in_str (pv 0) (pe_glob (v := .str "abcdefghijklmnopqrstuvwxyz") rfl m_LETTERS ⟨_, rfl⟩) (by with_unfolding_all rfl)))) zF))))) zE)), ?_⟩
  rintro Fa ⟨q0, ⟨⟩⟩
  exact SB.of (sb_ifr (et_or (et_not (et_b (md := .hp) (ex_isi ki_ss rfl (zD 0 rfl)))) (yD (md := .hp) (ex_inT h_SAYING_WORDS (zD 0 rfl)))) (yS (Ex.sc (md := .hp) (ex_bl false))) (yS (Ex.sc (md := .hp) (ex_and (ex_chain (f := (fun i j => decide (i <= j))) (g := (fun i j => decide (i <= j))) (zJ 1) (ex_lenS (zD 0 rfl)) (zJ 8)) (ex_bools (wA (n := true) (slI := [.un]) (no := 1) (ix := []) rfl rfl (ei_str (zD 0 rfl)) (zV 0 rfl rfl) (fun x2 => et_if0) (fun x2 => (Ex.sc (md := .hp) (ex_inS (zD 0 rfl) (ex_str "abcdefghijklmnopqrstuvwxyz")))) (fun x2 => (Le0.un Le0.nil))).ex))))) (by unfold vN; simp only [bnd])
def xP (q0 : List (Str × (List Int))) (q1 : Int) : Option Unit := (some ()).bind fun ahead1 => ((some (q0)).bind fun xs => foldM (fun (s2 : List (Key × Bool)) (x4 : Str × (List Int)) => (((vN (x4.1)).bind fun a5 => some (!(a5))).bind fun b => if b = true then none else some (())).bind fun s6 => (if ((dgetS ((Dc.mk s2)).kv (x4.1)).isSome) = true then none else some (())).bind fun s8 => (dputS s2 (x4.1) (true)).bind fun ahead10 => (((((fsS "mark " (x4.1)).bind fun a12 => some ((a12, ()))).bind fun b13 => some ((q1, b13))).bind fun b14 => some ((x4.2, b14))).bind fun z11 => zY z11.1 z11.2.1 z11.2.2.1).bind fun u15 => some (ahead10)) xs (([] : List (Key × Bool)))).bind fun s3 => some (())
theorem sc_check_marks : FnScope ["marks", "many", "ahead", "name", "stands"] ["marks", "many"] (defScope s_check_marks) := ⟨rfl, rfl, rfl, by decide +kernel, rfl, by decide +kernel, by decide +kernel⟩
set_option maxHeartbeats 4000000 in
theorem ok_check_marks {k : Nat} {f : Addr} {fd : FuncData} (F : Fun K "check_marks" "check_marks" s_check_marks f fd) (B : Bl K mg) (C_check_stands : Cal P w K mg base k "check_stands" ["stands", "many", "where"] (spF K false (fun a : ((List Int)) × Int × Str × Unit => ([.fz false a.1, .fz false a.2.1, .fz false a.2.2.1] : List (Slot K))) (fun a => zY a.1 a.2.1 a.2.2.1))) (C_is_name : Cal P w K mg base k "is_name" ["name"] (spF K false (fun a : Str × Unit => ([.fz false a.1] : List (Slot K))) (fun a => vN a.1))) : FnOk P w K mg base CX0 (k + 1) f fd ["marks", "many"] (spF K false (fun a : ((List (Str × (List Int)))) × Int × Unit => ([.fz false a.1, .fz false a.2.1] : List (Slot K))) (fun a => xP a.1 a.2.1)) := by
  refine def_okN F sc_check_marks (fun _ => rfl) (fun _ => rfl) fun cdv A outer s H E hr => ?_
  have hu := hu_of hr
  refine ⟨_, (zA (zS (i := 2) sc_check_marks.nd rfl (by first|exact .inl rfl|exact .inr rfl) pe_dnewK) (zA (yP PassesOwn.never rfl (yI K (pv 0)) (pg_tup rfl (xG (zL (i := 3) sc_check_marks.nd rfl (by first|exact .inl rfl|exact .inr rfl)) (xG (zL (i := 4) sc_check_marks.nd rfl (by first|exact .inl rfl|exact .inr rfl)) uT))) (zA (xW (pt_not (pt_val (yO C_is_name hr (zB (pv 3) zF)))) vJ zE) (zA (xW (vI (pc_din hu (pv 3) (pv 2))) vJ zE) (zA (ps_dput hu (pv 2) (pv 3) uV rfl) (zA (yU (yO C_check_stands hr (zB (pv 4) (zB (pv 1) (zB (pe_fs (pv 3) (by decide)) zF))))) zE))))) zE)), ?_⟩
  rintro Fa ⟨q0, q1, ⟨⟩⟩
  exact ⟨_, Sn.of (zI (sn_dnew (α := Bool) 2 rfl rfl) (fun ahead1 => (zI (xE (n := false) (L := (fun s2 : List (Key × Bool) => ([.fz false (q0 : List (Str × (List Int))), .fz false (q1 : Int), .od (s2 : List (Key × Bool)), .un, .un] : List (Slot K)))) (([] : List (Key × Bool))) (Le.eq (Le.eq (Le.eq (Le.un (Le.un Le.nil))))) (yM (yE 0 rfl)) (fun s2 => (tg_tup 3 4 rfl rfl (fun _ => rfl) rfl)) (fun s2 x4 => (zI (wR (et_not (et_b (md := .hp) (zO (zG (Ex.sc (md := .hp) (zD 3 rfl)) zU)))) uK (zM (fun s7 : Unit => ([.fz false (q0 : List (Str × (List Int))), .fz false (q1 : Int), .od (s2 : List (Key × Bool)), .fz false (x4.1 : Str), .fz false (x4.2 : List Int)] : List (Slot K))) (()) (Le.eq (Le.eq (Le.eq (Le.eq (Le.eq Le.nil))))))) (fun s6 => (zI (wR (et_b (md := .hp) (ex_dinS (zD 3 rfl) (ex_varD 2 rfl))) uK (zM (fun s9 : Unit => ([.fz false (q0 : List (Str × (List Int))), .fz false (q1 : Int), .od (s2 : List (Key × Bool)), .fz false (x4.1 : Str), .fz false (x4.2 : List Int)] : List (Slot K))) (()) (Le.eq (Le.eq (Le.eq (Le.eq (Le.eq Le.nil))))))) (fun s8 => (zI (sn_dputS 2 rfl rfl (Ex.sc (md := .hp) (ex_bl true)) (zD 3 rfl)) (fun ahead10 => (zI (sn_expr (md := .hp) (zO (zG (zH 4 rfl) (zG (Ex.sc (md := .hp) (zD 1 rfl)) (zG (Ex.sc (md := .hp) (ex_fsS "mark " (zD 3 rfl))) zU))))) (fun u15 => (zM (fun s2 : List (Key × Bool) => ([.fz false (q0 : List (Str × (List Int))), .fz false (q1 : Int), .od (s2 : List (Key × Bool)), .un, .un] : List (Slot K))) (ahead10) (Le.eq (Le.eq (Le.eq (Le.un (Le.un Le.nil)))))))))))))))) (fun s3 => (zM (fun _ : Unit => ([.un, .un, .un, .un, .un] : List (Slot K))) (()) (Le.un (Le.un (Le.un (Le.un (Le.un Le.nil)))))))))) (by unfold xP; simp only [bnd])⟩
def wD (q0 : List (List Int)) (q1 : Int) : Option Unit := ((some (enumL (q0))).bind fun xs => foldM (fun (s1 : Unit) (x3 : Int × (List Int)) => (((((fsI "fair set " (x3.1)).bind fun a5 => some ((a5, ()))).bind fun b6 => some ((q1, b6))).bind fun b7 => some ((x3.2, b7))).bind fun z4 => zY z4.1 z4.2.1 z4.2.2.1).bind fun u8 => some (())) xs (())).bind fun s2 => some (())
theorem sc_check_fair : FnScope ["fair", "many", "number", "stands"] ["fair", "many"] (defScope s_check_fair) := ⟨rfl, rfl, rfl, by decide +kernel, rfl, by decide +kernel, by decide +kernel⟩
set_option maxHeartbeats 4000000 in
theorem ok_check_fair {k : Nat} {f : Addr} {fd : FuncData} (F : Fun K "check_fair" "check_fair" s_check_fair f fd) (B : Bl K mg) (C_check_stands : Cal P w K mg base k "check_stands" ["stands", "many", "where"] (spF K false (fun a : ((List Int)) × Int × Str × Unit => ([.fz false a.1, .fz false a.2.1, .fz false a.2.2.1] : List (Slot K))) (fun a => zY a.1 a.2.1 a.2.2.1))) : FnOk P w K mg base CX0 (k + 1) f fd ["fair", "many"] (spF K false (fun a : ((List (List Int))) × Int × Unit => ([.fz false a.1, .fz false a.2.1] : List (Slot K))) (fun a => wD a.1 a.2.1)) := by
  refine def_okN F sc_check_fair (fun _ => rfl) (fun _ => rfl) fun cdv A outer s H E hr => ?_
  refine ⟨_, (zA (yP PassesOwn.never rfl (i_enumK K B.enum (zB (pv 0) zF)) (pg_tup rfl (xG (zL (i := 2) sc_check_fair.nd rfl (by first|exact .inl rfl|exact .inr rfl)) (xG (zL (i := 3) sc_check_fair.nd rfl (by first|exact .inl rfl|exact .inr rfl)) uT))) (zA (yU (yO C_check_stands hr (zB (pv 3) (zB (pv 1) (zB (pe_fs (pv 2) (by decide)) zF))))) zE)) zE), ?_⟩
  rintro Fa ⟨q0, q1, ⟨⟩⟩
  exact ⟨_, Sn.of (zI (xE (n := false) (L := (fun s1 : Unit => ([.fz false (q0 : List (List Int)), .fz false (q1 : Int), .un, .un] : List (Slot K)))) (()) (Le.eq (Le.eq (Le.un (Le.un Le.nil)))) (ei_enum (yE 0 rfl)) (fun s1 => (tg_tup 2 3 rfl rfl (fun _ => rfl) rfl)) (fun s1 x3 => (zI (sn_expr (md := .hp) (zO (zG (zH 3 rfl) (zG (Ex.sc (md := .hp) (zD 1 rfl)) (zG (Ex.sc (md := .hp) (ex_fsI "fair set " (zD 2 rfl))) zU))))) (fun u8 => (zM (fun s1 : Unit => ([.fz false (q0 : List (List Int)), .fz false (q1 : Int), .un, .un] : List (Slot K))) (()) (Le.eq (Le.eq (Le.un (Le.un Le.nil))))))))) (fun s2 => (zM (fun _ : Unit => ([.un, .un, .un, .un] : List (Slot K))) (()) (Le.un (Le.un (Le.un (Le.un Le.nil))))))) (by unfold wD; simp only [bnd])⟩
def vV (q0 : List (List Int)) : Option (List (List Int)) := (some (q0)).bind fun xs => compL (fun (x1 : List Int) => some true) (fun (x1 : List Int) => some (x1)) xs
theorem sc_copied : FnScope ["lists"] ["lists"] (defScope s_copied) := ⟨rfl, rfl, rfl, by decide +kernel, rfl, by decide +kernel, by decide +kernel⟩
set_option maxHeartbeats 4000000 in
theorem ok_copied {k : Nat} {f : Addr} {fd : FuncData} (F : Fun K "copied" "copied" s_copied f fd) (B : Bl K mg) : FnOk P w K mg base CX0 (k + 1) f fd ["lists"] (spF K false (fun a : ((List (List Int))) × Unit => ([.fz false a.1] : List (Slot K))) (fun a => vV a.1)) := by
  refine yQ F sc_copied (fun _ => rfl) (fun _ => rfl) fun cdv A outer s H E hr => ?_
  refine ⟨_, (zA (yA (vC (own := ["things"]) (ix := []) rfl rfl rfl (yI K (pv 0)) (fun C s H fp => zL (i := 0) (show (["things"] : List Str).Nodup from by decide +kernel) rfl (Or.inl rfl)) (fun C s H fp => vA) (fun C s H fp => (wK (c_listK K) rfl B.list uI (zB (pv 0) zF))))) zE), ?_⟩
  rintro Fa ⟨q0, ⟨⟩⟩
  exact SB.of (yS (wA (n := false) (slI := [.un]) (no := 1) (ix := []) rfl rfl (yM (yE 0 rfl)) (zV 0 rfl rfl) (fun x1 => et_if0) (fun x1 => (vX (zH 0 rfl)).ex) (fun x1 => (Le0.un Le0.nil))).ex) (by unfold vV; simp only [bnd])
end
abbrev mkK (C : Addr) := mkG C xO xP wD vV fSo
section
variable {P : Program} {w : World} {K : PySem.W.Frag} {mg : Str -> Option Value} {base : Heap}
def zZ {C : Addr} (q0 : Mach C) : Option Int := some (((q0.steps).length : Int))
theorem sc_Machine_many : FnScope ["self"] ["self"] (defScope s_Machine_many) := ⟨rfl, rfl, rfl, by decide +kernel, rfl, by decide +kernel, by decide +kernel⟩
set_option maxHeartbeats 4000000 in
theorem ok_Machine_many {k : Nat} {C : Addr} {f : Addr} {fd : FuncData} (F : Fun K "many" "Machine.many" s_Machine_many f fd) (B : Bl K mg) (T : Cl K mg C) : FnOk P w K mg base CX0 (k + 1) f fd ["self"] (spF K false (fun a : ((Mach C)) × Unit => ([.fz false a.1] : List (Slot K))) (fun a => zZ a.1)) := by
  refine yQ F sc_Machine_many (fun _ => rfl) (fun _ => rfl) fun cdv A outer s H E hr => ?_
  refine ⟨_, (zA (yA (yC (uA K) rfl B.len PySem.boot_len (zB (p_fldK K (pv 0)) zF))) zE), ?_⟩
  rintro Fa ⟨q0, ⟨⟩⟩
  exact SB.of (yS (Ex.sc (md := .hp) (uP (ex_fSteps T.cl T.nS (zH 0 rfl))))) (by unfold zZ; simp only [bnd])
def yF {C : Addr} (q0 : Mach C) (q1 : Int) : Option (List Int) := (L2.atI (q0.steps) (q1)).bind fun a1 => sortM (a1)
theorem sc_Machine_next_of : FnScope ["self", "stand"] ["self", "stand"] (defScope s_Machine_next_of) := ⟨rfl, rfl, rfl, by decide +kernel, rfl, by decide +kernel, by decide +kernel⟩
set_option maxHeartbeats 4000000 in
theorem ok_Machine_next_of {k : Nat} {C : Addr} {f : Addr} {fd : FuncData} (F : Fun K "next_of" "Machine.next_of" s_Machine_next_of f fd) (B : Bl K mg) (T : Cl K mg C) (zsorted : mg "sorted" = none) : FnOk P w K mg base CX0 (k + 1) f fd ["self", "stand"] (spF K false (fun a : ((Mach C)) × Int × Unit => ([.fz false a.1, .fz false a.2.1] : List (Slot K))) (fun a => yF a.1 a.2.1)) := by
  refine yQ F sc_Machine_next_of (fun _ => rfl) (fun _ => rfl) fun cdv A outer s H E hr => ?_
  refine ⟨_, (zA (yA (yC (call_sortL K) rfl zsorted bt_sorted (zB (uB (ixLK K) (p_fldK K (pv 0)) (pv 1) (fun _ _ => rfl)) zF))) zE), ?_⟩
  rintro Fa ⟨q0, q1, ⟨⟩⟩
  exact SB.of (yS (eo_sort (ex_ix (ex_fSteps T.cl T.nS (zH 0 rfl)) (zD 1 rfl))).ex) (by unfold yF; simp only [bnd])
def yN {C : Addr} (q0 : Mach C) (q1 : Int) : Option (List Int) := L2.atI (q0.sources) (q1)
theorem sc_Machine_before : FnScope ["self", "stand"] ["self", "stand"] (defScope s_Machine_before) := ⟨rfl, rfl, rfl, by decide +kernel, rfl, by decide +kernel, by decide +kernel⟩
set_option maxHeartbeats 4000000 in
theorem ok_Machine_before {k : Nat} {C : Addr} {f : Addr} {fd : FuncData} (F : Fun K "before" "Machine.before" s_Machine_before f fd) (B : Bl K mg) (T : Cl K mg C) : FnOk P w K mg base CX0 (k + 1) f fd ["self", "stand"] (spF K false (fun a : ((Mach C)) × Int × Unit => ([.fz false a.1, .fz false a.2.1] : List (Slot K))) (fun a => yN a.1 a.2.1)) := by
  refine yQ F sc_Machine_before (fun _ => rfl) (fun _ => rfl) fun cdv A outer s H E hr => ?_
  refine ⟨_, (zA (yA (wK (c_listK K) rfl B.list uI (zB (uB (ixLK K) (p_fldK K (pv 0)) (pv 1) (fun _ _ => rfl)) zF))) zE), ?_⟩
  rintro Fa ⟨q0, q1, ⟨⟩⟩
  exact SB.of (yS (vX (ex_ix (ex_fSources T.cl T.nB (zH 0 rfl)) (zD 1 rfl))).ex) (by unfold yN; simp only [bnd])
def yH {C : Addr} (q0 : Mach C) (q1 : Int) : Option (List Int) := (L2.atI (q0.fair) (q1)).bind fun a1 => sortM (a1)
theorem sc_Machine_fair_at : FnScope ["self", "number"] ["self", "number"] (defScope s_Machine_fair_at) := ⟨rfl, rfl, rfl, by decide +kernel, rfl, by decide +kernel, by decide +kernel⟩
set_option maxHeartbeats 4000000 in
theorem ok_Machine_fair_at {k : Nat} {C : Addr} {f : Addr} {fd : FuncData} (F : Fun K "fair_at" "Machine.fair_at" s_Machine_fair_at f fd) (B : Bl K mg) (T : Cl K mg C) (zsorted : mg "sorted" = none) : FnOk P w K mg base CX0 (k + 1) f fd ["self", "number"] (spF K false (fun a : ((Mach C)) × Int × Unit => ([.fz false a.1, .fz false a.2.1] : List (Slot K))) (fun a => yH a.1 a.2.1)) := by
  refine yQ F sc_Machine_fair_at (fun _ => rfl) (fun _ => rfl) fun cdv A outer s H E hr => ?_
  refine ⟨_, (zA (yA (yC (call_sortL K) rfl zsorted bt_sorted (zB (uB (ixLK K) (p_fldK K (pv 0)) (pv 1) (fun _ _ => rfl)) zF))) zE), ?_⟩
  rintro Fa ⟨q0, q1, ⟨⟩⟩
  exact SB.of (yS (eo_sort (ex_ix (ex_fFair T.cl T.nF (zH 0 rfl)) (zD 1 rfl))).ex) (by unfold yH; simp only [bnd])
def uX {C : Addr} (q0 : Mach C) (q1 : List Int) : Option (List Bool) := (((zZ (q0)).bind fun a2 => rangeM (a2)).bind fun xs => compL (fun (x3 : Int) => some true) (fun (x3 : Int) => some (false)) xs).bind fun told1 => ((some (q1)).bind fun xs => foldM (fun (s4 : List Bool) (x6 : Int) => (setAt s4 (x6) (true)).bind fun told7 => some (told7)) xs (told1)).bind fun s5 => some (s5)
theorem sc_flags : FnScope ["machine", "stands", "told", "stand"] ["machine", "stands"] (defScope s_flags) := ⟨rfl, rfl, rfl, by decide +kernel, rfl, by decide +kernel, by decide +kernel⟩
set_option maxHeartbeats 4000000 in
theorem ok_flags {k : Nat} {C : Addr} {f : Addr} {fd : FuncData} (F : Fun K "flags" "flags" s_flags f fd) (B : Bl K mg) (C_Machine_many : CalM P w K mg base k C "many" ["self"] (spF K false (fun a : ((Mach C)) × Unit => ([.fz false a.1] : List (Slot K))) (fun a => zZ a.1))) : FnOk P w K mg base CX0 (k + 1) f fd ["machine", "stands"] (spF K false (fun a : ((Mach C)) × ((List Int)) × Unit => ([.fz false a.1, .fz false a.2.1] : List (Slot K))) (fun a => uX a.1 a.2.1)) := by
  refine yQ F sc_flags (fun _ => rfl) (fun _ => rfl) fun cdv A outer s H E hr => ?_
  refine ⟨_, (zA (ps_comp (i := 2) (own := ["stand"]) (ix := []) sc_flags.nd rfl rfl rfl rfl rfl (yW rfl B.range (zB (p_calM0 C_Machine_many hr (pv 0)) zF)) (fun C s H fp => zL (i := 0) (show (["stand"] : List Str).Nodup from by decide +kernel) rfl (Or.inl rfl)) (fun C s H fp => vA) (fun C s H fp => uV)) (zA (yP PassesOwn.never rfl (yI K (pv 1)) (zL (i := 3) sc_flags.nd rfl (by first|exact .inl rfl|exact .inr rfl)) (zA (ps_asg uV (pg_sub (pv 2) (pv 3) set_list)) zE)) (zA (yA (pv 2)) zE))), ?_⟩
  rintro Fa ⟨q0, q1, ⟨⟩⟩
  exact SB.of (zN (wJ true 2 rfl rfl (wA (n := true) (slI := [.un]) (no := 1) (ix := []) rfl rfl (xQ (ex_meth (by decide +kernel) (zH 0 rfl) zU)) (zV 0 rfl rfl) (fun x3 => et_if0) (fun x3 => (Ex.sc (md := .hp) (ex_bl false))) (fun x3 => (Le0.un Le0.nil)))) (fun told1 => (zN (xE (n := false) (L := (fun s4 : List Bool => ([.fz false (q0 : Mach C), .fz false (q1 : List Int), .ow true (s4 : List Bool), .un] : List (Slot K)))) (told1) (Le.eq (Le.eq (Le.eq (Le.un Le.nil)))) (yM (yE 1 rfl)) (fun s4 => (zV 3 rfl rfl)) (fun s4 x6 => (zI (sn_setix 2 rfl rfl (Ex.sc (md := .hp) (ex_bl true)) (zD 3 rfl)) (fun told7 => (zM (fun s4 : List Bool => ([.fz false (q0 : Mach C), .fz false (q1 : List Int), .ow true (s4 : List Bool), .un] : List (Slot K))) (told7) (Le.eq (Le.eq (Le.eq (Le.un Le.nil))))))))) (fun s5 => (vR 2 rfl rfl))))) (by unfold uX; simp only [bnd])
def wX (q0 : List Int) (q1 : List Int) : Option (List Int) := uandM (q0) (q1)
theorem sc_shared : FnScope ["one", "other"] ["one", "other"] (defScope s_shared) := ⟨rfl, rfl, rfl, by decide +kernel, rfl, by decide +kernel, by decide +kernel⟩
set_option maxHeartbeats 4000000 in
theorem ok_shared {k : Nat} {f : Addr} {fd : FuncData} (F : Fun K "shared" "shared" s_shared f fd) (B : Bl K mg) (zsorted : mg "sorted" = none) (zset : mg "set" = none) : FnOk P w K mg base CX0 (k + 1) f fd ["one", "other"] (spF K false (fun a : ((List Int)) × ((List Int)) × Unit => ([.fz false a.1, .fz false a.2.1] : List (Slot K))) (fun a => wX a.1 a.2.1)) := by
  refine yQ F sc_shared (fun _ => rfl) (fun _ => rfl) fun cdv A outer s H E hr => ?_
  refine ⟨_, (zA (yA (pe_sortSt rfl zsorted (pst_and (pst_set K rfl zset (pv 0)) (pst_set K rfl zset (pv 1))))) zE), ?_⟩
  rintro Fa ⟨q0, q1, ⟨⟩⟩
  exact SB.of (yS (eo_sortAnd (zH 0 rfl) (zH 1 rfl)).ex) (by unfold wX; simp only [bnd])
def xZ {C : Addr} (q0 : Mach C) (q1 : List Int) (q2 : List Int) : Option (List (Option Int)) := (uX (q0) (q1)).bind fun passable1 => (((zZ (q0)).bind fun a3 => rangeM (a3)).bind fun xs => compL (fun (x4 : Int) => some true) (fun (x4 : Int) => some ((none : Option Int))) xs).bind fun told2 => ((some (q2)).bind fun xs => foldM (fun (s5 : List (Option Int)) (x7 : Int) => (setAt s5 (x7) (some ((0 : Int)))).bind fun told8 => some (told8)) xs (told2)).bind fun s6 => (some (q2)).bind fun row9 => (some ((0 : Int))).bind fun place10 => (whileM (fun s11 : (List (Option Int)) × (List Int) × Int => some (decide ((s11.2.2) < (((s11.2.1).length : Int))))) (fun s11 : (List (Option Int)) × (List Int) × Int => (L2.atI (s11.2.1) (s11.2.2)).bind fun stand13 => ((yN (q0) (stand13)).bind fun xs => foldM (fun (s14 : (List (Option Int)) × (List Int)) (x16 : Int) => (((L2.atI (passable1) (x16)).bind fun c18 => if c18 = true then (L2.atI (s14.1) (x16)).bind fun a17 => some ((a17).isNone) else some false).bind fun b => if b = true then (((((L2.atI (s14.1) (stand13)).bind fun a22 => a22).bind fun a23 => some ((a23) + ((1 : Int)))).bind fun a24 => some (some (a24))).bind fun a25 => setAt s14.1 (x16) (a25)).bind fun told21 => (push s14.2 (x16)).bind fun row26 => some ((told21, row26)) else some ((s14.1, s14.2))).bind fun s19 => some ((s19.1, s19.2))) xs ((s11.1, s11.2.1))).bind fun s15 => (some ((s11.2.2) + ((1 : Int)))).bind fun place27 => some ((s15.1, s15.2, place27))) fuel ((s6, row9, place10))).bind fun s12 => some (s12.1)
theorem sc_distances : FnScope ["machine", "through", "goal", "passable", "told", "stand", "row", "place", "source"] ["machine", "through", "goal"] (defScope s_distances) := ⟨rfl, rfl, rfl, by decide +kernel, rfl, by decide +kernel, by decide +kernel⟩
set_option maxHeartbeats 4000000 in
theorem ok_distances {k : Nat} {C : Addr} {f : Addr} {fd : FuncData} (F : Fun K "distances" "distances" s_distances f fd) (B : Bl K mg) (C_Machine_before : CalM P w K mg base k C "before" ["self", "stand"] (spF K false (fun a : ((Mach C)) × Int × Unit => ([.fz false a.1, .fz false a.2.1] : List (Slot K))) (fun a => yN a.1 a.2.1))) (C_Machine_many : CalM P w K mg base k C "many" ["self"] (spF K false (fun a : ((Mach C)) × Unit => ([.fz false a.1] : List (Slot K))) (fun a => zZ a.1))) (C_flags : Cal P w K mg base k "flags" ["machine", "stands"] (spF K false (fun a : ((Mach C)) × ((List Int)) × Unit => ([.fz false a.1, .fz false a.2.1] : List (Slot K))) (fun a => uX a.1 a.2.1))) : FnOk P w K mg base CX0 (k + 1) f fd ["machine", "through", "goal"] (spF K false (fun a : ((Mach C)) × ((List Int)) × ((List Int)) × Unit => ([.fz false a.1, .fz false a.2.1, .fz false a.2.2.1] : List (Slot K))) (fun a => xZ a.1 a.2.1 a.2.2.1)) := by
  refine yQ F sc_distances (fun _ => rfl) (fun _ => rfl) fun cdv A outer s H E hr => ?_
  refine ⟨_, (zA (zS (i := 3) sc_distances.nd rfl (by first|exact .inl rfl|exact .inr rfl) (yO C_flags hr (zB (pv 0) (zB (pv 1) zF)))) (zA (ps_comp (i := 4) (own := ["stand"]) (ix := []) sc_distances.nd rfl rfl rfl rfl rfl (yW rfl B.range (zB (p_calM0 C_Machine_many hr (pv 0)) zF)) (fun C s H fp => zL (i := 0) (show (["stand"] : List Str).Nodup from by decide +kernel) rfl (Or.inl rfl)) (fun C s H fp => vA) (fun C s H fp => pe_non)) (zA (yP PassesOwn.never rfl (yI K (pv 2)) (zL (i := 5) sc_distances.nd rfl (by first|exact .inl rfl|exact .inr rfl)) (zA (ps_asg zK (pg_sub (pv 4) (pv 5) set_list)) zE)) (zA (zS (i := 6) sc_distances.nd rfl (by first|exact .inl rfl|exact .inr rfl) (wK (c_listK K) rfl B.list uI (zB (pv 2) zF))) (zA (zS (i := 7) sc_distances.nd rfl (by first|exact .inl rfl|exact .inr rfl) zK) (zA (ps_while PassesOwn.never (yB op_lt (pv 7) (yC (uA K) rfl B.len PySem.boot_len (zB (pv 6) zF)) (nomark _)) (zA (zS (i := 5) sc_distances.nd rfl (by first|exact .inl rfl|exact .inr rfl) (uB (ixLK K) (pv 6) (pv 7) (fun _ _ => rfl))) (zA (yP PassesOwn.never rfl (yI K (p_calM C_Machine_before hr (pv 0) (zB (pv 5) zF))) (zL (i := 8) sc_distances.nd rfl (by first|exact .inl rfl|exact .inr rfl)) (zA (xW (PW.pt (pw_and (pt_val (uB (ixLK K) (pv 3) (pv 8) (fun _ _ => rfl))) (pw_and1 (vI (pc_isN (uB (ixLK K) (pv 4) (pv 8) (fun _ _ => rfl))))))) (zA (ps_asg (zT yY (uB (ixLK K) (pv 4) (pv 5) (fun _ _ => rfl)) zK) (pg_sub (pv 4) (pv 8) set_list)) (zA (yU (p_bmK K PySem.F.plainAttrs_list PySem.F.slot_list_append PySem.F.type_list_append yT (pv 6) (zB (pv 8) zF))) zE)) zE) zE)) (zA (ps_aug (i := 7) sc_distances.nd rfl (by first|exact .inl rfl|exact .inr rfl) zK ip_add) zE)))) (zA (yA (pv 4)) zE))))))), ?_⟩
  rintro Fa ⟨q0, q1, q2, ⟨⟩⟩
  exact SB.of (zN (yJ true 3 rfl rfl (zO (zG (zH 0 rfl) (zG (zH 1 rfl) zU)))) (fun passable1 => (zN (wJ true 4 rfl rfl (wA (n := true) (slI := [.un]) (no := 1) (ix := []) rfl rfl (xQ (ex_meth (by decide +kernel) (zH 0 rfl) zU)) (zV 0 rfl rfl) (fun x4 => et_if0) (fun x4 => (Ex.sc (md := .hp) (ex_none (α := Int)))) (fun x4 => (Le0.un Le0.nil)))) (fun told2 => (zN (xE (n := false) (L := (fun s5 : List (Option Int) => ([.fz false (q0 : Mach C), .fz false (q1 : List Int), .fz false (q2 : List Int), .fz true (passable1 : List Bool), .ow true (s5 : List (Option Int)), .un, .un, .un, .un] : List (Slot K)))) (told2) (Le.eq (Le.eq (Le.eq (Le.eq (Le.eq (Le.un (Le.un (Le.un (Le.un Le.nil))))))))) (yM (yE 2 rfl)) (fun s5 => (zV 5 rfl rfl)) (fun s5 x7 => (zI (sn_setix 4 rfl rfl (Ex.sc (md := .hp) (ex_some (zJ 0))) (zD 5 rfl)) (fun told8 => (zM (fun s5 : List (Option Int) => ([.fz false (q0 : Mach C), .fz false (q1 : List Int), .fz false (q2 : List Int), .fz true (passable1 : List Bool), .ow true (s5 : List (Option Int)), .un, .un, .un, .un] : List (Slot K))) (told8) (Le.eq (Le.eq (Le.eq (Le.eq (Le.eq (Le.un (Le.un (Le.un (Le.un Le.nil)))))))))))))) (fun s6 => (zN (wJ true 6 rfl rfl (vX (zH 2 rfl))) (fun row9 => (zN (yJ true 7 rfl rfl (Ex.sc (md := .hp) (zJ 0))) (fun place10 => (zN (sn_while (L := (fun s11 : (List (Option Int)) × (List Int) × Int => ([.fz false (q0 : Mach C), .fz false (q1 : List Int), .fz false (q2 : List Int), .fz true (passable1 : List Bool), .ow true (s11.1 : List (Option Int)), .un, .ow true (s11.2.1 : List Int), .fz true (s11.2.2 : Int), .un] : List (Slot K)))) fuel ((s6, row9, place10)) (Le.eq (Le.eq (Le.eq (Le.eq (Le.eq (Le.un (Le.eq (Le.eq (Le.un Le.nil))))))))) (fun s11 => (yD (md := .hp) (ex_lt (zD 7 rfl) (uP (vE 6 rfl))))) (fun s11 => (zI (yJ true 5 rfl rfl (Ex.sc (md := .hp) (Ex.sc (md := .hp) (ex_ix (vE 6 rfl) (zD 7 rfl))))) (fun stand13 => (zI (xE (n := true) (L := (fun s14 : (List (Option Int)) × (List Int) => ([.fz false (q0 : Mach C), .fz false (q1 : List Int), .fz false (q2 : List Int), .fz true (passable1 : List Bool), .ow true (s14.1 : List (Option Int)), .fz true (stand13 : Int), .ow true (s14.2 : List Int), .fz true (s11.2.2 : Int), .un] : List (Slot K)))) ((s11.1, s11.2.1)) (Le.eq (Le.eq (Le.eq (Le.eq (Le.eq (Le.eq (Le.eq (Le.eq (Le.un Le.nil))))))))) (yM (ex_meth (by decide +kernel) (zH 0 rfl) (zG (Ex.sc (md := .hp) (zD 5 rfl)) zU))) (fun s14 => (zV 8 rfl rfl)) (fun s14 x16 => (zI (wR (et_and (et_b (md := .hp) (Ex.sc (md := .hp) (ex_ix (zH 3 rfl) (zD 8 rfl)))) (et_b (md := .hp) (ex_isN (Ex.sc (md := .hp) (ex_ix (vE 4 rfl) (zD 8 rfl)))))) (zI (sn_setix 4 rfl rfl (Ex.sc (md := .hp) (ex_some (yZ (ex_get (Ex.sc (md := .hp) (ex_ix (vE 4 rfl) (zD 5 rfl)))) (zJ 1)))) (zD 8 rfl)) (fun told21 => (zI (yV 6 rfl rfl (Ex.sc (md := .hp) (zD 8 rfl))) (fun row26 => (zM (fun s20 : (List (Option Int)) × (List Int) => ([.fz false (q0 : Mach C), .fz false (q1 : List Int), .fz false (q2 : List Int), .fz true (passable1 : List Bool), .ow true (s20.1 : List (Option Int)), .fz true (stand13 : Int), .ow true (s20.2 : List Int), .fz true (s11.2.2 : Int), .fz true (x16 : Int)] : List (Slot K))) ((told21, row26)) (Le.eq (Le.eq (Le.eq (Le.eq (Le.eq (Le.eq (Le.eq (Le.eq (Le.eq Le.nil)))))))))))))) (zM (fun s20 : (List (Option Int)) × (List Int) => ([.fz false (q0 : Mach C), .fz false (q1 : List Int), .fz false (q2 : List Int), .fz true (passable1 : List Bool), .ow true (s20.1 : List (Option Int)), .fz true (stand13 : Int), .ow true (s20.2 : List Int), .fz true (s11.2.2 : Int), .fz true (x16 : Int)] : List (Slot K))) ((s14.1, s14.2)) (Le.eq (Le.eq (Le.eq (Le.eq (Le.eq (Le.eq (Le.eq (Le.eq (Le.eq Le.nil))))))))))) (fun s19 => (zM (fun s14 : (List (Option Int)) × (List Int) => ([.fz false (q0 : Mach C), .fz false (q1 : List Int), .fz false (q2 : List Int), .fz true (passable1 : List Bool), .ow true (s14.1 : List (Option Int)), .fz true (stand13 : Int), .ow true (s14.2 : List Int), .fz true (s11.2.2 : Int), .un] : List (Slot K))) ((s19.1, s19.2)) (Le.eq (Le.eq (Le.eq (Le.eq (Le.eq (Le.eq (Le.eq (Le.eq (Le.un Le.nil)))))))))))))) (fun s15 => (zI (sn_aug (s := .un) 7 rfl (zJ 1)) (fun place27 => (zM (fun s11 : (List (Option Int)) × (List Int) × Int => ([.fz false (q0 : Mach C), .fz false (q1 : List Int), .fz false (q2 : List Int), .fz true (passable1 : List Bool), .ow true (s11.1 : List (Option Int)), .un, .ow true (s11.2.1 : List Int), .fz true (s11.2.2 : Int), .un] : List (Slot K))) ((s15.1, s15.2, place27)) (Le.eq (Le.eq (Le.eq (Le.eq (Le.eq (Le.un (Le.eq (Le.eq (Le.un Le.nil)))))))))))))))))) (fun s12 => (vR 4 rfl rfl))))))))))))) (by unfold xZ; simp only [bnd])
def wC {C : Addr} (q0 : Mach C) (q1 : List Int) (q2 : List Int) : Option (List Int) := (xZ (q0) (q1) (q2)).bind fun away1 => (some (enumL (away1))).bind fun xs => compL (fun (x2 : Int × (Option Int)) => some ((x2.2).isSome)) (fun (x2 : Int × (Option Int)) => some (x2.1)) xs
theorem sc_comes_to : FnScope ["machine", "through", "goal", "away"] ["machine", "through", "goal"] (defScope s_comes_to) := ⟨rfl, rfl, rfl, by decide +kernel, rfl, by decide +kernel, by decide +kernel⟩
set_option maxHeartbeats 4000000 in
theorem ok_comes_to {k : Nat} {C : Addr} {f : Addr} {fd : FuncData} (F : Fun K "comes_to" "comes_to" s_comes_to f fd) (B : Bl K mg) (C_distances : Cal P w K mg base k "distances" ["machine", "through", "goal"] (spF K false (fun a : ((Mach C)) × ((List Int)) × ((List Int)) × Unit => ([.fz false a.1, .fz false a.2.1, .fz false a.2.2.1] : List (Slot K))) (fun a => xZ a.1 a.2.1 a.2.2.1))) : FnOk P w K mg base CX0 (k + 1) f fd ["machine", "through", "goal"] (spF K false (fun a : ((Mach C)) × ((List Int)) × ((List Int)) × Unit => ([.fz false a.1, .fz false a.2.1, .fz false a.2.2.1] : List (Slot K))) (fun a => wC a.1 a.2.1 a.2.2.1)) := by
  refine yQ F sc_comes_to (fun _ => rfl) (fun _ => rfl) fun cdv A outer s H E hr => ?_
  refine ⟨_, (zA (zS (i := 3) sc_comes_to.nd rfl (by first|exact .inl rfl|exact .inr rfl) (yO C_distances hr (zB (pv 0) (zB (pv 1) (zB (pv 2) zF))))) (zA (yA (vC (own := ["stand", "steps"]) (ix := []) rfl rfl rfl (i_enumK K B.enum (zB (pv 3) zF)) (fun C s H fp => pg_tupK (K := K) (n := 2) rfl rfl (xG (zL (i := 0) (show (["stand", "steps"] : List Str).Nodup from by decide +kernel) rfl (Or.inl rfl)) (xG (zL (i := 1) (show (["stand", "steps"] : List Str).Nodup from by decide +kernel) rfl (Or.inl rfl)) uT))) (fun C s H fp => pif_one (vI (pc_notN (pv 1)))) (fun C s H fp => (pv 0)))) zE)), ?_⟩
  rintro Fa ⟨q0, q1, q2, ⟨⟩⟩
  exact SB.of (zN (yJ true 3 rfl rfl (zO (zG (zH 0 rfl) (zG (zH 1 rfl) (zG (zH 2 rfl) zU))))) (fun away1 => (yS (wA (n := true) (slI := [.un, .un]) (no := 2) (ix := []) rfl rfl (ei_enum (yE 3 rfl)) (tg_tup 0 1 rfl rfl (fun _ => rfl) rfl) (fun x2 => (et_b (md := .hp) (ex_notN (zD 1 rfl)))) (fun x2 => (Ex.sc (md := .hp) (zD 0 rfl))) (fun x2 => (Le0.un (Le0.un Le0.nil)))).ex))) (by unfold wC; simp only [bnd])
def wL (q0 : List Int) : Option Int := (some ((0 : Int))).bind fun told1 => ((some (q0)).bind fun xs => foldM (fun (s2 : Int) (x4 : Int) => ((shlM ((1 : Int)) (x4)).bind fun a6 => some (Builtin.bitOr (s2) (a6))).bind fun told5 => some (told5)) xs (told1)).bind fun s3 => some (s3)
theorem sc_bits_of : FnScope ["stands", "told", "stand"] ["stands"] (defScope s_bits_of) := ⟨rfl, rfl, rfl, by decide +kernel, rfl, by decide +kernel, by decide +kernel⟩
set_option maxHeartbeats 4000000 in
theorem ok_bits_of {k : Nat} {f : Addr} {fd : FuncData} (F : Fun K "bits_of" "bits_of" s_bits_of f fd) (B : Bl K mg) : FnOk P w K mg base CX0 (k + 1) f fd ["stands"] (spF K false (fun a : ((List Int)) × Unit => ([.fz false a.1] : List (Slot K))) (fun a => wL a.1)) := by
  refine yQ F sc_bits_of (fun _ => rfl) (fun _ => rfl) fun cdv A outer s H E hr => ?_
  refine ⟨_, (zA (zS (i := 1) sc_bits_of.nd rfl (by first|exact .inl rfl|exact .inr rfl) zK) (zA (yP PassesOwn.never rfl (yI K (pv 0)) (zL (i := 2) sc_bits_of.nd rfl (by first|exact .inl rfl|exact .inr rfl)) (zA (ps_aug (i := 1) sc_bits_of.nd rfl (by first|exact .inl rfl|exact .inr rfl) (zT op_shl zK (pv 2)) ip_or) zE)) (zA (yA (pv 1)) zE))), ?_⟩
  rintro Fa ⟨q0, ⟨⟩⟩
  exact SB.of (zN (yJ true 1 rfl rfl (Ex.sc (md := .hp) (zJ 0))) (fun told1 => (zN (xE (n := false) (L := (fun s2 : Int => ([.fz false (q0 : List Int), .fz true (s2 : Int), .un] : List (Slot K)))) (told1) (Le.eq (Le.eq (Le.un Le.nil))) (yM (yE 0 rfl)) (fun s2 => (zV 2 rfl rfl)) (fun s2 x4 => (zI (sn_aug (s := .un) 1 rfl (ex_shl (zJ 1) (zD 2 rfl))) (fun told5 => (zM (fun s2 : Int => ([.fz false (q0 : List Int), .fz true (s2 : Int), .un] : List (Slot K))) (told5) (Le.eq (Le.eq (Le.un Le.nil)))))))) (fun s3 => (yS (Ex.sc (md := .hp) (zD 1 rfl))))))) (by unfold wL; simp only [bnd])
def xB {C : Addr} (q0 : Mach C) (q1 : List Int) : Option (List Int) := (wL (q1)).bind fun inside1 => (((zZ (q0)).bind fun a3 => rangeM (a3)).bind fun xs => compL (fun (x4 : Int) => some true) (fun (x4 : Int) => some ((0 : Int))) xs).bind fun rows2 => ((some (q1)).bind fun xs => foldM (fun (s5 : List Int) (x7 : Int) => (((((yF (q0) (x7)).bind fun a10 => some ((a10, ()))).bind fun z9 => wL z9.1).bind fun a11 => some (Builtin.bitAnd (a11) (inside1))).bind fun a12 => setAt s5 (x7) (a12)).bind fun rows8 => some (rows8)) xs (rows2)).bind fun s6 => ((some (q1)).bind fun xs => foldM (fun (s13 : List Int) (x15 : Int) => ((some (q1)).bind fun xs => foldM (fun (s16 : List Int) (x18 : Int) => (((((L2.atI (s16) (x18)).bind fun a19 => shrM (a19) (x15)).bind fun a20 => some (Builtin.bitAnd (a20) ((1 : Int)))).bind fun a21 => some ((a21) != 0)).bind fun b => if b = true then ((L2.atI (s16) (x15)).bind fun b25 => augM (fun i j => Builtin.bitOr i j) s16 (x18) (b25)).bind fun rows24 => some (rows24) else some (s16)).bind fun s22 => some (s22)) xs (s13)).bind fun s17 => some (s17)) xs (s6)).bind fun s14 => some (s14)
theorem sc_onward_bits : FnScope ["machine", "within", "inside", "rows", "stand", "middle"] ["machine", "within"] (defScope s_onward_bits) := ⟨rfl, rfl, rfl, by decide +kernel, rfl, by decide +kernel, by decide +kernel⟩
set_option maxHeartbeats 4000000 in
theorem ok_onward_bits {k : Nat} {C : Addr} {f : Addr} {fd : FuncData} (F : Fun K "onward_bits" "onward_bits" s_onward_bits f fd) (B : Bl K mg) (C_Machine_many : CalM P w K mg base k C "many" ["self"] (spF K false (fun a : ((Mach C)) × Unit => ([.fz false a.1] : List (Slot K))) (fun a => zZ a.1))) (C_Machine_next_of : CalM P w K mg base k C "next_of" ["self", "stand"] (spF K false (fun a : ((Mach C)) × Int × Unit => ([.fz false a.1, .fz false a.2.1] : List (Slot K))) (fun a => yF a.1 a.2.1))) (C_bits_of : Cal P w K mg base k "bits_of" ["stands"] (spF K false (fun a : ((List Int)) × Unit => ([.fz false a.1] : List (Slot K))) (fun a => wL a.1))) : FnOk P w K mg base CX0 (k + 1) f fd ["machine", "within"] (spF K false (fun a : ((Mach C)) × ((List Int)) × Unit => ([.fz false a.1, .fz false a.2.1] : List (Slot K))) (fun a => xB a.1 a.2.1)) := by
  refine yQ F sc_onward_bits (fun _ => rfl) (fun _ => rfl) fun cdv A outer s H E hr => ?_
  refine ⟨_, (zA (zS (i := 2) sc_onward_bits.nd rfl (by first|exact .inl rfl|exact .inr rfl) (yO C_bits_of hr (zB (pv 1) zF))) (zA (ps_comp (i := 3) (own := ["stand"]) (ix := []) sc_onward_bits.nd rfl rfl rfl rfl rfl (yW rfl B.range (zB (p_calM0 C_Machine_many hr (pv 0)) zF)) (fun C s H fp => zL (i := 0) (show (["stand"] : List Str).Nodup from by decide +kernel) rfl (Or.inl rfl)) (fun C s H fp => vA) (fun C s H fp => zK)) (zA (yP PassesOwn.never rfl (yI K (pv 1)) (zL (i := 4) sc_onward_bits.nd rfl (by first|exact .inl rfl|exact .inr rfl)) (zA (ps_asg (zT op_and (yO C_bits_of hr (zB (p_calM C_Machine_next_of hr (pv 0) (zB (pv 4) zF)) zF)) (pv 2)) (pg_sub (pv 3) (pv 4) set_list)) zE)) (zA (yP PassesOwn.never rfl (yI K (pv 1)) (zL (i := 5) sc_onward_bits.nd rfl (by first|exact .inl rfl|exact .inr rfl)) (zA (yP PassesOwn.never rfl (yI K (pv 1)) (zL (i := 4) sc_onward_bits.nd rfl (by first|exact .inl rfl|exact .inr rfl)) (zA (xW (pt_truthK K (zT op_and (zT op_shr (uB (ixLK K) (pv 3) (pv 4) (fun _ _ => rfl)) (pv 5)) zK)) (zA (ps_augS (pv 3) (pv 4) (get_listK K) (uB (ixLK K) (pv 3) (pv 5) (fun _ _ => rfl)) ip_or set_list) zE) zE) zE)) zE)) (zA (yA (pv 3)) zE))))), ?_⟩
  rintro Fa ⟨q0, q1, ⟨⟩⟩
  exact SB.of (zN (yJ true 2 rfl rfl (Ex.sc (md := .hp) (zO (zG (zH 1 rfl) zU)))) (fun inside1 => (zN (wJ true 3 rfl rfl (wA (n := true) (slI := [.un]) (no := 1) (ix := []) rfl rfl (xQ (ex_meth (by decide +kernel) (zH 0 rfl) zU)) (zV 0 rfl rfl) (fun x4 => et_if0) (fun x4 => (Ex.sc (md := .hp) (zJ 0))) (fun x4 => (Le0.un Le0.nil)))) (fun rows2 => (zN (xE (n := false) (L := (fun s5 : List Int => ([.fz false (q0 : Mach C), .fz false (q1 : List Int), .fz true (inside1 : Int), .ow true (s5 : List Int), .un, .un] : List (Slot K)))) (rows2) (Le.eq (Le.eq (Le.eq (Le.eq (Le.un (Le.un Le.nil)))))) (yM (yE 1 rfl)) (fun s5 => (zV 4 rfl rfl)) (fun s5 x7 => (zI (sn_setix 3 rfl rfl (Ex.sc (md := .hp) (ex_band (zO (zG (ex_meth (by decide +kernel) (zH 0 rfl) (zG (Ex.sc (md := .hp) (zD 4 rfl)) zU)) zU)) (zD 2 rfl))) (zD 4 rfl)) (fun rows8 => (zM (fun s5 : List Int => ([.fz false (q0 : Mach C), .fz false (q1 : List Int), .fz true (inside1 : Int), .ow true (s5 : List Int), .un, .un] : List (Slot K))) (rows8) (Le.eq (Le.eq (Le.eq (Le.eq (Le.un (Le.un Le.nil))))))))))) (fun s6 => (zN (xE (n := false) (L := (fun s13 : List Int => ([.fz false (q0 : Mach C), .fz false (q1 : List Int), .fz true (inside1 : Int), .ow true (s13 : List Int), .un, .un] : List (Slot K)))) (s6) (Le.eq (Le.eq (Le.eq (Le.eq (Le.un (Le.un Le.nil)))))) (yM (yE 1 rfl)) (fun s13 => (zV 5 rfl rfl)) (fun s13 x15 => (zI (xE (n := false) (L := (fun s16 : List Int => ([.fz false (q0 : Mach C), .fz false (q1 : List Int), .fz true (inside1 : Int), .ow true (s16 : List Int), .un, .fz false (x15 : Int)] : List (Slot K)))) (s13) (Le.eq (Le.eq (Le.eq (Le.eq (Le.un (Le.eq Le.nil)))))) (yM (yE 1 rfl)) (fun s16 => (zV 4 rfl rfl)) (fun s16 x18 => (zI (wR (et_int (ex_band (ex_shr (Ex.sc (md := .hp) (ex_ix (vE 3 rfl) (zD 4 rfl))) (zD 5 rfl)) (zJ 1))) (zI (sn_augix 3 rfl rfl (zD 4 rfl) (Ex.sc (md := .hp) (ex_ix (vE 3 rfl) (zD 5 rfl)))) (fun rows24 => (zM (fun s23 : List Int => ([.fz false (q0 : Mach C), .fz false (q1 : List Int), .fz true (inside1 : Int), .ow true (s23 : List Int), .fz false (x18 : Int), .fz false (x15 : Int)] : List (Slot K))) (rows24) (Le.eq (Le.eq (Le.eq (Le.eq (Le.eq (Le.eq Le.nil))))))))) (zM (fun s23 : List Int => ([.fz false (q0 : Mach C), .fz false (q1 : List Int), .fz true (inside1 : Int), .ow true (s23 : List Int), .fz false (x18 : Int), .fz false (x15 : Int)] : List (Slot K))) (s16) (Le.eq (Le.eq (Le.eq (Le.eq (Le.eq (Le.eq Le.nil)))))))) (fun s22 => (zM (fun s16 : List Int => ([.fz false (q0 : Mach C), .fz false (q1 : List Int), .fz true (inside1 : Int), .ow true (s16 : List Int), .un, .fz false (x15 : Int)] : List (Slot K))) (s22) (Le.eq (Le.eq (Le.eq (Le.eq (Le.un (Le.eq Le.nil))))))))))) (fun s17 => (zM (fun s13 : List Int => ([.fz false (q0 : Mach C), .fz false (q1 : List Int), .fz true (inside1 : Int), .ow true (s13 : List Int), .un, .un] : List (Slot K))) (s17) (Le.eq (Le.eq (Le.eq (Le.eq (Le.un (Le.un Le.nil))))))))))) (fun s14 => (vR 3 rfl rfl))))))))) (by unfold xB; simp only [bnd])
def uW {C : Addr} (q0 : Mach C) (q1 : List Int) : Option (List (List Int)) := (usortM (q1)).bind fun stands1 => (xB (q0) (stands1)).bind fun rows2 => (some (([] : List (List Int)))).bind fun told3 => (some ()).bind fun done4 => ((some (stands1)).bind fun xs => foldM (fun (s5 : (List (List Int)) × (List (Key × Bool))) (x7 : Int) => ((if (!(dget ((Dc.mk s5.2)).kv (x7)).isSome) = true then (((L2.atI (rows2) (x7)).bind fun a8 => shrM (a8) (x7)).bind fun a9 => some (Builtin.bitAnd (a9) ((1 : Int)))).bind fun a10 => some ((a10) != 0) else some false).bind fun b => if b = true then ((some (stands1)).bind fun xs => compL (fun (x14 : Int) => ((((L2.atI (rows2) (x7)).bind fun a15 => shrM (a15) (x14)).bind fun a17 => ((L2.atI (rows2) (x14)).bind fun a16 => shrM (a16) (x7)).bind fun b18 => some (Builtin.bitAnd (a17) (b18))).bind fun a19 => some (Builtin.bitAnd (a19) ((1 : Int)))).bind fun a20 => some ((a20) != 0)) (fun (x14 : Int) => some (x14)) xs).bind fun ring13 => (push s5.1 (ring13)).bind fun told21 => ((some (ring13)).bind fun xs => foldM (fun (s22 : List (Key × Bool)) (x24 : Int) => (dput s22 (x24) (true)).bind fun done25 => some (done25)) xs (s5.2)).bind fun s23 => some ((told21, s23)) else some ((s5.1, s5.2))).bind fun s11 => some ((s11.1, s11.2))) xs ((told3, ([] : List (Key × Bool))))).bind fun s6 => some (s6.1)
theorem sc_rings : FnScope ["machine", "within", "stands", "rows", "told", "done", "stand", "ring", "other"] ["machine", "within"] (defScope s_rings) := ⟨rfl, rfl, rfl, by decide +kernel, rfl, by decide +kernel, by decide +kernel⟩
set_option maxHeartbeats 4000000 in
theorem ok_rings {k : Nat} {C : Addr} {f : Addr} {fd : FuncData} (F : Fun K "rings" "rings" s_rings f fd) (B : Bl K mg) (zsorted : mg "sorted" = none) (zset : mg "set" = none) (C_onward_bits : Cal P w K mg base k "onward_bits" ["machine", "within"] (spF K false (fun a : ((Mach C)) × ((List Int)) × Unit => ([.fz false a.1, .fz false a.2.1] : List (Slot K))) (fun a => xB a.1 a.2.1))) : FnOk P w K mg base CX0 (k + 1) f fd ["machine", "within"] (spF K false (fun a : ((Mach C)) × ((List Int)) × Unit => ([.fz false a.1, .fz false a.2.1] : List (Slot K))) (fun a => uW a.1 a.2.1)) := by
  refine yQ F sc_rings (fun _ => rfl) (fun _ => rfl) fun cdv A outer s H E hr => ?_
  have hu := hu_of hr
  refine ⟨_, (zA (zS (i := 2) sc_rings.nd rfl (by first|exact .inl rfl|exact .inr rfl) (pe_sortSt rfl zsorted (pst_set K rfl zset (pv 1)))) (zA (zS (i := 3) sc_rings.nd rfl (by first|exact .inl rfl|exact .inr rfl) (yO C_onward_bits hr (zB (pv 0) (zB (pv 2) zF)))) (zA (zS (i := 4) sc_rings.nd rfl (by first|exact .inl rfl|exact .inr rfl) (xT zF)) (zA (zS (i := 5) sc_rings.nd rfl (by first|exact .inl rfl|exact .inr rfl) pe_dnewK) (zA (yP PassesOwn.never rfl (yI K (pv 2)) (zL (i := 6) sc_rings.nd rfl (by first|exact .inl rfl|exact .inr rfl)) (zA (xW (PW.pt (pw_and (vI (pc_dnotin hu (pv 6) (pv 5))) (pw_and1 (pt_truthK K (zT op_and (zT op_shr (uB (ixLK K) (pv 3) (pv 6) (fun _ _ => rfl)) (pv 6)) zK))))) (zA (ps_comp (i := 7) (own := ["other"]) (ix := [3, 6]) sc_rings.nd rfl rfl rfl rfl rfl (yI K (pv 2)) (fun C s H fp => zL (i := 0) (show (["other", "rows", "stand"] : List Str).Nodup from by decide +kernel) rfl (Or.inl rfl)) (fun C s H fp => pif_one (pt_truthK K (zT op_and (zT op_and (zT op_shr (uB (ixLK K) (pv 1) (pv 2) (fun _ _ => rfl)) (pv 0)) (zT op_shr (uB (ixLK K) (pv 1) (pv 0) (fun _ _ => rfl)) (pv 2))) zK))) (fun C s H fp => (pv 0))) (zA (yU (p_bmK K PySem.F.plainAttrs_list PySem.F.slot_list_append PySem.F.type_list_append yT (pv 4) (zB (pv 7) zF))) (zA (yP PassesOwn.never rfl (yI K (pv 7)) (zL (i := 8) sc_rings.nd rfl (by first|exact .inl rfl|exact .inr rfl)) (zA (ps_dput hu (pv 5) (pv 8) uV rfl) zE)) zE))) zE) zE)) (zA (yA (pv 4)) zE)))))), ?_⟩
  rintro Fa ⟨q0, q1, ⟨⟩⟩
  exact SB.of (zN (yJ true 2 rfl rfl (eo_sortSet (zH 1 rfl)).ex) (fun stands1 => (zN (yJ true 3 rfl rfl (zO (zG (zH 0 rfl) (zG (zH 2 rfl) zU)))) (fun rows2 => (zN (wJ true 4 rfl rfl (wM (α := List Int))) (fun told3 => (zN (sn_dnew (α := Bool) 5 rfl rfl) (fun done4 => (zN (xE (n := true) (L := (fun s5 : (List (List Int)) × (List (Key × Bool)) => ([.fz false (q0 : Mach C), .fz false (q1 : List Int), .fz true (stands1 : List Int), .fz true (rows2 : List Int), .ow true (s5.1 : List (List Int)), .od (s5.2 : List (Key × Bool)), .un, .un, .un] : List (Slot K)))) ((told3, ([] : List (Key × Bool)))) (Le.eq (Le.eq (Le.eq (Le.eq (Le.eq (Le.eq (Le.un (Le.un (Le.un Le.nil))))))))) (yM (yE 2 rfl)) (fun s5 => (zV 6 rfl rfl)) (fun s5 x7 => (zI (wR (et_and (et_b (md := .hp) (ex_dnotin (zD 6 rfl) (ex_varD 5 rfl))) (et_int (ex_band (ex_shr (Ex.sc (md := .hp) (ex_ix (zH 3 rfl) (zD 6 rfl))) (zD 6 rfl)) (zJ 1)))) (zI (yJ true 7 rfl rfl (wA (n := true) (slI := [.un, .fz true (rows2 : List Int), .fz true (x7 : Int)]) (no := 1) (ix := [3, 6]) rfl rfl (yM (yE 2 rfl)) (zV 0 rfl rfl) (fun x14 => (et_int (ex_band (ex_band (ex_shr (Ex.sc (md := .hp) (ex_ix (zH 1 rfl) (zD 2 rfl))) (zD 0 rfl)) (ex_shr (Ex.sc (md := .hp) (ex_ix (zH 1 rfl) (zD 0 rfl))) (zD 2 rfl))) (zJ 1)))) (fun x14 => (Ex.sc (md := .hp) (zD 0 rfl))) (fun x14 => (Le0.un (Le0.eq (Le0.eq Le0.nil))))).ex) (fun ring13 => (zI (yV 4 rfl rfl (yE 7 rfl)) (fun told21 => (zI (xE (n := true) (L := (fun s22 : List (Key × Bool) => ([.fz false (q0 : Mach C), .fz false (q1 : List Int), .fz true (stands1 : List Int), .fz true (rows2 : List Int), .ow true (told21 : List (List Int)), .od (s22 : List (Key × Bool)), .fz true (x7 : Int), .fz true (ring13 : List Int), .un] : List (Slot K)))) (s5.2) (Le.eq (Le.eq (Le.eq (Le.eq (Le.eq (Le.eq (Le.eq (Le.eq (Le.un Le.nil))))))))) (yM (yE 7 rfl)) (fun s22 => (zV 8 rfl rfl)) (fun s22 x24 => (zI (sn_dput 5 rfl rfl (Ex.sc (md := .hp) (ex_bl true)) (zD 8 rfl)) (fun done25 => (zM (fun s22 : List (Key × Bool) => ([.fz false (q0 : Mach C), .fz false (q1 : List Int), .fz true (stands1 : List Int), .fz true (rows2 : List Int), .ow true (told21 : List (List Int)), .od (s22 : List (Key × Bool)), .fz true (x7 : Int), .fz true (ring13 : List Int), .un] : List (Slot K))) (done25) (Le.eq (Le.eq (Le.eq (Le.eq (Le.eq (Le.eq (Le.eq (Le.eq (Le.un Le.nil)))))))))))))) (fun s23 => (zM (fun s12 : (List (List Int)) × (List (Key × Bool)) => ([.fz false (q0 : Mach C), .fz false (q1 : List Int), .fz true (stands1 : List Int), .fz true (rows2 : List Int), .ow true (s12.1 : List (List Int)), .od (s12.2 : List (Key × Bool)), .fz true (x7 : Int), .un, .un] : List (Slot K))) ((told21, s23)) (Le.eq (Le.eq (Le.eq (Le.eq (Le.eq (Le.eq (Le.eq (Le.un (Le.un Le.nil)))))))))))))))) (zM (fun s12 : (List (List Int)) × (List (Key × Bool)) => ([.fz false (q0 : Mach C), .fz false (q1 : List Int), .fz true (stands1 : List Int), .fz true (rows2 : List Int), .ow true (s12.1 : List (List Int)), .od (s12.2 : List (Key × Bool)), .fz true (x7 : Int), .un, .un] : List (Slot K))) ((s5.1, s5.2)) (Le.eq (Le.eq (Le.eq (Le.eq (Le.eq (Le.eq (Le.eq (Le.un (Le.un Le.nil))))))))))) (fun s11 => (zM (fun s5 : (List (List Int)) × (List (Key × Bool)) => ([.fz false (q0 : Mach C), .fz false (q1 : List Int), .fz true (stands1 : List Int), .fz true (rows2 : List Int), .ow true (s5.1 : List (List Int)), .od (s5.2 : List (Key × Bool)), .un, .un, .un] : List (Slot K))) ((s11.1, s11.2)) (Le.eq (Le.eq (Le.eq (Le.eq (Le.eq (Le.eq (Le.un (Le.un (Le.un Le.nil)))))))))))))) (fun s6 => (vR 4 rfl rfl))))))))))) (by unfold uW; simp only [bnd])
def xX {C : Addr} (q0 : Mach C) (q1 : List Int) : Option (Option Int) := ((rangeM (((q0.fair).length : Int))).bind fun xs => foldX (fun (s1 : Unit) (x3 : Int) => ((((((yH (q0) (x3)).bind fun a5 => some ((a5, ()))).bind fun b6 => some ((q1, b6))).bind fun z4 => wX z4.1 z4.2.1).bind fun a7 => some (((a7).length : Int))).bind fun a8 => some (decide ((a8) = ((0 : Int))))).bind fun b => if b = true then (some (some (x3))).bind fun b => some (.rt b) else some (.nx (()))) xs (())).bind fun o => o.els fun s2 => some ((none : Option Int))
theorem sc_missed_by : FnScope ["machine", "ring", "number"] ["machine", "ring"] (defScope s_missed_by) := ⟨rfl, rfl, rfl, by decide +kernel, rfl, by decide +kernel, by decide +kernel⟩
set_option maxHeartbeats 4000000 in
theorem ok_missed_by {k : Nat} {C : Addr} {f : Addr} {fd : FuncData} (F : Fun K "missed_by" "missed_by" s_missed_by f fd) (B : Bl K mg) (T : Cl K mg C) (C_Machine_fair_at : CalM P w K mg base k C "fair_at" ["self", "number"] (spF K false (fun a : ((Mach C)) × Int × Unit => ([.fz false a.1, .fz false a.2.1] : List (Slot K))) (fun a => yH a.1 a.2.1))) (C_shared : Cal P w K mg base k "shared" ["one", "other"] (spF K false (fun a : ((List Int)) × ((List Int)) × Unit => ([.fz false a.1, .fz false a.2.1] : List (Slot K))) (fun a => wX a.1 a.2.1))) : FnOk P w K mg base CX0 (k + 1) f fd ["machine", "ring"] (spF K false (fun a : ((Mach C)) × ((List Int)) × Unit => ([.fz false a.1, .fz false a.2.1] : List (Slot K))) (fun a => xX a.1 a.2.1)) := by
  refine yQ F sc_missed_by (fun _ => rfl) (fun _ => rfl) fun cdv A outer s H E hr => ?_
  refine ⟨_, (zA (yP PassesOwn.never rfl (yW rfl B.range (zB (yC (uA K) rfl B.len PySem.boot_len (zB (p_fldK K (pv 0)) zF)) zF)) (zL (i := 2) sc_missed_by.nd rfl (by first|exact .inl rfl|exact .inr rfl)) (zA (xW (yB (uD K (Int) hr) (yC (uA K) rfl B.len PySem.boot_len (zB (yO C_shared hr (zB (pv 1) (zB (p_calM C_Machine_fair_at hr (pv 0) (zB (pv 2) zF)) zF))) zF)) zK (nomark _)) (zA (yA (pv 2)) zE) zE) zE)) (zA (yA pe_non) zE)), ?_⟩
  rintro Fa ⟨q0, q1, ⟨⟩⟩
  exact SB.of (sb_consx (sx_for (n := true) (L := (fun s1 : Unit => ([.fz false (q0 : Mach C), .fz false (q1 : List Int), .un] : List (Slot K)))) (()) (Le.eq (Le.eq (Le.un Le.nil))) (xQ (uP (ex_fFair T.cl T.nF (zH 0 rfl)))) (fun s1 => (zV 2 rfl rfl)) (fun s1 x3 => (sx_ifr (yD (md := .hp) (uG (uP (zO (zG (zH 1 rfl) (zG (ex_meth (by decide +kernel) (zH 0 rfl) (zG (Ex.sc (md := .hp) (zD 2 rfl)) zU)) zU)))) (zJ 0))) (yS (Ex.sc (md := .hp) (ex_some (zD 2 rfl)))) (sx_nil (fun s1 : Unit => ([.fz false (q0 : Mach C), .fz false (q1 : List Int), .un] : List (Slot K))) (()) (Le.eq (Le.eq (Le.un Le.nil))))))) (fun s2 => (yS (Ex.sc (md := .hp) (ex_none (α := Int)))))) (by unfold xX; simp only [bnd])
def xN {C : Addr} (q0 : Mach C) (q1 : List Int) : Option (List (List Int)) := (uW (q0) (q1)).bind fun xs => compL (fun (x1 : List Int) => (xX (q0) (x1)).bind fun a2 => some ((a2).isNone)) (fun (x1 : List Int) => some (x1)) xs
theorem sc_fair_rings : FnScope ["machine", "within"] ["machine", "within"] (defScope s_fair_rings) := ⟨rfl, rfl, rfl, by decide +kernel, rfl, by decide +kernel, by decide +kernel⟩
set_option maxHeartbeats 4000000 in
theorem ok_fair_rings {k : Nat} {C : Addr} {f : Addr} {fd : FuncData} (F : Fun K "fair_rings" "fair_rings" s_fair_rings f fd) (B : Bl K mg) (C_missed_by : Cal P w K mg base k "missed_by" ["machine", "ring"] (spF K false (fun a : ((Mach C)) × ((List Int)) × Unit => ([.fz false a.1, .fz false a.2.1] : List (Slot K))) (fun a => xX a.1 a.2.1))) (C_rings : Cal P w K mg base k "rings" ["machine", "within"] (spF K false (fun a : ((Mach C)) × ((List Int)) × Unit => ([.fz false a.1, .fz false a.2.1] : List (Slot K))) (fun a => uW a.1 a.2.1))) : FnOk P w K mg base CX0 (k + 1) f fd ["machine", "within"] (spF K false (fun a : ((Mach C)) × ((List Int)) × Unit => ([.fz false a.1, .fz false a.2.1] : List (Slot K))) (fun a => xN a.1 a.2.1)) := by
  refine yQ F sc_fair_rings (fun _ => rfl) (fun _ => rfl) fun cdv A outer s H E hr => ?_
  refine ⟨_, (zA (yA (vC (own := ["ring"]) (ix := [0]) rfl rfl rfl (yI K (yO C_rings hr (zB (pv 0) (zB (pv 1) zF)))) (fun C s H fp => zL (i := 0) (show (["ring", "machine"] : List Str).Nodup from by decide +kernel) rfl (Or.inl rfl)) (fun C s H fp => pif_one (vI (pc_isN (yO C_missed_by hr (zB (pv 1) (zB (pv 0) zF)))))) (fun C s H fp => (pv 0)))) zE), ?_⟩
  rintro Fa ⟨q0, q1, ⟨⟩⟩
  exact SB.of (yS (wA (n := true) (slI := [.un, .fz false (q0 : Mach C)]) (no := 1) (ix := [0]) rfl rfl (yM (zO (zG (zH 0 rfl) (zG (zH 1 rfl) zU)))) (zV 0 rfl rfl) (fun x1 => (et_b (md := .hp) (ex_isN (zO (zG (zH 1 rfl) (zG (zH 0 rfl) zU)))))) (fun x1 => (yE 0 rfl)) (fun x1 => (Le0.un (Le0.eq Le0.nil)))).ex) (by unfold xN; simp only [bnd])
def wY (q0 : List (List Int)) : Option (List Int) := (some (([] : List Int))).bind fun told1 => ((some (q0)).bind fun xs => foldM (fun (s2 : List Int) (x4 : List Int) => (extM s2 (x4)).bind fun told5 => some (told5)) xs (told1)).bind fun s3 => some (s3)
theorem sc_joined : FnScope ["lists", "told", "things"] ["lists"] (defScope s_joined) := ⟨rfl, rfl, rfl, by decide +kernel, rfl, by decide +kernel, by decide +kernel⟩
set_option maxHeartbeats 4000000 in
theorem ok_joined {k : Nat} {f : Addr} {fd : FuncData} (F : Fun K "joined" "joined" s_joined f fd) (B : Bl K mg) : FnOk P w K mg base CX0 (k + 1) f fd ["lists"] (spF K false (fun a : ((List (List Int))) × Unit => ([.fz false a.1] : List (Slot K))) (fun a => wY a.1)) := by
  refine yQ F sc_joined (fun _ => rfl) (fun _ => rfl) fun cdv A outer s H E hr => ?_
  refine ⟨_, (zA (zS (i := 1) sc_joined.nd rfl (by first|exact .inl rfl|exact .inr rfl) (xT zF)) (zA (yP PassesOwn.never rfl (yI K (pv 0)) (zL (i := 2) sc_joined.nd rfl (by first|exact .inl rfl|exact .inr rfl)) (zA (yU (p_bmK K PySem.F.plainAttrs_list PySem.F.slot_list_extend PySem.F.type_list_extend mt_extend (pv 1) (zB (pv 2) zF))) zE)) (zA (yA (pv 1)) zE))), ?_⟩
  rintro Fa ⟨q0, ⟨⟩⟩
  exact SB.of (zN (wJ true 1 rfl rfl (wM (α := Int))) (fun told1 => (zN (xE (n := false) (L := (fun s2 : List Int => ([.fz false (q0 : List (List Int)), .ow true (s2 : List Int), .un] : List (Slot K)))) (told1) (Le.eq (Le.eq (Le.un Le.nil))) (yM (yE 0 rfl)) (fun s2 => (zV 2 rfl rfl)) (fun s2 x4 => (zI (sn_extend 1 rfl rfl (zH 2 rfl)) (fun told5 => (zM (fun s2 : List Int => ([.fz false (q0 : List (List Int)), .ow true (s2 : List Int), .un] : List (Slot K))) (told5) (Le.eq (Le.eq (Le.un Le.nil)))))))) (fun s3 => (vR 1 rfl rfl))))) (by unfold wY; simp only [bnd])
def p_core {C : Addr} (q0 : Mach C) (q1 : List Int) : Option (List Int) := ((((((xN (q0) (q1)).bind fun a2 => some ((a2, ()))).bind fun z1 => wY z1.1).bind fun a4 => some ((a4, ()))).bind fun b5 => some ((q1, b5))).bind fun b6 => some ((q0, b6))).bind fun z3 => wC z3.1 z3.2.1 z3.2.2.1
theorem sc_core : FnScope ["machine", "within"] ["machine", "within"] (defScope s_core) := ⟨rfl, rfl, rfl, by decide +kernel, rfl, by decide +kernel, by decide +kernel⟩
set_option maxHeartbeats 4000000 in
theorem ok_core {k : Nat} {C : Addr} {f : Addr} {fd : FuncData} (F : Fun K "core" "core" s_core f fd) (B : Bl K mg) (C_comes_to : Cal P w K mg base k "comes_to" ["machine", "through", "goal"] (spF K false (fun a : ((Mach C)) × ((List Int)) × ((List Int)) × Unit => ([.fz false a.1, .fz false a.2.1, .fz false a.2.2.1] : List (Slot K))) (fun a => wC a.1 a.2.1 a.2.2.1))) (C_fair_rings : Cal P w K mg base k "fair_rings" ["machine", "within"] (spF K false (fun a : ((Mach C)) × ((List Int)) × Unit => ([.fz false a.1, .fz false a.2.1] : List (Slot K))) (fun a => xN a.1 a.2.1))) (C_joined : Cal P w K mg base k "joined" ["lists"] (spF K false (fun a : ((List (List Int))) × Unit => ([.fz false a.1] : List (Slot K))) (fun a => wY a.1))) : FnOk P w K mg base CX0 (k + 1) f fd ["machine", "within"] (spF K false (fun a : ((Mach C)) × ((List Int)) × Unit => ([.fz false a.1, .fz false a.2.1] : List (Slot K))) (fun a => p_core a.1 a.2.1)) := by
  refine yQ F sc_core (fun _ => rfl) (fun _ => rfl) fun cdv A outer s H E hr => ?_
  refine ⟨_, (zA (yA (yO C_comes_to hr (zB (pv 0) (zB (pv 1) (zB (yO C_joined hr (zB (yO C_fair_rings hr (zB (pv 0) (zB (pv 1) zF))) zF)) zF))))) zE), ?_⟩
  rintro Fa ⟨q0, q1, ⟨⟩⟩
  exact SB.of (yS (zO (zG (zH 0 rfl) (zG (zH 1 rfl) (zG (zO (zG (zO (zG (zH 0 rfl) (zG (zH 1 rfl) zU))) zU)) zU))))) (by unfold p_core; simp only [bnd])
def zW (q0 : Scr) (q1 : Int) : Option Int := if (decide ((q1) < (((q0).ns.length : Int)))) = true then L2.atI (q0).ns (q1) else some ((0 : Int))
theorem sc_l_cell_at : FnScope ["_law_script", "_law_k"] ["_law_script", "_law_k"] (defScope s_l_cell_at) := ⟨rfl, rfl, rfl, by decide +kernel, rfl, by decide +kernel, by decide +kernel⟩
set_option maxHeartbeats 4000000 in
theorem ok_l_cell_at {k : Nat} {f : Addr} {fd : FuncData} (F : Fun K "_law_cell_at" "_law_cell_at" s_l_cell_at f fd) (B : Bl K mg) : FnOk P w K mg base CX0 (k + 1) f fd ["_law_script", "_law_k"] (spF K false (fun a : Scr × Int × Unit => ([.fz false a.1, .fz false a.2.1] : List (Slot K))) (fun a => zW a.1 a.2.1)) := by
  refine yQ F sc_l_cell_at (fun _ => rfl) (fun _ => rfl) fun cdv A outer s H E hr => ?_
  refine ⟨_, (zA (xW (yB op_lt (pv 1) (yC (uA K) rfl B.len PySem.boot_len (zB (pv 0) zF)) (nomark _)) (zA (yA (uB (ixLK K) (pv 0) (pv 1) (fun _ _ => rfl))) zE) zE) (zA (yA zK) zE)), ?_⟩
  rintro Fa ⟨q0, q1, ⟨⟩⟩
  exact SB.of (sb_ifr (yD (md := .hp) (ex_lt (zD 1 rfl) (ex_slen (zH 0 rfl)))) (yS (Ex.sc (md := .hp) (ex_six (zH 0 rfl) (zD 1 rfl)))) (yS (Ex.sc (md := .hp) (zJ 0)))) (by unfold zW; simp only [bnd])
def vL (q0 : Int) : Option Bool := if (true) = true then some (!(false)) else some false
theorem sc_l_whole : FnScope ["_law_found"] ["_law_found"] (defScope s_l_whole) := ⟨rfl, rfl, rfl, by decide +kernel, rfl, by decide +kernel, by decide +kernel⟩
set_option maxHeartbeats 4000000 in
theorem ok_l_whole {k : Nat} {f : Addr} {fd : FuncData} (F : Fun K "_law_whole" "_law_whole" s_l_whole f fd) (B : Bl K mg) : FnOk P w K mg base CX0 (k + 1) f fd ["_law_found"] (spF K false (fun a : Int × Unit => ([.fz false a.1] : List (Slot K))) (fun a => vL a.1)) := by
  refine yQ F sc_l_whole (fun _ => rfl) (fun _ => rfl) fun cdv A outer s H E hr => ?_
  refine ⟨_, (zA (yA (pe_and (yC (c_isiK K (rel_ty (n := "int"))) rfl B.isi bt_isi (zB (pv 0) (zB (pe_bltn (v := .ty "int") rfl B.int bt_int rfl) zF))) (pe_one (pe_not (yC (c_isiK K (rel_ty (n := "bool"))) rfl B.isi bt_isi (zB (pv 0) (zB (pe_bltn (v := .ty "bool") rfl B.bool bt_bool rfl) zF))))))) zE), ?_⟩
  rintro Fa ⟨q0, ⟨⟩⟩
  exact SB.of (yS (Ex.sc (md := .hp) (ex_and (ex_isi B.ii rfl (zD 0 rfl)) (ex_not (ex_isi B.ib rfl (zD 0 rfl)))))) (by unfold vL; simp only [bnd])
def yX (q0 : Int) (q1 : Int) : Option Int := ((((((mulM ((2 : Int)) (q1)).bind fun b2 => some (((48271 : Int)) + (b2))).bind fun b3 => mulM (q0) (b3)).bind fun a4 => (mulM ((7919 : Int)) (q1)).bind fun b5 => some ((a4) + (b5))).bind fun a6 => some ((a6) + ((5 : Int)))).bind fun a7 => modM (a7) ((99991 : Int))).bind fun one1 => (mulM (one1) (((one1) + ((3 : Int))) + (q1))).bind fun a8 => modM (a8) ((99989 : Int))
theorem sc_l_mix : FnScope ["_law_cell", "_law_k", "_law_one"] ["_law_cell", "_law_k"] (defScope s_l_mix) := ⟨rfl, rfl, rfl, by decide +kernel, rfl, by decide +kernel, by decide +kernel⟩
set_option maxHeartbeats 4000000 in
theorem ok_l_mix {k : Nat} {f : Addr} {fd : FuncData} (F : Fun K "_law_mix" "_law_mix" s_l_mix f fd) (B : Bl K mg) : FnOk P w K mg base CX0 (k + 1) f fd ["_law_cell", "_law_k"] (spF K false (fun a : Int × Int × Unit => ([.fz false a.1, .fz false a.2.1] : List (Slot K))) (fun a => yX a.1 a.2.1)) := by
  refine yQ F sc_l_mix (fun _ => rfl) (fun _ => rfl) fun cdv A outer s H E hr => ?_
  refine ⟨_, (zA (zS (i := 2) sc_l_mix.nd rfl (by first|exact .inl rfl|exact .inr rfl) (zT xH (zT yY (zT yY (zT op_mul (pv 0) (zT yY zK (zT op_mul zK (pv 1)))) (zT op_mul zK (pv 1))) zK) zK)) (zA (yA (zT xH (zT op_mul (pv 2) (zT yY (zT yY (pv 2) zK) (pv 1))) zK)) zE)), ?_⟩
  rintro Fa ⟨q0, q1, ⟨⟩⟩
  exact SB.of (zN (yJ true 2 rfl rfl (Ex.sc (md := .hp) (xJ (yZ (yZ (ex_mul (zD 0 rfl) (yZ (zJ 48271) (ex_mul (zJ 2) (zD 1 rfl)))) (ex_mul (zJ 7919) (zD 1 rfl))) (zJ 5)) (zJ 99991)))) (fun one1 => (yS (Ex.sc (md := .hp) (xJ (ex_mul (zD 2 rfl) (yZ (yZ (zD 2 rfl) (zJ 3)) (zD 1 rfl))) (zJ 99989)))))) (by unfold yX; simp only [bnd])
def xK (q0 : Scr) (q1 : Int) : Option (List (List Int)) := (some (([] : List (List Int)))).bind fun steps1 => ((rangeM (q1)).bind fun xs => foldM (fun (s2 : List (List Int)) (x4 : Int) => (((((modM (x4) (max ((1 : Int)) ((((q0).ns.length : Int)) - ((4 : Int))))).bind fun b6 => some (((4 : Int)) + (b6))).bind fun a8 => some ((a8, ()))).bind fun b9 => some ((q0, b9))).bind fun z7 => zW z7.1 z7.2.1).bind fun cell5 => (some (([] : List Int))).bind fun row10 => (((((yX (cell5) (x4)).bind fun a14 => modM (a14) ((3 : Int))).bind fun b15 => some (((1 : Int)) + (b15))).bind fun a16 => rangeM (a16)).bind fun xs => foldM (fun (s11 : List Int) (x13 : Int) => (((((((mulM ((70 : Int)) (x13)).bind fun b18 => some ((x4) + (b18))).bind fun a19 => some ((a19) + ((70 : Int)))).bind fun a21 => some ((a21, ()))).bind fun b22 => some (((cell5) + (x13), b22))).bind fun z20 => yX z20.1 z20.2.1).bind fun a23 => modM (a23) (q1)).bind fun other17 => ((((yX (cell5) ((((300 : Int)) + (x4)) + (x13))).bind fun a24 => modM (a24) ((3 : Int))).bind fun a25 => some (decide ((a25) = ((0 : Int))))).bind fun b => if b = true then (modM ((x4) + ((1 : Int))) (q1)).bind fun other28 => some (other28) else some (other17)).bind fun s26 => (if (!decide ((s26) ∈ (s11))) = true then (push s11 (s26)).bind fun row31 => some (row31) else some (s11)).bind fun s29 => some (s29)) xs (row10)).bind fun s12 => (push s2 (s12)).bind fun steps32 => some (steps32)) xs (steps1)).bind fun s3 => some (s3)
theorem sc_l_steps_by : FnScope ["_law_script", "_law_many", "_law_steps", "_law_stand", "_law_cell", "_law_row", "_law_k", "_law_other"] ["_law_script", "_law_many"] (defScope s_l_steps_by) := ⟨rfl, rfl, rfl, by decide +kernel, rfl, by decide +kernel, by decide +kernel⟩
set_option maxHeartbeats 4000000 in
theorem ok_l_steps_by {k : Nat} {f : Addr} {fd : FuncData} (F : Fun K "_law_steps_by" "_law_steps_by" s_l_steps_by f fd) (B : Bl K mg) (zmax : mg "max" = none) (C_l_cell_at : Cal P w K mg base k "_law_cell_at" ["_law_script", "_law_k"] (spF K false (fun a : Scr × Int × Unit => ([.fz false a.1, .fz false a.2.1] : List (Slot K))) (fun a => zW a.1 a.2.1))) (C_l_mix : Cal P w K mg base k "_law_mix" ["_law_cell", "_law_k"] (spF K false (fun a : Int × Int × Unit => ([.fz false a.1, .fz false a.2.1] : List (Slot K))) (fun a => yX a.1 a.2.1))) : FnOk P w K mg base CX0 (k + 1) f fd ["_law_script", "_law_many"] (spF K false (fun a : Scr × Int × Unit => ([.fz false a.1, .fz false a.2.1] : List (Slot K))) (fun a => xK a.1 a.2.1)) := by
  refine yQ F sc_l_steps_by (fun _ => rfl) (fun _ => rfl) fun cdv A outer s H E hr => ?_
  refine ⟨_, (zA (zS (i := 2) sc_l_steps_by.nd rfl (by first|exact .inl rfl|exact .inr rfl) (xT zF)) (zA (yP PassesOwn.never rfl (yW rfl B.range (zB (pv 1) zF)) (zL (i := 3) sc_l_steps_by.nd rfl (by first|exact .inl rfl|exact .inr rfl)) (zA (zS (i := 4) sc_l_steps_by.nd rfl (by first|exact .inl rfl|exact .inr rfl) (yO C_l_cell_at hr (zB (pv 0) (zB (zT yY zK (zT xH (pv 3) (yC (call_max2 rfl) rfl zmax bt_max (zB zK (zB (zT op_sub (yC (uA K) rfl B.len PySem.boot_len (zB (pv 0) zF)) zK) zF))))) zF)))) (zA (zS (i := 5) sc_l_steps_by.nd rfl (by first|exact .inl rfl|exact .inr rfl) (xT zF)) (zA (yP PassesOwn.never rfl (yW rfl B.range (zB (zT yY zK (zT xH (yO C_l_mix hr (zB (pv 4) (zB (pv 3) zF))) zK)) zF)) (zL (i := 6) sc_l_steps_by.nd rfl (by first|exact .inl rfl|exact .inr rfl)) (zA (zS (i := 7) sc_l_steps_by.nd rfl (by first|exact .inl rfl|exact .inr rfl) (zT xH (yO C_l_mix hr (zB (zT yY (pv 4) (pv 6)) (zB (zT yY (zT yY (pv 3) (zT op_mul zK (pv 6))) zK) zF))) (pv 1))) (zA (xW (yB (uD K (Int) hr) (zT xH (yO C_l_mix hr (zB (pv 4) (zB (zT yY (zT yY zK (pv 3)) (pv 6)) zF))) zK) zK (nomark _)) (zA (zS (i := 7) sc_l_steps_by.nd rfl (by first|exact .inl rfl|exact .inr rfl) (zT xH (zT yY (pv 3) zK) (pv 1))) zE) zE) (zA (xW (yB (op_ninK K) (pv 7) (pv 5) (by with_unfolding_all rfl)) (zA (yU (p_bmK K PySem.F.plainAttrs_list PySem.F.slot_list_append PySem.F.type_list_append yT (pv 5) (zB (pv 7) zF))) zE) zE) zE)))) (zA (yU (p_bmK K PySem.F.plainAttrs_list PySem.F.slot_list_append PySem.F.type_list_append yT (pv 2) (zB (pv 5) zF))) zE))))) (zA (yA (pv 2)) zE))), ?_⟩
  rintro Fa ⟨q0, q1, ⟨⟩⟩
  exact SB.of (zN (wJ true 2 rfl rfl (wM (α := List Int))) (fun steps1 => (zN (xE (n := true) (L := (fun s2 : List (List Int) => ([.fz false (q0 : Scr), .fz false (q1 : Int), .ow true (s2 : List (List Int)), .un, .un, .un, .un, .un] : List (Slot K)))) (steps1) (Le.eq (Le.eq (Le.eq (Le.un (Le.un (Le.un (Le.un (Le.un Le.nil)))))))) (xQ (zD 1 rfl)) (fun s2 => (zV 3 rfl rfl)) (fun s2 x4 => (zI (yJ true 4 rfl rfl (Ex.sc (md := .hp) (zO (zG (zH 0 rfl) (zG (Ex.sc (md := .hp) (yZ (zJ 4) (xJ (zD 3 rfl) (ex_max2 (zJ 1) (ex_sub (ex_slen (zH 0 rfl)) (zJ 4)))))) zU))))) (fun cell5 => (zI (wJ true 5 rfl rfl (wM (α := Int))) (fun row10 => (zI (xE (n := true) (L := (fun s11 : List Int => ([.fz false (q0 : Scr), .fz false (q1 : Int), .ow true (s2 : List (List Int)), .fz true (x4 : Int), .fz true (cell5 : Int), .ow true (s11 : List Int), .un, .un] : List (Slot K)))) (row10) (Le.eq (Le.eq (Le.eq (Le.eq (Le.eq (Le.eq (Le.un (Le.un Le.nil)))))))) (xQ (yZ (zJ 1) (xJ (zO (zG (Ex.sc (md := .hp) (zD 4 rfl)) (zG (Ex.sc (md := .hp) (zD 3 rfl)) zU))) (zJ 3)))) (fun s11 => (zV 6 rfl rfl)) (fun s11 x13 => (zI (yJ true 7 rfl rfl (Ex.sc (md := .hp) (xJ (zO (zG (Ex.sc (md := .hp) (yZ (zD 4 rfl) (zD 6 rfl))) (zG (Ex.sc (md := .hp) (yZ (yZ (zD 3 rfl) (ex_mul (zJ 70) (zD 6 rfl))) (zJ 70))) zU))) (zD 1 rfl)))) (fun other17 => (zI (wR (yD (md := .hp) (uG (xJ (zO (zG (Ex.sc (md := .hp) (zD 4 rfl)) (zG (Ex.sc (md := .hp) (yZ (yZ (zJ 300) (zD 3 rfl)) (zD 6 rfl))) zU))) (zJ 3)) (zJ 0))) (zI (yJ true 7 rfl rfl (Ex.sc (md := .hp) (xJ (yZ (zD 3 rfl) (zJ 1)) (zD 1 rfl)))) (fun other28 => (zM (fun s27 : Int => ([.fz false (q0 : Scr), .fz false (q1 : Int), .ow true (s2 : List (List Int)), .fz true (x4 : Int), .fz true (cell5 : Int), .ow true (s11 : List Int), .fz true (x13 : Int), .fz true (s27 : Int)] : List (Slot K))) (other28) (Le.eq (Le.eq (Le.eq (Le.eq (Le.eq (Le.eq (Le.eq (Le.eq Le.nil))))))))))) (zM (fun s27 : Int => ([.fz false (q0 : Scr), .fz false (q1 : Int), .ow true (s2 : List (List Int)), .fz true (x4 : Int), .fz true (cell5 : Int), .ow true (s11 : List Int), .fz true (x13 : Int), .fz true (s27 : Int)] : List (Slot K))) (other17) (Le.eq (Le.eq (Le.eq (Le.eq (Le.eq (Le.eq (Le.eq (Le.eq Le.nil)))))))))) (fun s26 => (zI (wR (yD (md := .hp) (ex_nin (zD 7 rfl) (vE 5 rfl))) (zI (yV 5 rfl rfl (Ex.sc (md := .hp) (zD 7 rfl))) (fun row31 => (zM (fun s30 : List Int => ([.fz false (q0 : Scr), .fz false (q1 : Int), .ow true (s2 : List (List Int)), .fz true (x4 : Int), .fz true (cell5 : Int), .ow true (s30 : List Int), .fz true (x13 : Int), .fz true (s26 : Int)] : List (Slot K))) (row31) (Le.eq (Le.eq (Le.eq (Le.eq (Le.eq (Le.eq (Le.eq (Le.eq Le.nil))))))))))) (zM (fun s30 : List Int => ([.fz false (q0 : Scr), .fz false (q1 : Int), .ow true (s2 : List (List Int)), .fz true (x4 : Int), .fz true (cell5 : Int), .ow true (s30 : List Int), .fz true (x13 : Int), .fz true (s26 : Int)] : List (Slot K))) (s11) (Le.eq (Le.eq (Le.eq (Le.eq (Le.eq (Le.eq (Le.eq (Le.eq Le.nil)))))))))) (fun s29 => (zM (fun s11 : List Int => ([.fz false (q0 : Scr), .fz false (q1 : Int), .ow true (s2 : List (List Int)), .fz true (x4 : Int), .fz true (cell5 : Int), .ow true (s11 : List Int), .un, .un] : List (Slot K))) (s29) (Le.eq (Le.eq (Le.eq (Le.eq (Le.eq (Le.eq (Le.un (Le.un Le.nil))))))))))))))))) (fun s12 => (zI (sn_pre (sl2 := [.fz false (q0 : Scr), .fz false (q1 : Int), .ow true (s2 : List (List Int)), .fz true (x4 : Int), .fz true (cell5 : Int), .fz true (s12 : List Int), .un, .un]) (Le.eq (Le.eq (Le.eq (Le.eq (Le.eq (Le.fr (Le.un (Le.un Le.nil)))))))) (yV 2 rfl rfl (yE 5 rfl))) (fun steps32 => (zM (fun s2 : List (List Int) => ([.fz false (q0 : Scr), .fz false (q1 : Int), .ow true (s2 : List (List Int)), .un, .un, .un, .un, .un] : List (Slot K))) (steps32) (Le.eq (Le.eq (Le.eq (Le.un (Le.un (Le.un (Le.un (Le.un Le.nil))))))))))))))))))) (fun s3 => (vR 2 rfl rfl))))) (by unfold xK; simp only [bnd])
def wB (q0 : Int) (q1 : Int) (q2 : Int) : Option (List Int) := (some (([] : List Int))).bind fun some1 => (divM (q0) ((216 : Int))).bind fun rest2 => (((modM (q0) ((2 : Int))).bind fun a3 => some (decide ((a3) = ((1 : Int))))).bind fun b => if b = true then ((rangeM (q1)).bind fun xs => foldM (fun (s6 : Int) (x8 : Int) => (divM (s6) ((6 : Int))).bind fun rest9 => some (rest9)) xs (rest2)).bind fun s7 => some (s7) else some (rest2)).bind fun s4 => ((rangeM (q1)).bind fun xs => foldM (fun (s10 : (List Int) × Int) (x12 : Int) => (yX (q0) ((x12) + ((1 : Int)))).bind fun one13 => (((powM ((10 : Int)) ((18 : Int))).bind fun b14 => some (decide ((b14) <= (q0)))).bind fun b => if b = true then (some (s10.2)).bind fun one17 => some (one17) else some (one13)).bind fun s15 => (((modM (s15) ((6 : Int))).bind fun a18 => some (decide ((a18) < (q2)))).bind fun b => if b = true then (push s10.1 (x12)).bind fun some21 => some (some21) else some (s10.1)).bind fun s19 => (divM (s10.2) ((6 : Int))).bind fun rest22 => some ((s19, rest22))) xs ((some1, s4))).bind fun s11 => some (s11.1)
theorem sc_l_set_by : FnScope ["_law_cell", "_law_many", "_law_way", "_law_some", "_law_rest", "_law_stand", "_law_one"] ["_law_cell", "_law_many", "_law_way"] (defScope s_l_set_by) := ⟨rfl, rfl, rfl, by decide +kernel, rfl, by decide +kernel, by decide +kernel⟩
set_option maxHeartbeats 4000000 in
theorem ok_l_set_by {k : Nat} {f : Addr} {fd : FuncData} (F : Fun K "_law_set_by" "_law_set_by" s_l_set_by f fd) (B : Bl K mg) (C_l_mix : Cal P w K mg base k "_law_mix" ["_law_cell", "_law_k"] (spF K false (fun a : Int × Int × Unit => ([.fz false a.1, .fz false a.2.1] : List (Slot K))) (fun a => yX a.1 a.2.1))) : FnOk P w K mg base CX0 (k + 1) f fd ["_law_cell", "_law_many", "_law_way"] (spF K false (fun a : Int × Int × Int × Unit => ([.fz false a.1, .fz false a.2.1, .fz false a.2.2.1] : List (Slot K))) (fun a => wB a.1 a.2.1 a.2.2.1)) := by
  refine yQ F sc_l_set_by (fun _ => rfl) (fun _ => rfl) fun cdv A outer s H E hr => ?_
  refine ⟨_, (zA (zS (i := 3) sc_l_set_by.nd rfl (by first|exact .inl rfl|exact .inr rfl) (xT zF)) (zA (zS (i := 4) sc_l_set_by.nd rfl (by first|exact .inl rfl|exact .inr rfl) (zT vW (pv 0) zK)) (zA (xW (yB (uD K (Int) hr) (zT xH (pv 0) zK) zK (nomark _)) (zA (yP PassesOwn.never rfl (yW rfl B.range (zB (pv 1) zF)) (zL (i := 5) sc_l_set_by.nd rfl (by first|exact .inl rfl|exact .inr rfl)) (zA (zS (i := 4) sc_l_set_by.nd rfl (by first|exact .inl rfl|exact .inr rfl) (zT vW (pv 4) zK)) zE)) zE) zE) (zA (yP PassesOwn.never rfl (yW rfl B.range (zB (pv 1) zF)) (zL (i := 5) sc_l_set_by.nd rfl (by first|exact .inl rfl|exact .inr rfl)) (zA (zS (i := 6) sc_l_set_by.nd rfl (by first|exact .inl rfl|exact .inr rfl) (yO C_l_mix hr (zB (pv 0) (zB (zT yY (pv 5) zK) zF)))) (zA (xW (yB op_ge (pv 0) (zT op_pow zK zK) (nomark _)) (zA (zS (i := 6) sc_l_set_by.nd rfl (by first|exact .inl rfl|exact .inr rfl) (pv 4)) zE) zE) (zA (xW (yB op_lt (zT xH (pv 6) zK) (pv 2) (nomark _)) (zA (yU (p_bmK K PySem.F.plainAttrs_list PySem.F.slot_list_append PySem.F.type_list_append yT (pv 3) (zB (pv 5) zF))) zE) zE) (zA (zS (i := 4) sc_l_set_by.nd rfl (by first|exact .inl rfl|exact .inr rfl) (zT vW (pv 4) zK)) zE))))) (zA (yA (pv 3)) zE))))), ?_⟩
  rintro Fa ⟨q0, q1, q2, ⟨⟩⟩
  exact SB.of (zN (wJ true 3 rfl rfl (wM (α := Int))) (fun some1 => (zN (yJ true 4 rfl rfl (Ex.sc (md := .hp) (ex_div (zD 0 rfl) (zJ 216)))) (fun rest2 => (zN (wR (yD (md := .hp) (uG (xJ (zD 0 rfl) (zJ 2)) (zJ 1))) (zI (xE (n := true) (L := (fun s6 : Int => ([.fz false (q0 : Int), .fz false (q1 : Int), .fz false (q2 : Int), .ow true (some1 : List Int), .fz true (s6 : Int), .un, .un] : List (Slot K)))) (rest2) (Le.eq (Le.eq (Le.eq (Le.eq (Le.eq (Le.un (Le.un Le.nil))))))) (xQ (zD 1 rfl)) (fun s6 => (zV 5 rfl rfl)) (fun s6 x8 => (zI (yJ true 4 rfl rfl (Ex.sc (md := .hp) (ex_div (zD 4 rfl) (zJ 6)))) (fun rest9 => (zM (fun s6 : Int => ([.fz false (q0 : Int), .fz false (q1 : Int), .fz false (q2 : Int), .ow true (some1 : List Int), .fz true (s6 : Int), .un, .un] : List (Slot K))) (rest9) (Le.eq (Le.eq (Le.eq (Le.eq (Le.eq (Le.un (Le.un Le.nil)))))))))))) (fun s7 => (zM (fun s5 : Int => ([.fz false (q0 : Int), .fz false (q1 : Int), .fz false (q2 : Int), .ow true (some1 : List Int), .fz true (s5 : Int), .un, .un] : List (Slot K))) (s7) (Le.eq (Le.eq (Le.eq (Le.eq (Le.eq (Le.un (Le.un Le.nil)))))))))) (zM (fun s5 : Int => ([.fz false (q0 : Int), .fz false (q1 : Int), .fz false (q2 : Int), .ow true (some1 : List Int), .fz true (s5 : Int), .un, .un] : List (Slot K))) (rest2) (Le.eq (Le.eq (Le.eq (Le.eq (Le.eq (Le.un (Le.un Le.nil))))))))) (fun s4 => (zN (xE (n := true) (L := (fun s10 : (List Int) × Int => ([.fz false (q0 : Int), .fz false (q1 : Int), .fz false (q2 : Int), .ow true (s10.1 : List Int), .fz true (s10.2 : Int), .un, .un] : List (Slot K)))) ((some1, s4)) (Le.eq (Le.eq (Le.eq (Le.eq (Le.eq (Le.un (Le.un Le.nil))))))) (xQ (zD 1 rfl)) (fun s10 => (zV 5 rfl rfl)) (fun s10 x12 => (zI (yJ true 6 rfl rfl (Ex.sc (md := .hp) (zO (zG (Ex.sc (md := .hp) (zD 0 rfl)) (zG (Ex.sc (md := .hp) (yZ (zD 5 rfl) (zJ 1))) zU))))) (fun one13 => (zI (wR (yD (md := .hp) (ex_ge (zD 0 rfl) (ex_pow (zJ 10) (zJ 18)))) (zI (yJ true 6 rfl rfl (Ex.sc (md := .hp) (zD 4 rfl))) (fun one17 => (zM (fun s16 : Int => ([.fz false (q0 : Int), .fz false (q1 : Int), .fz false (q2 : Int), .ow true (s10.1 : List Int), .fz true (s10.2 : Int), .fz true (x12 : Int), .fz true (s16 : Int)] : List (Slot K))) (one17) (Le.eq (Le.eq (Le.eq (Le.eq (Le.eq (Le.eq (Le.eq Le.nil)))))))))) (zM (fun s16 : Int => ([.fz false (q0 : Int), .fz false (q1 : Int), .fz false (q2 : Int), .ow true (s10.1 : List Int), .fz true (s10.2 : Int), .fz true (x12 : Int), .fz true (s16 : Int)] : List (Slot K))) (one13) (Le.eq (Le.eq (Le.eq (Le.eq (Le.eq (Le.eq (Le.eq Le.nil))))))))) (fun s15 => (zI (wR (yD (md := .hp) (ex_lt (xJ (zD 6 rfl) (zJ 6)) (zD 2 rfl))) (zI (yV 3 rfl rfl (Ex.sc (md := .hp) (zD 5 rfl))) (fun some21 => (zM (fun s20 : List Int => ([.fz false (q0 : Int), .fz false (q1 : Int), .fz false (q2 : Int), .ow true (s20 : List Int), .fz true (s10.2 : Int), .fz true (x12 : Int), .fz true (s15 : Int)] : List (Slot K))) (some21) (Le.eq (Le.eq (Le.eq (Le.eq (Le.eq (Le.eq (Le.eq Le.nil)))))))))) (zM (fun s20 : List Int => ([.fz false (q0 : Int), .fz false (q1 : Int), .fz false (q2 : Int), .ow true (s20 : List Int), .fz true (s10.2 : Int), .fz true (x12 : Int), .fz true (s15 : Int)] : List (Slot K))) (s10.1) (Le.eq (Le.eq (Le.eq (Le.eq (Le.eq (Le.eq (Le.eq Le.nil))))))))) (fun s19 => (zI (yJ true 4 rfl rfl (Ex.sc (md := .hp) (ex_div (zD 4 rfl) (zJ 6)))) (fun rest22 => (zM (fun s10 : (List Int) × Int => ([.fz false (q0 : Int), .fz false (q1 : Int), .fz false (q2 : Int), .ow true (s10.1 : List Int), .fz true (s10.2 : Int), .un, .un] : List (Slot K))) ((s19, rest22)) (Le.eq (Le.eq (Le.eq (Le.eq (Le.eq (Le.un (Le.un Le.nil)))))))))))))))))) (fun s11 => (vR 3 rfl rfl))))))))) (by unfold wB; simp only [bnd])
def xY (q0 : Int) (q1 : Int) : Option (List (List Int)) := (some (([] : List (List Int)))).bind fun fair1 => (divM (q0) ((4 : Int))).bind fun rest2 => (((modM (q0) ((4 : Int))).bind fun a6 => rangeM (a6)).bind fun xs => foldM (fun (s3 : Int × (List (List Int))) (x5 : Int) => (some (([] : List Int))).bind fun some7 => (((yX (q0) (((400 : Int)) + (x5))).bind fun a9 => modM (a9) ((5 : Int))).bind fun b10 => L2.atI ([(1 : Int), (2 : Int), (2 : Int), (3 : Int), (6 : Int)]) (b10)).bind fun way8 => ((rangeM (q1)).bind fun xs => foldM (fun (s11 : (List Int) × Int) (x13 : Int) => (((((((((mulM ((61 : Int)) (x5)).bind fun b15 => some (((500 : Int)) + (b15))).bind fun a16 => some ((a16) + (x13))).bind fun a18 => some ((a18, ()))).bind fun b19 => some ((q0, b19))).bind fun z17 => yX z17.1 z17.2.1).bind fun a20 => modM (a20) ((6 : Int))).bind fun a21 => some (decide ((a21) < (way8)))).bind fun a22 => some (if (a22) = true then (1 : Int) else 0)).bind fun one14 => (((powM ((10 : Int)) ((18 : Int))).bind fun b23 => some (decide ((b23) <= (q0)))).bind fun b => if b = true then (modM (s11.2) ((2 : Int))).bind fun one26 => some (one26) else some (one14)).bind fun s24 => (if (decide ((s24) = ((1 : Int)))) = true then (push s11.1 (x13)).bind fun some29 => some (some29) else some (s11.1)).bind fun s27 => (divM (s11.2) ((2 : Int))).bind fun rest30 => some ((s27, rest30))) xs ((some7, s3.1))).bind fun s12 => ((if (decide ((s12.1) = (([] : List Int)))) = true then ((powM ((10 : Int)) ((18 : Int))).bind fun b31 => some (decide ((q0) < (b31)))).bind fun c34 => if c34 = true then ((yX (q0) (((450 : Int)) + (x5))).bind fun a32 => modM (a32) ((8 : Int))).bind fun a33 => some (decide (((0 : Int)) < (a33))) else some false else some false).bind fun b => if b = true then (((yX (q0) (((460 : Int)) + (x5))).bind fun a38 => modM (a38) (q1)).bind fun a39 => some ((a39) :: ([]))).bind fun some37 => some (some37) else some (s12.1)).bind fun s35 => (push s3.2 (s35)).bind fun fair40 => some ((s12.2, fair40))) xs ((rest2, fair1))).bind fun s4 => some (s4.2)
theorem sc_l_fair_by : FnScope ["_law_cell", "_law_many", "_law_fair", "_law_rest", "_law_k", "_law_some", "_law_way", "_law_stand", "_law_one"] ["_law_cell", "_law_many"] (defScope s_l_fair_by) := ⟨rfl, rfl, rfl, by decide +kernel, rfl, by decide +kernel, by decide +kernel⟩
set_option maxHeartbeats 4000000 in
theorem ok_l_fair_by {k : Nat} {f : Addr} {fd : FuncData} (F : Fun K "_law_fair_by" "_law_fair_by" s_l_fair_by f fd) (B : Bl K mg) (C_l_mix : Cal P w K mg base k "_law_mix" ["_law_cell", "_law_k"] (spF K false (fun a : Int × Int × Unit => ([.fz false a.1, .fz false a.2.1] : List (Slot K))) (fun a => yX a.1 a.2.1))) : FnOk P w K mg base CX0 (k + 1) f fd ["_law_cell", "_law_many"] (spF K false (fun a : Int × Int × Unit => ([.fz false a.1, .fz false a.2.1] : List (Slot K))) (fun a => xY a.1 a.2.1)) := by
  refine yQ F sc_l_fair_by (fun _ => rfl) (fun _ => rfl) fun cdv A outer s H E hr => ?_
  refine ⟨_, (zA (zS (i := 2) sc_l_fair_by.nd rfl (by first|exact .inl rfl|exact .inr rfl) (xT zF)) (zA (zS (i := 3) sc_l_fair_by.nd rfl (by first|exact .inl rfl|exact .inr rfl) (zT vW (pv 0) zK)) (zA (yP PassesOwn.never rfl (yW rfl B.range (zB (zT xH (pv 0) zK) zF)) (zL (i := 4) sc_l_fair_by.nd rfl (by first|exact .inl rfl|exact .inr rfl)) (zA (zS (i := 5) sc_l_fair_by.nd rfl (by first|exact .inl rfl|exact .inr rfl) (xT zF)) (zA (zS (i := 6) sc_l_fair_by.nd rfl (by first|exact .inl rfl|exact .inr rfl) (uB (ixLK K) (xT (zB zK (zB zK (zB zK (zB zK (zB zK zF)))))) (zT xH (yO C_l_mix hr (zB (pv 0) (zB (zT yY zK (pv 4)) zF))) zK) (fun _ _ => rfl))) (zA (yP PassesOwn.never rfl (yW rfl B.range (zB (pv 1) zF)) (zL (i := 7) sc_l_fair_by.nd rfl (by first|exact .inl rfl|exact .inr rfl)) (zA (zS (i := 8) sc_l_fair_by.nd rfl (by first|exact .inl rfl|exact .inr rfl) (wK call_int1 rfl B.int bt_int (zB (pe_cmpR op_lt (zT xH (yO C_l_mix hr (zB (pv 0) (zB (zT yY (zT yY zK (zT op_mul zK (pv 4))) (pv 7)) zF))) zK) (pv 6) (nomark _)) zF))) (zA (xW (yB op_ge (pv 0) (zT op_pow zK zK) (nomark _)) (zA (zS (i := 8) sc_l_fair_by.nd rfl (by first|exact .inl rfl|exact .inr rfl) (zT xH (pv 3) zK)) zE) zE) (zA (xW (yB (uD K (Int) hr) (pv 8) zK (nomark _)) (zA (yU (p_bmK K PySem.F.plainAttrs_list PySem.F.slot_list_append PySem.F.type_list_append yT (pv 5) (zB (pv 7) zF))) zE) zE) (zA (zS (i := 3) sc_l_fair_by.nd rfl (by first|exact .inl rfl|exact .inr rfl) (zT vW (pv 3) zK)) zE))))) (zA (xW (PW.pt (pw_and (yB (uD K (List Int) hr) (pv 5) (xT zF) (nomark _)) (pw_and (yB op_lt (pv 0) (zT op_pow zK zK) (nomark _)) (pw_and1 (yB op_gt (zT xH (yO C_l_mix hr (zB (pv 0) (zB (zT yY zK (pv 4)) zF))) zK) zK (nomark _)))))) (zA (zS (i := 5) sc_l_fair_by.nd rfl (by first|exact .inl rfl|exact .inr rfl) (xT (zB (zT xH (yO C_l_mix hr (zB (pv 0) (zB (zT yY zK (pv 4)) zF))) (pv 1)) zF))) zE) zE) (zA (yU (p_bmK K PySem.F.plainAttrs_list PySem.F.slot_list_append PySem.F.type_list_append yT (pv 2) (zB (pv 5) zF))) zE)))))) (zA (yA (pv 2)) zE)))), ?_⟩
  rintro Fa ⟨q0, q1, ⟨⟩⟩
  exact SB.of (zN (wJ true 2 rfl rfl (wM (α := List Int))) (fun fair1 => (zN (yJ true 3 rfl rfl (Ex.sc (md := .hp) (ex_div (zD 0 rfl) (zJ 4)))) (fun rest2 => (zN (xE (n := true) (L := (fun s3 : Int × (List (List Int)) => ([.fz false (q0 : Int), .fz false (q1 : Int), .ow true (s3.2 : List (List Int)), .fz true (s3.1 : Int), .un, .un, .un, .un, .un] : List (Slot K)))) ((rest2, fair1)) (Le.eq (Le.eq (Le.eq (Le.eq (Le.un (Le.un (Le.un (Le.un (Le.un Le.nil))))))))) (xQ (xJ (zD 0 rfl) (zJ 4))) (fun s3 => (zV 4 rfl rfl)) (fun s3 x5 => (zI (wJ true 5 rfl rfl (wM (α := Int))) (fun some7 => (zI (yJ true 6 rfl rfl (Ex.sc (md := .hp) (Ex.sc (md := .hp) (ex_ix (eo_lst (wO (Ex.sc (md := .hp) (zJ 1)) (wO (Ex.sc (md := .hp) (zJ 2)) (wO (Ex.sc (md := .hp) (zJ 2)) (wO (Ex.sc (md := .hp) (zJ 3)) (wO (Ex.sc (md := .hp) (zJ 6)) el_nil))))) (fun a h => Nat.le_trans ((vZ (vZ (vZ (vZ (vZ el_len0))))) a h) (by decide))).ex (xJ (zO (zG (Ex.sc (md := .hp) (zD 0 rfl)) (zG (Ex.sc (md := .hp) (yZ (zJ 400) (zD 4 rfl))) zU))) (zJ 5)))))) (fun way8 => (zI (xE (n := true) (L := (fun s11 : (List Int) × Int => ([.fz false (q0 : Int), .fz false (q1 : Int), .ow true (s3.2 : List (List Int)), .fz true (s11.2 : Int), .fz true (x5 : Int), .ow true (s11.1 : List Int), .fz true (way8 : Int), .un, .un] : List (Slot K)))) ((some7, s3.1)) (Le.eq (Le.eq (Le.eq (Le.eq (Le.eq (Le.eq (Le.eq (Le.un (Le.un Le.nil))))))))) (xQ (zD 1 rfl)) (fun s11 => (zV 7 rfl rfl)) (fun s11 x13 => (zI (yJ true 8 rfl rfl (Ex.sc (md := .hp) (ex_intb (ex_lt (xJ (zO (zG (Ex.sc (md := .hp) (zD 0 rfl)) (zG (Ex.sc (md := .hp) (yZ (yZ (zJ 500) (ex_mul (zJ 61) (zD 4 rfl))) (zD 7 rfl))) zU))) (zJ 6)) (zD 6 rfl))))) (fun one14 => (zI (wR (yD (md := .hp) (ex_ge (zD 0 rfl) (ex_pow (zJ 10) (zJ 18)))) (zI (yJ true 8 rfl rfl (Ex.sc (md := .hp) (xJ (zD 3 rfl) (zJ 2)))) (fun one26 => (zM (fun s25 : Int => ([.fz false (q0 : Int), .fz false (q1 : Int), .ow true (s3.2 : List (List Int)), .fz true (s11.2 : Int), .fz true (x5 : Int), .ow true (s11.1 : List Int), .fz true (way8 : Int), .fz true (x13 : Int), .fz true (s25 : Int)] : List (Slot K))) (one26) (Le.eq (Le.eq (Le.eq (Le.eq (Le.eq (Le.eq (Le.eq (Le.eq (Le.eq Le.nil)))))))))))) (zM (fun s25 : Int => ([.fz false (q0 : Int), .fz false (q1 : Int), .ow true (s3.2 : List (List Int)), .fz true (s11.2 : Int), .fz true (x5 : Int), .ow true (s11.1 : List Int), .fz true (way8 : Int), .fz true (x13 : Int), .fz true (s25 : Int)] : List (Slot K))) (one14) (Le.eq (Le.eq (Le.eq (Le.eq (Le.eq (Le.eq (Le.eq (Le.eq (Le.eq Le.nil))))))))))) (fun s24 => (zI (wR (yD (md := .hp) (uG (zD 8 rfl) (zJ 1))) (zI (yV 5 rfl rfl (Ex.sc (md := .hp) (zD 7 rfl))) (fun some29 => (zM (fun s28 : List Int => ([.fz false (q0 : Int), .fz false (q1 : Int), .ow true (s3.2 : List (List Int)), .fz true (s11.2 : Int), .fz true (x5 : Int), .ow true (s28 : List Int), .fz true (way8 : Int), .fz true (x13 : Int), .fz true (s24 : Int)] : List (Slot K))) (some29) (Le.eq (Le.eq (Le.eq (Le.eq (Le.eq (Le.eq (Le.eq (Le.eq (Le.eq Le.nil)))))))))))) (zM (fun s28 : List Int => ([.fz false (q0 : Int), .fz false (q1 : Int), .ow true (s3.2 : List (List Int)), .fz true (s11.2 : Int), .fz true (x5 : Int), .ow true (s28 : List Int), .fz true (way8 : Int), .fz true (x13 : Int), .fz true (s24 : Int)] : List (Slot K))) (s11.1) (Le.eq (Le.eq (Le.eq (Le.eq (Le.eq (Le.eq (Le.eq (Le.eq (Le.eq Le.nil))))))))))) (fun s27 => (zI (yJ true 3 rfl rfl (Ex.sc (md := .hp) (ex_div (zD 3 rfl) (zJ 2)))) (fun rest30 => (zM (fun s11 : (List Int) × Int => ([.fz false (q0 : Int), .fz false (q1 : Int), .ow true (s3.2 : List (List Int)), .fz true (s11.2 : Int), .fz true (x5 : Int), .ow true (s11.1 : List Int), .fz true (way8 : Int), .un, .un] : List (Slot K))) ((s27, rest30)) (Le.eq (Le.eq (Le.eq (Le.eq (Le.eq (Le.eq (Le.eq (Le.un (Le.un Le.nil)))))))))))))))))))) (fun s12 => (zI (wR (et_and (yD (md := .hp) (uG (vE 5 rfl) (wM (α := Int)).ex)) (et_and (yD (md := .hp) (ex_lt (zD 0 rfl) (ex_pow (zJ 10) (zJ 18)))) (yD (md := .hp) (ex_gt (xJ (zO (zG (Ex.sc (md := .hp) (zD 0 rfl)) (zG (Ex.sc (md := .hp) (yZ (zJ 450) (zD 4 rfl))) zU))) (zJ 8)) (zJ 0))))) (zI (sn_pre (sl2 := [.fz false (q0 : Int), .fz false (q1 : Int), .ow true (s3.2 : List (List Int)), .fz true (s12.2 : Int), .fz true (x5 : Int), .un, .fz true (way8 : Int), .un, .un]) (Le.eq (Le.eq (Le.eq (Le.eq (Le.eq (Le.un (Le.eq (Le.un (Le.un Le.nil))))))))) (wJ true 5 rfl rfl (eo_lst (wO (Ex.sc (md := .hp) (xJ (zO (zG (Ex.sc (md := .hp) (zD 0 rfl)) (zG (Ex.sc (md := .hp) (yZ (zJ 460) (zD 4 rfl))) zU))) (zD 1 rfl))) el_nil) (fun a h => Nat.le_trans ((vZ el_len0) a h) (by decide))))) (fun some37 => (zM (fun s36 : List Int => ([.fz false (q0 : Int), .fz false (q1 : Int), .ow true (s3.2 : List (List Int)), .fz true (s12.2 : Int), .fz true (x5 : Int), .ow true (s36 : List Int), .fz true (way8 : Int), .un, .un] : List (Slot K))) (some37) (Le.eq (Le.eq (Le.eq (Le.eq (Le.eq (Le.eq (Le.eq (Le.un (Le.un Le.nil)))))))))))) (zM (fun s36 : List Int => ([.fz false (q0 : Int), .fz false (q1 : Int), .ow true (s3.2 : List (List Int)), .fz true (s12.2 : Int), .fz true (x5 : Int), .ow true (s36 : List Int), .fz true (way8 : Int), .un, .un] : List (Slot K))) (s12.1) (Le.eq (Le.eq (Le.eq (Le.eq (Le.eq (Le.eq (Le.eq (Le.un (Le.un Le.nil))))))))))) (fun s35 => (zI (sn_pre (sl2 := [.fz false (q0 : Int), .fz false (q1 : Int), .ow true (s3.2 : List (List Int)), .fz true (s12.2 : Int), .fz true (x5 : Int), .fz true (s35 : List Int), .fz true (way8 : Int), .un, .un]) (Le.eq (Le.eq (Le.eq (Le.eq (Le.eq (Le.fr (Le.eq (Le.un (Le.un Le.nil))))))))) (yV 2 rfl rfl (yE 5 rfl))) (fun fair40 => (zM (fun s3 : Int × (List (List Int)) => ([.fz false (q0 : Int), .fz false (q1 : Int), .ow true (s3.2 : List (List Int)), .fz true (s3.1 : Int), .un, .un, .un, .un, .un] : List (Slot K))) ((s12.2, fair40)) (Le.eq (Le.eq (Le.eq (Le.eq (Le.un (Le.un (Le.un (Le.un (Le.un Le.nil)))))))))))))))))))))) (fun s4 => (vR 2 rfl rfl))))))) (by unfold xY; simp only [bnd])
def xL (q0 : Int) : Option Int := ((modM (q0) ((8 : Int))).bind fun a1 => some (decide ((a1) = ((5 : Int))))).bind fun b => if b = true then ((divM (q0) ((8 : Int))).bind fun a2 => modM (a2) ((12 : Int))).bind fun b3 => some (((1 : Int)) + (b3)) else ((divM (q0) ((8 : Int))).bind fun a4 => modM (a4) ((8 : Int))).bind fun b5 => some (((1 : Int)) + (b5))
theorem sc_l_small_by : FnScope ["_law_cell"] ["_law_cell"] (defScope s_l_small_by) := ⟨rfl, rfl, rfl, by decide +kernel, rfl, by decide +kernel, by decide +kernel⟩
set_option maxHeartbeats 4000000 in
theorem ok_l_small_by {k : Nat} {f : Addr} {fd : FuncData} (F : Fun K "_law_small_by" "_law_small_by" s_l_small_by f fd) (B : Bl K mg) : FnOk P w K mg base CX0 (k + 1) f fd ["_law_cell"] (spF K false (fun a : Int × Unit => ([.fz false a.1] : List (Slot K))) (fun a => xL a.1)) := by
  refine yQ F sc_l_small_by (fun _ => rfl) (fun _ => rfl) fun cdv A outer s H E hr => ?_
  refine ⟨_, (zA (xW (yB (uD K (Int) hr) (zT xH (pv 0) zK) zK (nomark _)) (zA (yA (zT yY zK (zT xH (zT vW (pv 0) zK) zK))) zE) zE) (zA (yA (zT yY zK (zT xH (zT vW (pv 0) zK) zK))) zE)), ?_⟩
  rintro Fa ⟨q0, ⟨⟩⟩
  exact SB.of (sb_ifr (yD (md := .hp) (uG (xJ (zD 0 rfl) (zJ 8)) (zJ 5))) (yS (Ex.sc (md := .hp) (yZ (zJ 1) (xJ (ex_div (zD 0 rfl) (zJ 8)) (zJ 12))))) (yS (Ex.sc (md := .hp) (yZ (zJ 1) (xJ (ex_div (zD 0 rfl) (zJ 8)) (zJ 8)))))) (by unfold xL; simp only [bnd])
def xM (q0 : Int) (q1 : Int) : Option ((List (List Int)) × (List (List Int))) := (some (([] : List (List Int)))).bind fun steps1 => ((rangeM (q1)).bind fun xs => foldM (fun (s2 : List (List Int)) (x4 : Int) => (some (([] : List Int))).bind fun row5 => (if (decide (((x4) + ((1 : Int))) < (q1))) = true then (push row5 ((x4) + ((1 : Int)))).bind fun row8 => some (row8) else some (row5)).bind fun s6 => ((if (decide ((s6) = (([] : List Int)))) = true then some true else ((yX (q0) (x4)).bind fun a9 => modM (a9) ((5 : Int))).bind fun a10 => some (decide (((0 : Int)) < (a10)))).bind fun b => if b = true then (push s6 (x4)).bind fun row13 => some (row13) else some (s6)).bind fun s11 => (push s2 (s11)).bind fun steps14 => some (steps14)) xs (steps1)).bind fun s3 => ((modM (q0) ((2 : Int))).bind fun b16 => some (((2 : Int)) + (b16))).bind fun turns15 => ((rangeM (turns15)).bind fun xs => compL (fun (x18 : Int) => some true) (fun (x18 : Int) => (rangeM (q1)).bind fun xs => compL (fun (x19 : Int) => (((divM (q0) ((2 : Int))).bind fun b20 => some ((x19) + (b20))).bind fun a21 => modM (a21) (turns15)).bind fun a22 => some (decide ((a22) = (x18)))) (fun (x19 : Int) => some (x19)) xs) xs).bind fun fair17 => some ((s3, fair17))
theorem sc_l_line_by : FnScope ["_law_cell", "_law_many", "_law_steps", "_law_stand", "_law_row", "_law_turns", "_law_fair"] ["_law_cell", "_law_many"] (defScope s_l_line_by) := ⟨rfl, rfl, rfl, by decide +kernel, rfl, by decide +kernel, by decide +kernel⟩
set_option maxHeartbeats 4000000 in
theorem ok_l_line_by {k : Nat} {f : Addr} {fd : FuncData} (F : Fun K "_law_line_by" "_law_line_by" s_l_line_by f fd) (B : Bl K mg) (C_l_mix : Cal P w K mg base k "_law_mix" ["_law_cell", "_law_k"] (spF K false (fun a : Int × Int × Unit => ([.fz false a.1, .fz false a.2.1] : List (Slot K))) (fun a => yX a.1 a.2.1))) : FnOk P w K mg base CX0 (k + 1) f fd ["_law_cell", "_law_many"] (spF K false (fun a : Int × Int × Unit => ([.fz false a.1, .fz false a.2.1] : List (Slot K))) (fun a => xM a.1 a.2.1)) := by
  refine yQ F sc_l_line_by (fun _ => rfl) (fun _ => rfl) fun cdv A outer s H E hr => ?_
  refine ⟨_, (zA (zS (i := 2) sc_l_line_by.nd rfl (by first|exact .inl rfl|exact .inr rfl) (xT zF)) (zA (yP PassesOwn.never rfl (yW rfl B.range (zB (pv 1) zF)) (zL (i := 3) sc_l_line_by.nd rfl (by first|exact .inl rfl|exact .inr rfl)) (zA (zS (i := 4) sc_l_line_by.nd rfl (by first|exact .inl rfl|exact .inr rfl) (xT zF)) (zA (xW (yB op_lt (zT yY (pv 3) zK) (pv 1) (nomark _)) (zA (yU (p_bmK K PySem.F.plainAttrs_list PySem.F.slot_list_append PySem.F.type_list_append yT (pv 4) (zB (zT yY (pv 3) zK) zF))) zE) zE) (zA (xW (PW.pt (pw_or (yB (uD K (List Int) hr) (pv 4) (xT zF) (nomark _)) (pw_or1 (yB op_gt (zT xH (yO C_l_mix hr (zB (pv 0) (zB (pv 3) zF))) zK) zK (nomark _))))) (zA (yU (p_bmK K PySem.F.plainAttrs_list PySem.F.slot_list_append PySem.F.type_list_append yT (pv 4) (zB (pv 3) zF))) zE) zE) (zA (yU (p_bmK K PySem.F.plainAttrs_list PySem.F.slot_list_append PySem.F.type_list_append yT (pv 2) (zB (pv 4) zF))) zE))))) (zA (zS (i := 5) sc_l_line_by.nd rfl (by first|exact .inl rfl|exact .inr rfl) (zT yY zK (zT xH (pv 0) zK))) (zA (ps_comp (i := 6) (own := ["_law_k"]) (ix := [1, 0, 5]) sc_l_line_by.nd rfl rfl rfl rfl rfl (yW rfl B.range (zB (pv 5) zF)) (fun C s H fp => zL (i := 0) (show (["_law_k", "_law_many", "_law_cell", "_law_turns"] : List Str).Nodup from by decide +kernel) rfl (Or.inr rfl)) (fun C s H fp => vA) (fun C s H fp => (vC (own := ["_law_stand"]) (ix := [2, 3, 0]) rfl rfl rfl (yW rfl B.range (zB (pv 1) zF)) (fun C s H fp => zL (i := 0) (show (["_law_stand", "_law_cell", "_law_turns", "_law_k"] : List Str).Nodup from by decide +kernel) rfl (Or.inl rfl)) (fun C s H fp => pif_one (yB (uD K (Int) hr) (zT xH (zT yY (pv 0) (zT vW (pv 1) zK)) (pv 2)) (pv 3) (nomark _))) (fun C s H fp => (pv 0))))) (zA (yA (pe_tup (zB (pv 2) (zB (pv 6) zF)))) zE))))), ?_⟩
  rintro Fa ⟨q0, q1, ⟨⟩⟩
  exact SB.of (zN (wJ true 2 rfl rfl (wM (α := List Int))) (fun steps1 => (zN (xE (n := true) (L := (fun s2 : List (List Int) => ([.fz false (q0 : Int), .fz false (q1 : Int), .ow true (s2 : List (List Int)), .un, .un, .un, .un] : List (Slot K)))) (steps1) (Le.eq (Le.eq (Le.eq (Le.un (Le.un (Le.un (Le.un Le.nil))))))) (xQ (zD 1 rfl)) (fun s2 => (zV 3 rfl rfl)) (fun s2 x4 => (zI (wJ true 4 rfl rfl (wM (α := Int))) (fun row5 => (zI (wR (yD (md := .hp) (ex_lt (yZ (zD 3 rfl) (zJ 1)) (zD 1 rfl))) (zI (yV 4 rfl rfl (Ex.sc (md := .hp) (yZ (zD 3 rfl) (zJ 1)))) (fun row8 => (zM (fun s7 : List Int => ([.fz false (q0 : Int), .fz false (q1 : Int), .ow true (s2 : List (List Int)), .fz true (x4 : Int), .ow true (s7 : List Int), .un, .un] : List (Slot K))) (row8) (Le.eq (Le.eq (Le.eq (Le.eq (Le.eq (Le.un (Le.un Le.nil)))))))))) (zM (fun s7 : List Int => ([.fz false (q0 : Int), .fz false (q1 : Int), .ow true (s2 : List (List Int)), .fz true (x4 : Int), .ow true (s7 : List Int), .un, .un] : List (Slot K))) (row5) (Le.eq (Le.eq (Le.eq (Le.eq (Le.eq (Le.un (Le.un Le.nil))))))))) (fun s6 => (zI (wR (et_or (yD (md := .hp) (uG (vE 4 rfl) (wM (α := Int)).ex)) (yD (md := .hp) (ex_gt (xJ (zO (zG (Ex.sc (md := .hp) (zD 0 rfl)) (zG (Ex.sc (md := .hp) (zD 3 rfl)) zU))) (zJ 5)) (zJ 0)))) (zI (yV 4 rfl rfl (Ex.sc (md := .hp) (zD 3 rfl))) (fun row13 => (zM (fun s12 : List Int => ([.fz false (q0 : Int), .fz false (q1 : Int), .ow true (s2 : List (List Int)), .fz true (x4 : Int), .ow true (s12 : List Int), .un, .un] : List (Slot K))) (row13) (Le.eq (Le.eq (Le.eq (Le.eq (Le.eq (Le.un (Le.un Le.nil)))))))))) (zM (fun s12 : List Int => ([.fz false (q0 : Int), .fz false (q1 : Int), .ow true (s2 : List (List Int)), .fz true (x4 : Int), .ow true (s12 : List Int), .un, .un] : List (Slot K))) (s6) (Le.eq (Le.eq (Le.eq (Le.eq (Le.eq (Le.un (Le.un Le.nil))))))))) (fun s11 => (zI (sn_pre (sl2 := [.fz false (q0 : Int), .fz false (q1 : Int), .ow true (s2 : List (List Int)), .fz true (x4 : Int), .fz true (s11 : List Int), .un, .un]) (Le.eq (Le.eq (Le.eq (Le.eq (Le.fr (Le.un (Le.un Le.nil))))))) (yV 2 rfl rfl (yE 4 rfl))) (fun steps14 => (zM (fun s2 : List (List Int) => ([.fz false (q0 : Int), .fz false (q1 : Int), .ow true (s2 : List (List Int)), .un, .un, .un, .un] : List (Slot K))) (steps14) (Le.eq (Le.eq (Le.eq (Le.un (Le.un (Le.un (Le.un Le.nil)))))))))))))))))) (fun s3 => (zN (yJ true 5 rfl rfl (Ex.sc (md := .hp) (yZ (zJ 2) (xJ (zD 0 rfl) (zJ 2))))) (fun turns15 => (zN (yJ true 6 rfl rfl (wA (n := true) (slI := [.un, .fz false (q1 : Int), .fz false (q0 : Int), .fz true (turns15 : Int)]) (no := 1) (ix := [1, 0, 5]) rfl rfl (xQ (zD 5 rfl)) (zV 0 rfl rfl) (fun x18 => et_if0) (fun x18 => (wA (n := true) (slI := [.un, .fz false (q0 : Int), .fz true (turns15 : Int), .fz true (x18 : Int)]) (no := 1) (ix := [2, 3, 0]) rfl rfl (xQ (zD 1 rfl)) (zV 0 rfl rfl) (fun x19 => (yD (md := .hp) (uG (xJ (yZ (zD 0 rfl) (ex_div (zD 1 rfl) (zJ 2))) (zD 2 rfl)) (zD 3 rfl)))) (fun x19 => (Ex.sc (md := .hp) (zD 0 rfl))) (fun x19 => (Le0.un (Le0.eq (Le0.eq (Le0.eq Le0.nil)))))).ex) (fun x18 => (Le0.un (Le0.eq (Le0.eq (Le0.eq Le0.nil)))))).ex) (fun fair17 => (sb_pre (sl2 := [.fz false (q0 : Int), .fz false (q1 : Int), .fz true (s3 : List (List Int)), .un, .un, .fz true (turns15 : Int), .fz true (fair17 : List (List Int))]) (Le.eq (Le.eq (Le.fr (Le.un (Le.un (Le.eq (Le.eq Le.nil))))))) (yS (ex_tup2 (yE 2 rfl) (yE 6 rfl)))))))))))) (by unfold xM; simp only [bnd])
def wS (q0 : List (List Int)) (q1 : List Int) (q2 : Int) : Option (Dc Bool) := (some [((Sum.inl q2 : Key), true)]).bind fun found1 => (some ([q2])).bind fun waiting2 => (whileM (fun s3 : (List (Key × Bool)) × (List Int) => some (!decide ((s3.2) = (([] : List Int))))) (fun s3 : (List (Key × Bool)) × (List Int) => (((s3.2).getLast?.bind fun y => L2.atI (q0) y).bind fun xs => foldM (fun (s5 : (List (Key × Bool)) × (List Int)) (x7 : Int) => ((if (decide ((x7) ∈ (q1))) = true then some (!(dget ((Dc.mk s5.1)).kv (x7)).isSome) else some false).bind fun b => if b = true then (dput s5.1 (x7) (true)).bind fun found10 => (push s5.2 (x7)).bind fun waiting11 => some ((found10, waiting11)) else some ((s5.1, s5.2))).bind fun s8 => some ((s8.1, s8.2))) xs ((s3.1, (s3.2).dropLast))).bind fun s6 => some ((s6.1, s6.2))) fuel ((found1, waiting2))).bind fun s4 => some (Dc.mk s4.1)
theorem sc_l_reach : FnScope ["_law_steps", "_law_keys", "_law_stand", "_law_found", "_law_waiting", "_law_other"] ["_law_steps", "_law_keys", "_law_stand"] (defScope s_l_reach) := ⟨rfl, rfl, rfl, by decide +kernel, rfl, by decide +kernel, by decide +kernel⟩
set_option maxHeartbeats 4000000 in
theorem ok_l_reach {k : Nat} {f : Addr} {fd : FuncData} (F : Fun K "_law_reach" "_law_reach" s_l_reach f fd) (B : Bl K mg) : FnOk P w K mg base CX0 (k + 1) f fd ["_law_steps", "_law_keys", "_law_stand"] (spF K false (fun a : ((List (List Int))) × ((List Int)) × Int × Unit => ([.fz false a.1, .fz false a.2.1, .fz false a.2.2.1] : List (Slot K))) (fun a => wS a.1 a.2.1 a.2.2.1)) := by
  refine yQ F sc_l_reach (fun _ => rfl) (fun _ => rfl) fun cdv A outer s H E hr => ?_
  have hu := hu_of hr
  refine ⟨_, (zA (zS (i := 3) sc_l_reach.nd rfl (by first|exact .inl rfl|exact .inr rfl) (pe_disp1 (pv 2) uV)) (zA (zS (i := 4) sc_l_reach.nd rfl (by first|exact .inl rfl|exact .inr rfl) (xT (zB (pv 2) zF))) (zA (ps_while PassesOwn.never (yB (op_nev K (List Int) hr) (pv 4) (xT zF) (nomark _)) (zA (yP PassesOwn.never rfl (yI K (uB (ixLK K) (pv 0) (p_bm0K K PySem.F.plainAttrs_list PySem.F.slot_list_pop PySem.F.type_list_pop mt_pop (pv 4)) (fun _ _ => rfl))) (zL (i := 5) sc_l_reach.nd rfl (by first|exact .inl rfl|exact .inr rfl)) (zA (xW (PW.pt (pw_and (yB (op_inK K) (pv 5) (pv 1) (by with_unfolding_all rfl)) (pw_and1 (vI (pc_dnotin hu (pv 5) (pv 3)))))) (zA (ps_dput hu (pv 3) (pv 5) uV rfl) (zA (yU (p_bmK K PySem.F.plainAttrs_list PySem.F.slot_list_append PySem.F.type_list_append yT (pv 4) (zB (pv 5) zF))) zE)) zE) zE)) zE)) (zA (yA (pv 3)) zE)))), ?_⟩
  rintro Fa ⟨q0, q1, q2, ⟨⟩⟩
  exact SB.of (zN (sn_disp1 3 2 rfl rfl rfl) (fun found1 => (zN (wJ true 4 rfl rfl (eo_lst (wO (Ex.sc (md := .hp) (zD 2 rfl)) el_nil) (fun a h => Nat.le_trans ((vZ el_len0) a h) (by decide)))) (fun waiting2 => (zN (sn_while (L := (fun s3 : (List (Key × Bool)) × (List Int) => ([.fz false (q0 : List (List Int)), .fz false (q1 : List Int), .fz false (q2 : Int), .od (s3.1 : List (Key × Bool)), .ow true (s3.2 : List Int), .un] : List (Slot K)))) fuel ((found1, waiting2)) (Le.eq (Le.eq (Le.eq (Le.eq (Le.eq (Le.un Le.nil)))))) (fun s3 => (yD (md := .hp) (ex_nev (vE 4 rfl) (wM (α := Int)).ex))) (fun s3 => (zI (sn_forC (n := false) (L := (fun s5 : (List (Key × Bool)) × (List Int) => ([.fz false (q0 : List (List Int)), .fz false (q1 : List Int), .fz false (q2 : Int), .od (s5.1 : List (Key × Bool)), .ow true (s5.2 : List Int), .un] : List (Slot K)))) ((s3.1, (s3.2).dropLast)) (Le.eq (Le.eq (Le.eq (Le.eq (Le.eq (Le.un Le.nil)))))) (ec_popix 4 rfl rfl (yE 0 rfl)) (fun s5 => (zV 5 rfl rfl)) (fun s5 x7 => (zI (wR (et_and (yD (md := .hp) (ex_in (zD 5 rfl) (zH 1 rfl))) (et_b (md := .hp) (ex_dnotin (zD 5 rfl) (ex_varD 3 rfl)))) (zI (sn_dput 3 rfl rfl (Ex.sc (md := .hp) (ex_bl true)) (zD 5 rfl)) (fun found10 => (zI (yV 4 rfl rfl (Ex.sc (md := .hp) (zD 5 rfl))) (fun waiting11 => (zM (fun s9 : (List (Key × Bool)) × (List Int) => ([.fz false (q0 : List (List Int)), .fz false (q1 : List Int), .fz false (q2 : Int), .od (s9.1 : List (Key × Bool)), .ow true (s9.2 : List Int), .fz false (x7 : Int)] : List (Slot K))) ((found10, waiting11)) (Le.eq (Le.eq (Le.eq (Le.eq (Le.eq (Le.eq Le.nil))))))))))) (zM (fun s9 : (List (Key × Bool)) × (List Int) => ([.fz false (q0 : List (List Int)), .fz false (q1 : List Int), .fz false (q2 : Int), .od (s9.1 : List (Key × Bool)), .ow true (s9.2 : List Int), .fz false (x7 : Int)] : List (Slot K))) ((s5.1, s5.2)) (Le.eq (Le.eq (Le.eq (Le.eq (Le.eq (Le.eq Le.nil)))))))) (fun s8 => (zM (fun s5 : (List (Key × Bool)) × (List Int) => ([.fz false (q0 : List (List Int)), .fz false (q1 : List Int), .fz false (q2 : Int), .od (s5.1 : List (Key × Bool)), .ow true (s5.2 : List Int), .un] : List (Slot K))) ((s8.1, s8.2)) (Le.eq (Le.eq (Le.eq (Le.eq (Le.eq (Le.un Le.nil))))))))))) (fun s6 => (zM (fun s3 : (List (Key × Bool)) × (List Int) => ([.fz false (q0 : List (List Int)), .fz false (q1 : List Int), .fz false (q2 : Int), .od (s3.1 : List (Key × Bool)), .ow true (s3.2 : List Int), .un] : List (Slot K))) ((s6.1, s6.2)) (Le.eq (Le.eq (Le.eq (Le.eq (Le.eq (Le.un Le.nil))))))))))) (fun s4 => (sb_retD 3 rfl))))))) (by unfold wS; simp only [bnd])
def wU (q0 : List (List Int)) (q1 : List Int) (q2 : Dc (Dc Bool)) (q3 : Int) : Option Bool := ((L2.atI (q0) (q3)).bind fun xs => foldX (fun (s1 : Unit) (x3 : Int) => (if (decide ((x3) ∈ (q1))) = true then (dget (q2).kv (x3)).bind fun b4 => some ((dget (b4).kv (q3)).isSome) else some false).bind fun b => if b = true then (some (true)).bind fun b => some (.rt b) else some (.nx (()))) xs (())).bind fun o => o.els fun s2 => some (false)
theorem sc_l_again : FnScope ["_law_steps", "_law_keys", "_law_comes", "_law_stand", "_law_other"] ["_law_steps", "_law_keys", "_law_comes", "_law_stand"] (defScope s_l_again) := ⟨rfl, rfl, rfl, by decide +kernel, rfl, by decide +kernel, by decide +kernel⟩
set_option maxHeartbeats 4000000 in
theorem ok_l_again {k : Nat} {f : Addr} {fd : FuncData} (F : Fun K "_law_again" "_law_again" s_l_again f fd) (B : Bl K mg) : FnOk P w K mg base CX0 (k + 1) f fd ["_law_steps", "_law_keys", "_law_comes", "_law_stand"] (spF K false (fun a : ((List (List Int))) × ((List Int)) × ((Dc (Dc Bool))) × Int × Unit => ([.fz false a.1, .fz false a.2.1, .fz false a.2.2.1, .fz false a.2.2.2.1] : List (Slot K))) (fun a => wU a.1 a.2.1 a.2.2.1 a.2.2.2.1)) := by
  refine yQ F sc_l_again (fun _ => rfl) (fun _ => rfl) fun cdv A outer s H E hr => ?_
  have hu := hu_of hr
  refine ⟨_, (zA (yP PassesOwn.never rfl (yI K (uB (ixLK K) (pv 0) (pv 3) (fun _ _ => rfl))) (zL (i := 4) sc_l_again.nd rfl (by first|exact .inl rfl|exact .inr rfl)) (zA (xW (PW.pt (pw_and (yB (op_inK K) (pv 4) (pv 1) (by with_unfolding_all rfl)) (pw_and1 (vI (pc_din hu (pv 3) (pe_dget hu (pv 2) (pv 4) (fun _ _ => rfl))))))) (zA (yA uV) zE) zE) zE)) (zA (yA uV) zE)), ?_⟩
  rintro Fa ⟨q0, q1, q2, q3, ⟨⟩⟩
  exact SB.of (sb_consx (sx_for (n := false) (L := (fun s1 : Unit => ([.fz false (q0 : List (List Int)), .fz false (q1 : List Int), .fz false (q2 : Dc (Dc Bool)), .fz false (q3 : Int), .un] : List (Slot K)))) (()) (Le.eq (Le.eq (Le.eq (Le.eq (Le.un Le.nil))))) (yM (ex_ix (yE 0 rfl) (zD 3 rfl))) (fun s1 => (zV 4 rfl rfl)) (fun s1 x3 => (sx_ifr (et_and (yD (md := .hp) (ex_in (zD 4 rfl) (zH 1 rfl))) (et_b (md := .hp) (ex_din (zD 3 rfl) (ex_dget (zH 2 rfl) (zD 4 rfl))))) (yS (Ex.sc (md := .hp) (ex_bl true))) (sx_nil (fun s1 : Unit => ([.fz false (q0 : List (List Int)), .fz false (q1 : List Int), .fz false (q2 : Dc (Dc Bool)), .fz false (q3 : Int), .un] : List (Slot K))) (()) (Le.eq (Le.eq (Le.eq (Le.eq (Le.un Le.nil))))))))) (fun s2 => (yS (Ex.sc (md := .hp) (ex_bl false))))) (by unfold wU; simp only [bnd])
def wT (q0 : List (List Int)) (q1 : Dc (Dc Bool)) (q2 : Int) : Option Bool := ((some (q0)).bind fun xs => foldX (fun (s1 : Unit) (x3 : List Int) => ((((some (x3)).bind fun xs => compL (fun (x4 : Int) => ((dget (q1).kv (q2)).bind fun b5 => some ((dget (b5).kv (x4)).isSome)).bind fun c7 => if c7 = true then (dget (q1).kv (x4)).bind fun b6 => some ((dget (b6).kv (q2)).isSome) else some false) (fun (x4 : Int) => some (x4)) xs).bind fun a8 => some (((a8).length : Int))).bind fun a9 => some (decide ((a9) = ((0 : Int))))).bind fun b => if b = true then (some (false)).bind fun b => some (.rt b) else some (.nx (()))) xs (())).bind fun o => o.els fun s2 => some (true)
theorem sc_l_meets : FnScope ["_law_fair", "_law_comes", "_law_stand", "_law_some"] ["_law_fair", "_law_comes", "_law_stand"] (defScope s_l_meets) := ⟨rfl, rfl, rfl, by decide +kernel, rfl, by decide +kernel, by decide +kernel⟩
set_option maxHeartbeats 4000000 in
theorem ok_l_meets {k : Nat} {f : Addr} {fd : FuncData} (F : Fun K "_law_meets" "_law_meets" s_l_meets f fd) (B : Bl K mg) : FnOk P w K mg base CX0 (k + 1) f fd ["_law_fair", "_law_comes", "_law_stand"] (spF K false (fun a : ((List (List Int))) × ((Dc (Dc Bool))) × Int × Unit => ([.fz false a.1, .fz false a.2.1, .fz false a.2.2.1] : List (Slot K))) (fun a => wT a.1 a.2.1 a.2.2.1)) := by
  refine yQ F sc_l_meets (fun _ => rfl) (fun _ => rfl) fun cdv A outer s H E hr => ?_
  have hu := hu_of hr
  refine ⟨_, (zA (yP PassesOwn.never rfl (yI K (pv 0)) (zL (i := 3) sc_l_meets.nd rfl (by first|exact .inl rfl|exact .inr rfl)) (zA (xW (yB (uD K (Int) hr) (yC (uA K) rfl B.len PySem.boot_len (zB (vC (own := ["_law_other"]) (ix := [1, 2]) rfl rfl rfl (yI K (pv 3)) (fun C s H fp => zL (i := 0) (show (["_law_other", "_law_comes", "_law_stand"] : List Str).Nodup from by decide +kernel) rfl (Or.inl rfl)) (fun C s H fp => pif_one (PW.pt (pw_and (vI (pc_din hu (pv 0) (pe_dget hu (pv 1) (pv 2) (fun _ _ => rfl)))) (pw_and1 (vI (pc_din hu (pv 2) (pe_dget hu (pv 1) (pv 0) (fun _ _ => rfl)))))))) (fun C s H fp => (pv 0))) zF)) zK (nomark _)) (zA (yA uV) zE) zE) zE)) (zA (yA uV) zE)), ?_⟩
  rintro Fa ⟨q0, q1, q2, ⟨⟩⟩
  exact SB.of (sb_consx (sx_for (n := false) (L := (fun s1 : Unit => ([.fz false (q0 : List (List Int)), .fz false (q1 : Dc (Dc Bool)), .fz false (q2 : Int), .un] : List (Slot K)))) (()) (Le.eq (Le.eq (Le.eq (Le.un Le.nil)))) (yM (yE 0 rfl)) (fun s1 => (zV 3 rfl rfl)) (fun s1 x3 => (sx_ifr (yD (md := .hp) (uG (uP (wA (n := false) (slI := [.un, .fz false (q1 : Dc (Dc Bool)), .fz false (q2 : Int)]) (no := 1) (ix := [1, 2]) rfl rfl (yM (yE 3 rfl)) (zV 0 rfl rfl) (fun x4 => (et_and (et_b (md := .hp) (ex_din (zD 0 rfl) (ex_dget (zH 1 rfl) (zD 2 rfl)))) (et_b (md := .hp) (ex_din (zD 2 rfl) (ex_dget (zH 1 rfl) (zD 0 rfl)))))) (fun x4 => (Ex.sc (md := .hp) (zD 0 rfl))) (fun x4 => (Le0.un (Le0.eq (Le0.eq Le0.nil))))).ex) (zJ 0))) (yS (Ex.sc (md := .hp) (ex_bl false))) (sx_nil (fun s1 : Unit => ([.fz false (q0 : List (List Int)), .fz false (q1 : Dc (Dc Bool)), .fz false (q2 : Int), .un] : List (Slot K))) (()) (Le.eq (Le.eq (Le.eq (Le.un Le.nil)))))))) (fun s2 => (yS (Ex.sc (md := .hp) (ex_bl true))))) (by unfold wT; simp only [bnd])
def vT (q0 : List (List Int)) (q1 : List (List Int)) (q2 : List Int) : Option (List Int) := (some ()).bind fun comes1 => ((some (q2)).bind fun xs => foldM (fun (s2 : List (Key × (Dc Bool))) (x4 : Int) => ((wS (q0) (q2) (x4)).bind fun a6 => dput s2 (x4) (a6)).bind fun comes5 => some (comes5)) xs (([] : List (Key × (Dc Bool))))).bind fun s3 => (some (([] : List Int))).bind fun bases7 => ((some (q2)).bind fun xs => foldM (fun (s8 : List Int) (x10 : Int) => (((wU (q0) (q2) ((Dc.mk s3)) (x10)).bind fun c11 => if c11 = true then wT (q1) ((Dc.mk s3)) (x10) else some false).bind fun b => if b = true then (push s8 (x10)).bind fun bases14 => some (bases14) else some (s8)).bind fun s12 => some (s12)) xs (bases7)).bind fun s9 => (some (([] : List Int))).bind fun due15 => ((some (q2)).bind fun xs => foldM (fun (s16 : List Int) (x18 : Int) => (((((some (s9)).bind fun xs => compL (fun (x19 : Int) => (dget ((Dc.mk s3)).kv (x18)).bind fun b20 => some ((dget (b20).kv (x19)).isSome)) (fun (x19 : Int) => some (x19)) xs).bind fun a21 => some (((a21).length : Int))).bind fun a22 => some (decide (((0 : Int)) < (a22)))).bind fun b => if b = true then (push s16 (x18)).bind fun due25 => some (due25) else some (s16)).bind fun s23 => some (s23)) xs (due15)).bind fun s17 => some (s17)
theorem sc_l_core : FnScope ["_law_steps", "_law_fair", "_law_within", "_law_comes", "_law_stand", "_law_bases", "_law_due"] ["_law_steps", "_law_fair", "_law_within"] (defScope s_l_core) := ⟨rfl, rfl, rfl, by decide +kernel, rfl, by decide +kernel, by decide +kernel⟩
set_option maxHeartbeats 4000000 in
theorem ok_l_core {k : Nat} {f : Addr} {fd : FuncData} (F : Fun K "_law_core" "_law_core" s_l_core f fd) (B : Bl K mg) (C_l_again : Cal P w K mg base k "_law_again" ["_law_steps", "_law_keys", "_law_comes", "_law_stand"] (spF K false (fun a : ((List (List Int))) × ((List Int)) × ((Dc (Dc Bool))) × Int × Unit => ([.fz false a.1, .fz false a.2.1, .fz false a.2.2.1, .fz false a.2.2.2.1] : List (Slot K))) (fun a => wU a.1 a.2.1 a.2.2.1 a.2.2.2.1))) (C_l_meets : Cal P w K mg base k "_law_meets" ["_law_fair", "_law_comes", "_law_stand"] (spF K false (fun a : ((List (List Int))) × ((Dc (Dc Bool))) × Int × Unit => ([.fz false a.1, .fz false a.2.1, .fz false a.2.2.1] : List (Slot K))) (fun a => wT a.1 a.2.1 a.2.2.1))) (C_l_reach : Cal P w K mg base k "_law_reach" ["_law_steps", "_law_keys", "_law_stand"] (spF K false (fun a : ((List (List Int))) × ((List Int)) × Int × Unit => ([.fz false a.1, .fz false a.2.1, .fz false a.2.2.1] : List (Slot K))) (fun a => wS a.1 a.2.1 a.2.2.1))) : FnOk P w K mg base CX0 (k + 1) f fd ["_law_steps", "_law_fair", "_law_within"] (spF K false (fun a : ((List (List Int))) × ((List (List Int))) × ((List Int)) × Unit => ([.fz false a.1, .fz false a.2.1, .fz false a.2.2.1] : List (Slot K))) (fun a => vT a.1 a.2.1 a.2.2.1)) := by
  refine yQ F sc_l_core (fun _ => rfl) (fun _ => rfl) fun cdv A outer s H E hr => ?_
  have hu := hu_of hr
  refine ⟨_, (zA (zS (i := 3) sc_l_core.nd rfl (by first|exact .inl rfl|exact .inr rfl) pe_dnewK) (zA (yP PassesOwn.never rfl (yI K (pv 2)) (zL (i := 4) sc_l_core.nd rfl (by first|exact .inl rfl|exact .inr rfl)) (zA (ps_dput hu (pv 3) (pv 4) (yO C_l_reach hr (zB (pv 0) (zB (pv 2) (zB (pv 4) zF)))) rfl) zE)) (zA (zS (i := 5) sc_l_core.nd rfl (by first|exact .inl rfl|exact .inr rfl) (xT zF)) (zA (yP PassesOwn.never rfl (yI K (pv 2)) (zL (i := 4) sc_l_core.nd rfl (by first|exact .inl rfl|exact .inr rfl)) (zA (xW (PW.pt (pw_and (pt_val (yO C_l_again hr (zB (pv 0) (zB (pv 2) (zB (pv 3) (zB (pv 4) zF)))))) (pw_and1 (pt_val (yO C_l_meets hr (zB (pv 1) (zB (pv 3) (zB (pv 4) zF)))))))) (zA (yU (p_bmK K PySem.F.plainAttrs_list PySem.F.slot_list_append PySem.F.type_list_append yT (pv 5) (zB (pv 4) zF))) zE) zE) zE)) (zA (zS (i := 6) sc_l_core.nd rfl (by first|exact .inl rfl|exact .inr rfl) (xT zF)) (zA (yP PassesOwn.never rfl (yI K (pv 2)) (zL (i := 4) sc_l_core.nd rfl (by first|exact .inl rfl|exact .inr rfl)) (zA (xW (yB op_gt (yC (uA K) rfl B.len PySem.boot_len (zB (vC (own := ["_law_base"]) (ix := [3, 4]) rfl rfl rfl (yI K (pv 5)) (fun C s H fp => zL (i := 0) (show (["_law_base", "_law_comes", "_law_stand"] : List Str).Nodup from by decide +kernel) rfl (Or.inl rfl)) (fun C s H fp => pif_one (vI (pc_din hu (pv 0) (pe_dget hu (pv 1) (pv 2) (fun _ _ => rfl))))) (fun C s H fp => (pv 0))) zF)) zK (nomark _)) (zA (yU (p_bmK K PySem.F.plainAttrs_list PySem.F.slot_list_append PySem.F.type_list_append yT (pv 6) (zB (pv 4) zF))) zE) zE) zE)) (zA (yA (pv 6)) zE))))))), ?_⟩
  rintro Fa ⟨q0, q1, q2, ⟨⟩⟩
  exact SB.of (zN (sn_dnew (α := Dc Bool) 3 rfl rfl) (fun comes1 => (zN (xE (n := false) (L := (fun s2 : List (Key × (Dc Bool)) => ([.fz false (q0 : List (List Int)), .fz false (q1 : List (List Int)), .fz false (q2 : List Int), .od (s2 : List (Key × (Dc Bool))), .un, .un, .un] : List (Slot K)))) (([] : List (Key × (Dc Bool)))) (Le.eq (Le.eq (Le.eq (Le.eq (Le.un (Le.un (Le.un Le.nil))))))) (yM (yE 2 rfl)) (fun s2 => (zV 4 rfl rfl)) (fun s2 x4 => (zI (sn_dput 3 rfl rfl (zO (zG (zH 0 rfl) (zG (zH 2 rfl) (zG (Ex.sc (md := .hp) (zD 4 rfl)) zU)))) (zD 4 rfl)) (fun comes5 => (zM (fun s2 : List (Key × (Dc Bool)) => ([.fz false (q0 : List (List Int)), .fz false (q1 : List (List Int)), .fz false (q2 : List Int), .od (s2 : List (Key × (Dc Bool))), .un, .un, .un] : List (Slot K))) (comes5) (Le.eq (Le.eq (Le.eq (Le.eq (Le.un (Le.un (Le.un Le.nil)))))))))))) (fun s3 => (zN (wJ true 5 rfl rfl (wM (α := Int))) (fun bases7 => (zN (xE (n := false) (L := (fun s8 : List Int => ([.fz false (q0 : List (List Int)), .fz false (q1 : List (List Int)), .fz false (q2 : List Int), .od (s3 : List (Key × (Dc Bool))), .un, .ow true (s8 : List Int), .un] : List (Slot K)))) (bases7) (Le.eq (Le.eq (Le.eq (Le.eq (Le.un (Le.eq (Le.un Le.nil))))))) (yM (yE 2 rfl)) (fun s8 => (zV 4 rfl rfl)) (fun s8 x10 => (zI (wR (et_and (et_b (md := .hp) (zO (zG (zH 0 rfl) (zG (zH 2 rfl) (zG (ex_varD 3 rfl) (zG (Ex.sc (md := .hp) (zD 4 rfl)) zU)))))) (et_b (md := .hp) (zO (zG (zH 1 rfl) (zG (ex_varD 3 rfl) (zG (Ex.sc (md := .hp) (zD 4 rfl)) zU)))))) (zI (yV 5 rfl rfl (Ex.sc (md := .hp) (zD 4 rfl))) (fun bases14 => (zM (fun s13 : List Int => ([.fz false (q0 : List (List Int)), .fz false (q1 : List (List Int)), .fz false (q2 : List Int), .od (s3 : List (Key × (Dc Bool))), .fz false (x10 : Int), .ow true (s13 : List Int), .un] : List (Slot K))) (bases14) (Le.eq (Le.eq (Le.eq (Le.eq (Le.eq (Le.eq (Le.un Le.nil)))))))))) (zM (fun s13 : List Int => ([.fz false (q0 : List (List Int)), .fz false (q1 : List (List Int)), .fz false (q2 : List Int), .od (s3 : List (Key × (Dc Bool))), .fz false (x10 : Int), .ow true (s13 : List Int), .un] : List (Slot K))) (s8) (Le.eq (Le.eq (Le.eq (Le.eq (Le.eq (Le.eq (Le.un Le.nil))))))))) (fun s12 => (zM (fun s8 : List Int => ([.fz false (q0 : List (List Int)), .fz false (q1 : List (List Int)), .fz false (q2 : List Int), .od (s3 : List (Key × (Dc Bool))), .un, .ow true (s8 : List Int), .un] : List (Slot K))) (s12) (Le.eq (Le.eq (Le.eq (Le.eq (Le.un (Le.eq (Le.un Le.nil)))))))))))) (fun s9 => (zN (wJ true 6 rfl rfl (wM (α := Int))) (fun due15 => (zN (sn_preD (sl2 := [.fz false (q0 : List (List Int)), .fz false (q1 : List (List Int)), .fz false (q2 : List Int), .fz false ((Dc.mk s3) : Dc (Dc Bool)), .un, .ow true (s9 : List Int), .ow true (due15 : List Int)]) (LeD.skip (LeD.skip (LeD.skip LeD.here))) (sn_pre (sl2 := [.fz false (q0 : List (List Int)), .fz false (q1 : List (List Int)), .fz false (q2 : List Int), .fz false ((Dc.mk s3) : Dc (Dc Bool)), .un, .fz true (s9 : List Int), .ow true (due15 : List Int)]) (Le.eq (Le.eq (Le.eq (Le.eq (Le.un (Le.fr (Le.eq Le.nil))))))) (xE (n := false) (L := (fun s16 : List Int => ([.fz false (q0 : List (List Int)), .fz false (q1 : List (List Int)), .fz false (q2 : List Int), .fz false ((Dc.mk s3) : Dc (Dc Bool)), .un, .fz true (s9 : List Int), .ow true (s16 : List Int)] : List (Slot K)))) (due15) (Le.eq (Le.eq (Le.eq (Le.eq (Le.un (Le.eq (Le.eq Le.nil))))))) (yM (yE 2 rfl)) (fun s16 => (zV 4 rfl rfl)) (fun s16 x18 => (zI (wR (yD (md := .hp) (ex_gt (uP (wA (n := true) (slI := [.un, .fz false ((Dc.mk s3) : Dc (Dc Bool)), .fz false (x18 : Int)]) (no := 1) (ix := [3, 4]) rfl rfl (yM (yE 5 rfl)) (zV 0 rfl rfl) (fun x19 => (et_b (md := .hp) (ex_din (zD 0 rfl) (ex_dget (zH 1 rfl) (zD 2 rfl))))) (fun x19 => (Ex.sc (md := .hp) (zD 0 rfl))) (fun x19 => (Le0.un (Le0.eq (Le0.eq Le0.nil))))).ex) (zJ 0))) (zI (yV 6 rfl rfl (Ex.sc (md := .hp) (zD 4 rfl))) (fun due25 => (zM (fun s24 : List Int => ([.fz false (q0 : List (List Int)), .fz false (q1 : List (List Int)), .fz false (q2 : List Int), .fz false ((Dc.mk s3) : Dc (Dc Bool)), .fz false (x18 : Int), .fz true (s9 : List Int), .ow true (s24 : List Int)] : List (Slot K))) (due25) (Le.eq (Le.eq (Le.eq (Le.eq (Le.eq (Le.eq (Le.eq Le.nil)))))))))) (zM (fun s24 : List Int => ([.fz false (q0 : List (List Int)), .fz false (q1 : List (List Int)), .fz false (q2 : List Int), .fz false ((Dc.mk s3) : Dc (Dc Bool)), .fz false (x18 : Int), .fz true (s9 : List Int), .ow true (s24 : List Int)] : List (Slot K))) (s16) (Le.eq (Le.eq (Le.eq (Le.eq (Le.eq (Le.eq (Le.eq Le.nil))))))))) (fun s23 => (zM (fun s16 : List Int => ([.fz false (q0 : List (List Int)), .fz false (q1 : List (List Int)), .fz false (q2 : List Int), .fz false ((Dc.mk s3) : Dc (Dc Bool)), .un, .fz true (s9 : List Int), .ow true (s16 : List Int)] : List (Slot K))) (s23) (Le.eq (Le.eq (Le.eq (Le.eq (Le.un (Le.eq (Le.eq Le.nil)))))))))))))) (fun s17 => (vR 6 rfl rfl))))))))))))) (by unfold vT; simp only [bnd])
def p_law (C : Addr) (q0 : Scr) : Option Bool := (((zW (q0) ((0 : Int))).bind fun a3 => some ((a3, ()))).bind fun z2 => xL z2.1).bind fun many1 => (xK (q0) (many1)).bind fun steps4 => (((zW (q0) ((1 : Int))).bind fun a7 => some ((a7, (many1, ())))).bind fun z6 => xY z6.1 z6.2.1).bind fun fair5 => (((((zW (q0) ((3 : Int))).bind fun a8 => divM (a8) ((5 : Int))).bind fun a9 => modM (a9) ((8 : Int))).bind fun a10 => some (decide ((a10) = ((3 : Int))))).bind fun b => if b = true then (((zW (q0) ((0 : Int))).bind fun a14 => modM (a14) ((13 : Int))).bind fun b15 => some (((12 : Int)) + (b15))).bind fun many13 => (((zW (q0) ((1 : Int))).bind fun a18 => some ((a18, (many13, ())))).bind fun z17 => xM z17.1 z17.2.1).bind fun v16 => some ((many13, v16.1, v16.2)) else some ((many1, steps4, fair5))).bind fun s11 => (((zW (q0) ((2 : Int))).bind fun a25 => (((((zW (q0) ((3 : Int))).bind fun a20 => modM (a20) ((5 : Int))).bind fun b21 => L2.atI ([(6 : Int), (6 : Int), (5 : Int), (4 : Int), (2 : Int)]) (b21)).bind fun a23 => some ((a23, ()))).bind fun b24 => some ((s11.1, b24))).bind fun b26 => some ((a25, b26))).bind fun z22 => wB z22.1 z22.2.1 z22.2.2.1).bind fun within19 => (((some (s11.2.1)).bind fun xs => compL (fun (x28 : List Int) => some true) (fun (x28 : List Int) => some (x28)) xs).bind fun a30 => ((some (s11.2.2)).bind fun xs => compL (fun (x29 : List Int) => some true) (fun (x29 : List Int) => some (x29)) xs).bind fun a31 => mkK C a30 (some (([] : List (Str × (List Int))))) (some a31)).bind fun machine27 => (vT (s11.2.1) (s11.2.2) (within19)).bind fun due32 => (p_core (machine27) (within19)).bind fun found33 => (if (!(true)) = true then some true else some (!decide ((found33) = (due32)))).bind fun b => if b = true then some (false) else ((some (found33)).bind fun xs => foldX (fun (s34 : Unit) (x36 : Int) => ((vL (x36)).bind fun a37 => some (!(a37))).bind fun b => if b = true then (some (false)).bind fun b => some (.rt b) else some (.nx (()))) xs (())).bind fun o => o.els fun s35 => some (true)
theorem sc_law : FnScope ["_law_script", "_law_many", "_law_steps", "_law_fair", "_law_within", "_law_machine", "_law_due", "_law_found", "_law_stand"] ["_law_script"] (defScope s_law) := ⟨rfl, rfl, rfl, by decide +kernel, rfl, by decide +kernel, by decide +kernel⟩
set_option maxHeartbeats 4000000 in
theorem ok_law {k0 : Nat} {C : Addr} {f : Addr} {fd : FuncData} (F : Fun K "law" "law" s_law f fd) (B : Bl K mg) (T : Cl K mg C) {fI : Addr} {fdI : FuncData} (MK : Mk K C fI) (GI : FnOk P w K mg base CX0 k0 fI fdI ["self", "steps", "marks", "fair"] (spInG K C (mkK C))) (bI0 : Binds K fdI ["self", "steps", "marks", "fair"] []) (C_l_cell_at : Cal P w K mg base (k0 + 1) "_law_cell_at" ["_law_script", "_law_k"] (spF K false (fun a : Scr × Int × Unit => ([.fz false a.1, .fz false a.2.1] : List (Slot K))) (fun a => zW a.1 a.2.1))) (C_l_core : Cal P w K mg base (k0 + 1) "_law_core" ["_law_steps", "_law_fair", "_law_within"] (spF K false (fun a : ((List (List Int))) × ((List (List Int))) × ((List Int)) × Unit => ([.fz false a.1, .fz false a.2.1, .fz false a.2.2.1] : List (Slot K))) (fun a => vT a.1 a.2.1 a.2.2.1))) (C_l_fair_by : Cal P w K mg base (k0 + 1) "_law_fair_by" ["_law_cell", "_law_many"] (spF K false (fun a : Int × Int × Unit => ([.fz false a.1, .fz false a.2.1] : List (Slot K))) (fun a => xY a.1 a.2.1))) (C_l_line_by : Cal P w K mg base (k0 + 1) "_law_line_by" ["_law_cell", "_law_many"] (spF K false (fun a : Int × Int × Unit => ([.fz false a.1, .fz false a.2.1] : List (Slot K))) (fun a => xM a.1 a.2.1))) (C_l_set_by : Cal P w K mg base (k0 + 1) "_law_set_by" ["_law_cell", "_law_many", "_law_way"] (spF K false (fun a : Int × Int × Int × Unit => ([.fz false a.1, .fz false a.2.1, .fz false a.2.2.1] : List (Slot K))) (fun a => wB a.1 a.2.1 a.2.2.1))) (C_l_small_by : Cal P w K mg base (k0 + 1) "_law_small_by" ["_law_cell"] (spF K false (fun a : Int × Unit => ([.fz false a.1] : List (Slot K))) (fun a => xL a.1))) (C_l_steps_by : Cal P w K mg base (k0 + 1) "_law_steps_by" ["_law_script", "_law_many"] (spF K false (fun a : Scr × Int × Unit => ([.fz false a.1, .fz false a.2.1] : List (Slot K))) (fun a => xK a.1 a.2.1))) (C_l_whole : Cal P w K mg base (k0 + 1) "_law_whole" ["_law_found"] (spF K false (fun a : Int × Unit => ([.fz false a.1] : List (Slot K))) (fun a => vL a.1))) (C_core : Cal P w K mg base (k0 + 1) "core" ["machine", "within"] (spF K false (fun a : ((Mach C)) × ((List Int)) × Unit => ([.fz false a.1, .fz false a.2.1] : List (Slot K))) (fun a => p_core a.1 a.2.1))) : FnOk P w K mg base CX0 ((k0 + 1) + 1) f fd ["_law_script"] (spF K false (fun a : Scr × Unit => ([.fz false a.1] : List (Slot K))) (fun a => p_law C a.1)) := by
  refine yQ F sc_law (fun _ => rfl) (fun _ => rfl) fun cdv A outer s H E hr => ?_
  refine ⟨_, (zA (zS (i := 1) sc_law.nd rfl (by first|exact .inl rfl|exact .inr rfl) (yO C_l_small_by hr (zB (yO C_l_cell_at hr (zB (pv 0) (zB zK zF))) zF))) (zA (zS (i := 2) sc_law.nd rfl (by first|exact .inl rfl|exact .inr rfl) (yO C_l_steps_by hr (zB (pv 0) (zB (pv 1) zF)))) (zA (zS (i := 3) sc_law.nd rfl (by first|exact .inl rfl|exact .inr rfl) (yO C_l_fair_by hr (zB (yO C_l_cell_at hr (zB (pv 0) (zB zK zF))) (zB (pv 1) zF)))) (zA (xW (yB (uD K (Int) hr) (zT xH (zT vW (yO C_l_cell_at hr (zB (pv 0) (zB zK zF))) zK) zK) zK (nomark _)) (zA (zS (i := 1) sc_law.nd rfl (by first|exact .inl rfl|exact .inr rfl) (zT yY zK (zT xH (yO C_l_cell_at hr (zB (pv 0) (zB zK zF))) zK))) (zA (ps_asg (yO C_l_line_by hr (zB (yO C_l_cell_at hr (zB (pv 0) (zB zK zF))) (zB (pv 1) zF))) (pg_tup rfl (xG (zL (i := 2) sc_law.nd rfl (by first|exact .inl rfl|exact .inr rfl)) (xG (zL (i := 3) sc_law.nd rfl (by first|exact .inl rfl|exact .inr rfl)) uT)))) zE)) zE) (zA (zS (i := 4) sc_law.nd rfl (by first|exact .inl rfl|exact .inr rfl) (yO C_l_set_by hr (zB (yO C_l_cell_at hr (zB (pv 0) (zB zK zF))) (zB (pv 1) (zB (uB (ixLK K) (xT (zB zK (zB zK (zB zK (zB zK (zB zK zF)))))) (zT xH (yO C_l_cell_at hr (zB (pv 0) (zB zK zF))) zK) (fun _ _ => rfl)) zF))))) (zA (zS (i := 5) sc_law.nd rfl (by first|exact .inl rfl|exact .inr rfl) (pe_make MK GI hr rfl T.mgC bI0 .nil pass0 (zB (vC (own := ["_law_row"]) (ix := []) rfl rfl rfl (yI K (pv 2)) (fun C s H fp => zL (i := 0) (show (["_law_row"] : List Str).Nodup from by decide +kernel) rfl (Or.inl rfl)) (fun C s H fp => vA) (fun C s H fp => (wK (c_listK K) rfl B.list uI (zB (pv 0) zF)))) (zB (xT zF) (zB (vC (own := ["_law_some"]) (ix := []) rfl rfl rfl (yI K (pv 3)) (fun C s H fp => zL (i := 0) (show (["_law_some"] : List Str).Nodup from by decide +kernel) rfl (Or.inl rfl)) (fun C s H fp => vA) (fun C s H fp => (wK (c_listK K) rfl B.list uI (zB (pv 0) zF)))) zF))))) (zA (zS (i := 6) sc_law.nd rfl (by first|exact .inl rfl|exact .inr rfl) (yO C_l_core hr (zB (pv 2) (zB (pv 3) (zB (pv 4) zF))))) (zA (zS (i := 7) sc_law.nd rfl (by first|exact .inl rfl|exact .inr rfl) (yO C_core hr (zB (pv 5) (zB (wK (c_listK K) rfl B.list uI (zB (pv 4) zF)) zF)))) (zA (xW (PW.pt (pw_or (pt_not (pt_val (yC (c_isiK K (rel_ty (n := "list"))) rfl B.isi bt_isi (zB (pv 7) (zB (pe_bltn (v := .ty "list") rfl B.list uI rfl) zF))))) (pw_or1 (yB (op_nev K (List Int) hr) (pv 7) (pv 6) (nomark _))))) (zA (yA uV) zE) zE) (zA (yP PassesOwn.never rfl (yI K (pv 7)) (zL (i := 8) sc_law.nd rfl (by first|exact .inl rfl|exact .inr rfl)) (zA (xW (pt_not (pt_val (yO C_l_whole hr (zB (pv 8) zF)))) (zA (yA uV) zE) zE) zE)) (zA (yA uV) zE))))))))))), ?_⟩
  rintro Fa ⟨q0, ⟨⟩⟩
  exact SB.of (zN (yJ true 1 rfl rfl (Ex.sc (md := .hp) (zO (zG (Ex.sc (md := .hp) (zO (zG (zH 0 rfl) (zG (Ex.sc (md := .hp) (zJ 0)) zU)))) zU)))) (fun many1 => (zN (yJ true 2 rfl rfl (zO (zG (zH 0 rfl) (zG (Ex.sc (md := .hp) (zD 1 rfl)) zU)))) (fun steps4 => (zN (yJ true 3 rfl rfl (zO (zG (Ex.sc (md := .hp) (zO (zG (zH 0 rfl) (zG (Ex.sc (md := .hp) (zJ 1)) zU)))) (zG (Ex.sc (md := .hp) (zD 1 rfl)) zU)))) (fun fair5 => (zN (wR (yD (md := .hp) (uG (xJ (ex_div (zO (zG (zH 0 rfl) (zG (Ex.sc (md := .hp) (zJ 3)) zU))) (zJ 5)) (zJ 8)) (zJ 3))) (zI (yJ true 1 rfl rfl (Ex.sc (md := .hp) (yZ (zJ 12) (xJ (zO (zG (zH 0 rfl) (zG (Ex.sc (md := .hp) (zJ 0)) zU))) (zJ 13))))) (fun many13 => (zI (sn_tup2 (n := true) (zO (zG (Ex.sc (md := .hp) (zO (zG (zH 0 rfl) (zG (Ex.sc (md := .hp) (zJ 1)) zU)))) (zG (Ex.sc (md := .hp) (zD 1 rfl)) zU))) (tg_tup 2 3 rfl rfl (fun _ => rfl) rfl)) (fun v16 => (zM (fun s12 : Int × (List (List Int)) × (List (List Int)) => ([.fz false (q0 : Scr), .fz true (s12.1 : Int), .fz true (s12.2.1 : List (List Int)), .fz true (s12.2.2 : List (List Int)), .un, .un, .un, .un, .un] : List (Slot K))) ((many13, v16.1, v16.2)) (Le.eq (Le.eq (Le.eq (Le.eq (Le.un (Le.un (Le.un (Le.un (Le.un Le.nil)))))))))))))) (zM (fun s12 : Int × (List (List Int)) × (List (List Int)) => ([.fz false (q0 : Scr), .fz true (s12.1 : Int), .fz true (s12.2.1 : List (List Int)), .fz true (s12.2.2 : List (List Int)), .un, .un, .un, .un, .un] : List (Slot K))) ((many1, steps4, fair5)) (Le.eq (Le.eq (Le.eq (Le.eq (Le.un (Le.un (Le.un (Le.un (Le.un Le.nil))))))))))) (fun s11 => (zN (yJ true 4 rfl rfl (zO (zG (Ex.sc (md := .hp) (zO (zG (zH 0 rfl) (zG (Ex.sc (md := .hp) (zJ 2)) zU)))) (zG (Ex.sc (md := .hp) (zD 1 rfl)) (zG (Ex.sc (md := .hp) (Ex.sc (md := .hp) (ex_ix (eo_lst (wO (Ex.sc (md := .hp) (zJ 6)) (wO (Ex.sc (md := .hp) (zJ 6)) (wO (Ex.sc (md := .hp) (zJ 5)) (wO (Ex.sc (md := .hp) (zJ 4)) (wO (Ex.sc (md := .hp) (zJ 2)) el_nil))))) (fun a h => Nat.le_trans ((vZ (vZ (vZ (vZ (vZ el_len0))))) a h) (by decide))).ex (xJ (zO (zG (zH 0 rfl) (zG (Ex.sc (md := .hp) (zJ 3)) zU))) (zJ 5))))) zU))))) (fun within19 => (zN (yJ true 5 rfl rfl (en_makeG3 (wA (n := true) (slI := [.un]) (no := 1) (ix := []) rfl rfl (yM (yE 2 rfl)) (zV 0 rfl rfl) (fun x28 => et_if0) (fun x28 => (vX (zH 0 rfl)).ex) (fun x28 => (Le0.un Le0.nil))).ex (wM (α := Str × (List Int))).ex (wA (n := true) (slI := [.un]) (no := 1) (ix := []) rfl rfl (yM (yE 3 rfl)) (zV 0 rfl rfl) (fun x29 => et_if0) (fun x29 => (vX (zH 0 rfl)).ex) (fun x29 => (Le0.un Le0.nil))).ex).ex) (fun machine27 => (zN (yJ true 6 rfl rfl (zO (zG (zH 2 rfl) (zG (zH 3 rfl) (zG (zH 4 rfl) zU))))) (fun due32 => (zN (yJ true 7 rfl rfl (zO (zG (zH 5 rfl) (zG (vX (zH 4 rfl)).ex zU)))) (fun found33 => (sb_ifr (et_or (et_not (et_b (md := .hp) (ex_isi B.ll rfl (zH 7 rfl)))) (yD (md := .hp) (ex_nev (zH 7 rfl) (zH 6 rfl)))) (yS (Ex.sc (md := .hp) (ex_bl false))) (sb_consx (sx_for (n := true) (L := (fun s34 : Unit => ([.fz false (q0 : Scr), .fz true (s11.1 : Int), .fz true (s11.2.1 : List (List Int)), .fz true (s11.2.2 : List (List Int)), .fz true (within19 : List Int), .fz true (machine27 : Mach C), .fz true (due32 : List Int), .fz true (found33 : List Int), .un] : List (Slot K)))) (()) (Le.eq (Le.eq (Le.eq (Le.eq (Le.eq (Le.eq (Le.eq (Le.eq (Le.un Le.nil))))))))) (yM (yE 7 rfl)) (fun s34 => (zV 8 rfl rfl)) (fun s34 x36 => (sx_ifr (et_not (et_b (md := .hp) (zO (zG (Ex.sc (md := .hp) (zD 8 rfl)) zU)))) (yS (Ex.sc (md := .hp) (ex_bl false))) (sx_nil (fun s34 : Unit => ([.fz false (q0 : Scr), .fz true (s11.1 : Int), .fz true (s11.2.1 : List (List Int)), .fz true (s11.2.2 : List (List Int)), .fz true (within19 : List Int), .fz true (machine27 : Mach C), .fz true (due32 : List Int), .fz true (found33 : List Int), .un] : List (Slot K))) (()) (Le.eq (Le.eq (Le.eq (Le.eq (Le.eq (Le.eq (Le.eq (Le.eq (Le.un Le.nil))))))))))))) (fun s35 => (yS (Ex.sc (md := .hp) (ex_bl true)))))))))))))))))))))) (by unfold p_law; simp only [bnd])
end
end Ts
namespace Ts
open PySem L2
theorem w_cell (scr : Scr) {k : Int} (h : 0 <= k) : W (zW scr k) fun _ => True := by
  unfold zW
  rw [W_ite]
  refine ⟨fun q => ?_, fun _ => W_some.mpr trivial⟩
  have q : k < (scr.ns.length : Int) := by simpa using q
  rw [W_at h]
  exact ⟨_, List.getElem?_eq_getElem (by omega), trivial⟩
theorem w_mix (c : Int) {k : Int} (h0 : 0 <= k) (h1 : k <= 1000000) : W (yX c k) fun r => 0 <= r /\ r < 99989 := by
  unfold yX
  simp only [zC, W_mul, uJ, W_some]
  refine ⟨.inl ⟨by decide, by decide⟩, .inr ⟨by omega, by omega⟩, .inl ⟨by decide, by decide⟩, by decide, .inl ⟨?_, ?_⟩, by decide, ?_, ?_⟩
  · have := Int.emod_nonneg (c * (48271 + 2 * k) + 7919 * k + 5) (show (99991 : Int) ≠ 0 by decide)
    omega
  · have := Int.emod_lt_of_pos (c * (48271 + 2 * k) + 7919 * k + 5) (show (0 : Int) < 99991 by decide)
    omega
  · exact Int.emod_nonneg _ (by decide)
  · exact Int.emod_lt_of_pos _ (by decide)
theorem w_set (c : Int) {n : Int} (w : Int) (h0 : 0 <= n) (h1 : n <= 60) : W (wB c n w) (Rise n) := by
  unfold wB
  simp only [zC, uJ, W_div, W_some, W_ite]
  refine ⟨⟨by decide, by decide⟩, by decide, fun _ => ?_, fun _ => ?_⟩
  all_goals simp only [wP]
  · refine ⟨⟨by omega, by omega⟩, xA (fun _ _ => True) trivial (fun i x s _ _ => ?_) fun s _ => ?_⟩
    · simp only [zC, W_div, W_some]
      exact ⟨⟨by decide, by decide⟩, trivial⟩
    · refine ⟨⟨by omega, by omega⟩, xA (fun i s => Rise i s.1 /\ s.1.length <= i) ⟨rise_nil, Nat.le_refl _⟩ (fun i x s hi hI => ?_) fun s hI => ?_⟩
      · obtain ⟨rfl, hx⟩ := rng_at hi
        simp only [zC, W_div, W_pow, uJ, W_some, W_ite, wW]
        refine (w_mix c (by omega) (by omega)).imp fun r _ => ⟨⟨by decide, by decide, by decide⟩, fun _ => ?_, fun _ => ?_⟩
        all_goals exact ⟨by decide, fun _ => ⟨yL (by omega), ⟨by decide, by decide⟩, rise_snoc hI.1 (by omega) (by omega), by rw [List.length_append]; exact Nat.succ_le_succ hI.2⟩, fun _ => ⟨⟨by decide, by decide⟩, rise_up hI.1 (by omega), by omega⟩⟩
      · have e := wF h0
        rw [e] at hI
        exact hI.1
  · refine ⟨⟨by omega, by omega⟩, xA (fun i s => Rise i s.1 /\ s.1.length <= i) ⟨rise_nil, Nat.le_refl _⟩ (fun i x s hi hI => ?_) fun s hI => ?_⟩
    · obtain ⟨rfl, hx⟩ := rng_at hi
      simp only [zC, W_div, W_pow, uJ, W_some, W_ite, wW]
      refine (w_mix c (by omega) (by omega)).imp fun r _ => ⟨⟨by decide, by decide, by decide⟩, fun _ => ?_, fun _ => ?_⟩
      all_goals exact ⟨by decide, fun _ => ⟨yL (by omega), ⟨by decide, by decide⟩, rise_snoc hI.1 (by omega) (by omega), by rw [List.length_append]; exact Nat.succ_le_succ hI.2⟩, fun _ => ⟨⟨by decide, by decide⟩, rise_up hI.1 (by omega), by omega⟩⟩
    · have e := wF h0
      rw [e] at hI
      exact hI.1
def RowOk (n : Int) (xs : List Int) : Prop := xs ≠ [] /\ xs.Nodup /\ xs.length <= 3 /\ ∀ z ∈ xs, 0 <= z /\ z < n
theorem w_steps (scr : Scr) {n : Int} (h0 : 1 <= n) (h1 : n <= 60) : W (xK scr n) fun xss => (xss.length : Int) = n /\ ∀ xs ∈ xss, RowOk n xs := by
  unfold xK
  simp only [zC, W_some, wP]
  refine ⟨⟨by omega, by omega⟩, xA (fun i s => s.length = i /\ ∀ xs ∈ s, RowOk n xs) ⟨rfl, fun xs h => by cases h⟩ (fun i x s hi hI => ?_) fun s hI => ?_⟩
  · obtain ⟨rfl, hx⟩ := rng_at hi
    simp only [zC, W_some, wP, uJ, wW]
    refine ⟨by omega, ?_⟩
    have hm := Int.emod_nonneg (i : Int) (show max (1 : Int) ((scr.ns.length : Int) - 4) ≠ 0 by omega)
    refine (w_cell scr (by omega)).imp fun cell _ => (w_mix cell (by omega) (by omega)).imp fun r hr => ?_
    refine ⟨by decide, ⟨by omega, by omega⟩, xA (fun j row => (j = 0 -> row = []) /\ (0 < j -> row ≠ []) /\ row.Nodup /\ row.length <= j /\ ∀ z ∈ row, 0 <= z /\ z < n) ⟨fun _ => rfl, fun h => by omega, List.nodup_nil, Nat.le_refl _, fun z h => by cases h⟩ (fun j y row hj hI2 => ?_) fun row hI2 => ?_⟩
    · obtain ⟨rfl, hy⟩ := rng_at hj
      simp only [zC, W_some, uJ, W_mul, W_ite, wW]
      refine ⟨.inl ⟨by decide, by decide⟩, (w_mix _ (by omega) (by omega)).imp fun o _ => ⟨by omega, (w_mix _ (by omega) (by omega)).imp fun r2 _ => ⟨by decide, fun _ => ?_, fun _ => ?_⟩⟩⟩
      · have z0 := Int.emod_nonneg ((i : Int) + 1) (show n ≠ 0 by omega)
        have z1 := Int.emod_lt_of_pos ((i : Int) + 1) (show 0 < n by omega)
        refine ⟨by omega, fun q => ⟨yL (by omega), by omega, fun _ => by simp, ?_, by rw [List.length_append]; exact Nat.succ_le_succ hI2.2.2.2.1, ?_⟩, fun q => ?_⟩
        · rw [List.nodup_append]
          refine ⟨hI2.2.2.1, by simp, fun a ha b hb e => ?_⟩
          rw [List.mem_singleton.mp hb] at e
          subst e
          simp at q
          exact q ha
        · intro z hz
          rcases List.mem_append.mp hz with hz | hz
          · exact hI2.2.2.2.2 z hz
          · rw [List.mem_singleton.mp hz]; exact ⟨z0, z1⟩
        · simp at q
          exact ⟨by omega, fun _ e => (by rw [e] at q; cases q), hI2.2.2.1, by omega, hI2.2.2.2.2⟩
      · have z0 := Int.emod_nonneg o (show n ≠ 0 by omega)
        have z1 := Int.emod_lt_of_pos o (show 0 < n by omega)
        refine ⟨fun q => ⟨yL (by omega), by omega, fun _ => by simp, ?_, by rw [List.length_append]; exact Nat.succ_le_succ hI2.2.2.2.1, ?_⟩, fun q => ?_⟩
        · rw [List.nodup_append]
          refine ⟨hI2.2.2.1, by simp, fun a ha b hb e => ?_⟩
          rw [List.mem_singleton.mp hb] at e
          subst e
          simp at q
          exact q ha
        · intro z hz
          rcases List.mem_append.mp hz with hz | hz
          · exact hI2.2.2.2.2 z hz
          · rw [List.mem_singleton.mp hz]; exact ⟨z0, z1⟩
        · simp at q
          exact ⟨by omega, fun _ e => (by rw [e] at q; cases q), hI2.2.2.1, by omega, hI2.2.2.2.2⟩
    · have e : ((rng (1 + r % 3)).length : Int) = 1 + r % 3 := wF (by omega)
      refine ⟨yL (by omega), by rw [List.length_append, hI.1] <;> rfl, fun xs hxs => ?_⟩
      rcases List.mem_append.mp hxs with q | q
      · exact hI.2 xs q
      · rw [List.mem_singleton.mp q]
        exact ⟨hI2.2.1 (by omega), hI2.2.2.1, by omega, hI2.2.2.2.2⟩
  · have e := wF (n := n) (by omega)
    exact ⟨by rw [hI.1]; exact e, hI.2⟩
structure Gr {C : Addr} (m : Mach C) (n : Int) : Prop where
  len : (m.steps.length : Int) = n
  pos : 1 <= n
  few : n <= 60
  row : ∀ xs ∈ m.steps, xs ≠ [] /\ xs.Nodup /\ ∀ z ∈ xs, 0 <= z /\ z < n
  src : m.sources = srcs m.steps
def nxt (xss : List (List Int)) (s : Int) : List Int := xss.getD s.toNat []
theorem mem_src {xss : List (List Int)} {j : Nat} {x : Int} : x ∈ src xss j ↔ 0 <= x /\ x < (xss.length : Int) /\ (j : Int) ∈ nxt xss x := by
  unfold src nxt
  rw [List.mem_map]
  constructor
  · rintro ⟨k, h, rfl⟩
    rw [List.mem_filter, List.mem_range] at h
    have h2 := of_decide_eq_true h.2
    exact ⟨Int.natCast_nonneg _, by show (k : Int) < _; omega, h2⟩
  · intro ⟨h0, h1, h2⟩
    refine ⟨x.toNat, ?_, by show ((x.toNat : Nat) : Int) = x; omega⟩
    rw [List.mem_filter, List.mem_range]
    exact ⟨by omega, decide_eq_true h2⟩
theorem w_manyM {C : Addr} {m : Mach C} {n : Int} (g : Gr m n) : zZ m = some n := by
  unfold zZ
  rw [g.len]
end Ts
namespace Ts
open PySem L2
theorem w_before {C : Addr} {m : Mach C} {n s : Int} (g : Gr m n) (h0 : 0 <= s) (h1 : s < n) : W (yN m s) fun xs => ∀ x, x ∈ xs ↔ 0 <= x /\ x < n /\ s ∈ nxt m.steps x := by
  unfold yN
  rw [W_at h0, g.src]
  have hl := g.len
  refine ⟨_, srcs_at (by omega), fun x => ?_⟩
  rw [mem_src, hl, show ((s.toNat : Nat) : Int) = s by omega]
end Ts
namespace Ts
open PySem L2
theorem getD_set {α : Type} {xs : List α} {i j : Nat} {a d : α} (h : i < xs.length) : (xs.set i a).getD j d = if j = i then a else xs.getD j d := by
  rw [List.getD_eq_getElem?_getD, List.getD_eq_getElem?_getD, List.getElem?_set]
  by_cases e : i = j
  · subst e; simp [h]
  · rw [if_neg e, if_neg (Ne.symm e)]
theorem w_flags {C : Addr} {m : Mach C} {n : Int} (g : Gr m n) {xs : List Int} (hx : ∀ x ∈ xs, 0 <= x /\ x < n) : W (uX m xs) fun fl => (fl.length : Int) = n /\ ∀ s : Int, 0 <= s -> s < n -> fl.getD s.toNat false = decide (s ∈ xs) := by
  unfold uX
  have hp := g.pos
  have hf := g.few
  simp only [zC, W_some, w_manyM g, wP]
  refine ⟨⟨by omega, by omega⟩, ?_⟩
  rw [W_map (fun _ => false)]
  have e := wF (n := n) (by omega)
  refine ⟨yL (by omega), xA (fun i fl => (fl.length : Int) = n /\ ∀ s : Int, 0 <= s -> s < n -> fl.getD s.toNat false = decide (s ∈ xs.take i)) ⟨by rw [List.length_map]; exact e, fun s _ _ => ?_⟩ (fun i x fl hi hI => ?_) fun fl hI => ?_⟩
  · rw [List.getD_eq_getElem?_getD, List.getElem?_map]
    cases (rng n)[s.toNat]? <;> simp
  · have hxx := hx x (List.mem_of_getElem? hi)
    simp only [zC, W_some]
    rw [W_set hxx.1 (by omega)]
    refine ⟨by rw [List.length_set]; exact hI.1, fun s s0 s1 => ?_⟩
    rw [getD_set (by omega)]
    have tk : xs.take (i + 1) = xs.take i ++ [x] := by rw [List.take_add_one, hi] <;> rfl
    by_cases q : s.toNat = x.toNat
    · have : s = x := by omega
      subst this
      rw [if_pos rfl, tk]; simp
    · have : s ≠ x := fun z => q (by rw [z])
      rw [if_neg q, hI.2 s s0 s1, tk]
      simp [this]
  · rw [List.take_length] at hI
    exact hI
abbrev dg (d : List (Option Int)) (s : Int) : Option Int := d.getD s.toNat none
structure DistOk (xss : List (List Int)) (through goal : List Int) (n : Int) (d : List (Option Int)) : Prop where
  len : (d.length : Int) = n
  pos : ∀ s k, 0 <= s -> s < n -> dg d s = some k -> 0 <= k /\ k < n
  zero : ∀ s, 0 <= s -> s < n -> (dg d s = some 0 ↔ s ∈ goal)
  via : ∀ s k, 0 <= s -> s < n -> dg d s = some k -> s ∉ goal -> s ∈ through /\ ∃ t ∈ nxt xss s, 0 <= t /\ t < n /\ dg d t = some (k - 1)
  near : ∀ s t k, 0 <= s -> s < n -> 0 <= t -> t < n -> s ∈ through -> t ∈ nxt xss s -> dg d t = some k -> ∃ j, dg d s = some j /\ j <= k + 1
structure Bf (xss : List (List Int)) (pass : Int -> Prop) (goal : List Int) (n : Int) (d : List (Option Int)) (row : List Int) (place : Nat) : Prop where
  len : (d.length : Int) = n
  rng : ∀ s ∈ row, 0 <= s /\ s < n
  nd : row.Nodup
  iff : ∀ s : Int, 0 <= s -> s < n -> ((dg d s).isSome = true ↔ s ∈ row)
  idx : ∀ (i : Nat) (s : Int), row[i]? = some s -> ∃ k : Int, dg d s = some k /\ 0 <= k /\ k <= i
  mono : ∀ (i j : Nat) (s t k l : Int), i <= j -> row[i]? = some s -> row[j]? = some t -> dg d s = some k -> dg d t = some l -> k <= l
  top : ∀ (j : Nat) (s t k l : Int), row[place]? = some s -> row[j]? = some t -> dg d s = some k -> dg d t = some l -> l <= k + 1
  zero : ∀ s : Int, 0 <= s -> s < n -> (dg d s = some 0 ↔ s ∈ goal)
  via : ∀ (s k : Int), s ∈ row -> dg d s = some k -> s ∉ goal -> pass s /\ ∃ t ∈ nxt xss s, 0 <= t /\ t < n /\ dg d t = some (k - 1)
  done : ∀ (i : Nat) (s t k : Int), i < place -> row[i]? = some t -> dg d t = some k -> 0 <= s -> s < n -> pass s -> t ∈ nxt xss s -> ∃ j, dg d s = some j /\ j <= k + 1
theorem dg_set {d : List (Option Int)} {s t : Int} {v : Option Int} {n : Int} (hl : (d.length : Int) = n) (h0 : 0 <= s) (h1 : s < n) (t0 : 0 <= t) : dg (d.set s.toNat v) t = if t = s then v else dg d t := by
  show (d.set s.toNat v).getD t.toNat none = _
  rw [getD_set (by omega)]
  by_cases e : t = s
  · rw [if_pos e, if_pos (by rw [e])]
  · rw [if_neg e, if_neg (by omega)]
theorem uL {row : List Int} {i : Nat} {s x : Int} (h : (row ++ [x])[i]? = some s) : row[i]? = some s \/ (i = row.length /\ s = x) := by
  by_cases q : i < row.length
  · rw [List.getElem?_append_left q] at h; exact .inl h
  · rw [List.getElem?_append_right (by omega)] at h
    have : i - row.length = 0 := by
      have := yR h
      simp at this
      omega
    rw [this] at h
    exact .inr ⟨by omega, (Option.some.inj h).symm⟩
structure Bm (xss : List (List Int)) (pass : Int -> Prop) (goal : List Int) (n : Int) (d : List (Option Int)) (row : List Int) (place : Nat) (t k : Int) (seen : List Int) : Prop where
  bf : Bf xss pass goal n d row place
  at_ : row[place]? = some t
  k_ : dg d t = some k
  seen_ : ∀ s ∈ seen, pass s -> ∃ j, dg d s = some j /\ j <= k + 1
theorem Bm.put {xss : List (List Int)} {pass : Int -> Prop} {goal : List Int} {n : Int} {d : List (Option Int)} {row : List Int} {place : Nat} {t k x : Int} {seen : List Int} (b : Bm xss pass goal n d row place t k seen) (hx0 : 0 <= x) (hx1 : x < n) (hp : pass x) (hn : dg d x = none) (ht : t ∈ nxt xss x) :
    Bm xss pass goal n (d.set x.toNat (some (k + 1))) (row ++ [x]) place t k (seen ++ [x]) := by
  have B := b.bf
  have tr := B.rng t (List.mem_of_getElem? b.at_)
  have xr : x ∉ row := fun h => by have := (B.iff x hx0 hx1).mpr h; rw [hn] at this; cases this
  have tx : t ≠ x := fun e => xr (e ▸ List.mem_of_getElem? b.at_)
  obtain ⟨k', e1, k0, kp⟩ := B.idx place t b.at_
  rw [b.k_] at e1
  cases e1
  have pl := yR b.at_
  have old : ∀ s : Int, 0 <= s -> s ≠ x -> dg (d.set x.toNat (some (k + 1))) s = dg d s := fun s s0 q => by rw [dg_set B.len hx0 hx1 s0, if_neg q]
  have new : dg (d.set x.toNat (some (k + 1))) x = some (k + 1) := by rw [dg_set B.len hx0 hx1 hx0, if_pos rfl]
  have inr : ∀ {i : Nat} {s : Int}, row[i]? = some s -> 0 <= s /\ s < n /\ s ≠ x := fun h => by
    have := B.rng _ (List.mem_of_getElem? h)
    exact ⟨this.1, this.2, fun e => xr (e ▸ List.mem_of_getElem? h)⟩
  refine ⟨⟨by rw [List.length_set]; exact B.len, fun s hs => ?_, ?_, fun s s0 s1 => ?_, fun i s h => ?_, fun i j s u a l ij h1 h2 h3 h4 => ?_, fun j s u a l h1 h2 h3 h4 => ?_, fun s s0 s1 => ?_, fun s a hs h1 h2 => ?_, fun i s u a hi h1 h2 s0 s1 ps hu => ?_⟩, ?_, ?_, fun s hs ps => ?_⟩
  · rcases List.mem_append.mp hs with q | q
    · exact B.rng s q
    · rw [List.mem_singleton.mp q]; exact ⟨hx0, hx1⟩
  · rw [List.nodup_append]
    exact ⟨B.nd, by simp, fun a ha c hc e => by rw [List.mem_singleton.mp hc] at e; exact xr (e ▸ ha)⟩
  · by_cases e : s = x
    · subst e; rw [new]; simp
    · rw [old s s0 e, B.iff s s0 s1]; simp [e]
  · rcases uL h with h | ⟨rfl, rfl⟩
    · obtain ⟨a1, a2, a3⟩ := inr h
      rw [old s a1 a3]; exact B.idx i s h
    · exact ⟨k + 1, new, by omega, by omega⟩
  · rcases uL h1 with g1 | ⟨rfl, rfl⟩
    · obtain ⟨a1, a2, a3⟩ := inr g1
      rw [old s a1 a3] at h3
      rcases uL h2 with g2 | ⟨rfl, rfl⟩
      · obtain ⟨b1, b2, b3⟩ := inr g2
        rw [old u b1 b3] at h4
        exact B.mono i j s u a l ij g1 g2 h3 h4
      · rw [new] at h4
        cases h4
        exact B.top i t s k a b.at_ g1 b.k_ h3
    · rcases uL h2 with h2 | ⟨rfl, rfl⟩
      · have := yR h2; omega
      · rw [h3] at h4; cases h4; exact Int.le_refl _
  · have h1' : s = t := by
      rcases uL h1 with h1 | ⟨e, _⟩
      · rw [b.at_] at h1; exact (Option.some.inj h1).symm
      · omega
    subst h1'
    rw [old s tr.1 tx, b.k_] at h3
    cases h3
    rcases uL h2 with h2 | ⟨rfl, rfl⟩
    · obtain ⟨b1, b2, b3⟩ := inr h2
      rw [old u b1 b3] at h4
      exact B.top j s u k l b.at_ h2 b.k_ h4
    · rw [new] at h4; cases h4; exact Int.le_refl _
  · by_cases e : s = x
    · subst e
      rw [new]
      constructor
      · intro q; have q := Option.some.inj q; omega
      · intro q; have := (B.zero s s0 s1).mpr q; rw [hn] at this; cases this
    · rw [old s s0 e]; exact B.zero s s0 s1
  · rcases List.mem_append.mp hs with q | q
    · have sr := B.rng s q
      have sx : s ≠ x := fun e => xr (e ▸ q)
      rw [old s sr.1 sx] at h1
      obtain ⟨p1, u, u1, u2, u3, u4⟩ := B.via s a q h1 h2
      refine ⟨p1, u, u1, u2, u3, ?_⟩
      rw [old u u2 fun e => by rw [e, hn] at u4; cases u4]
      exact u4
    · have := List.mem_singleton.mp q
      subst this
      rw [new] at h1
      cases h1
      exact ⟨hp, t, ht, tr.1, tr.2, by rw [old t tr.1 tx, b.k_, show k + 1 - 1 = k by omega]⟩
  · have h1' : row[i]? = some u := by rw [List.getElem?_append_left (by omega)] at h1; exact h1
    obtain ⟨b1, b2, b3⟩ := inr h1'
    rw [old u b1 b3] at h2
    obtain ⟨j, q1, q2⟩ := B.done i s u a hi h1' h2 s0 s1 ps hu
    by_cases e : s = x
    · subst e; rw [hn] at q1; cases q1
    · exact ⟨j, by rw [old s s0 e]; exact q1, q2⟩
  · rw [List.getElem?_append_left pl]; exact b.at_
  · rw [old t tr.1 tx]; exact b.k_
  · rcases List.mem_append.mp hs with q | q
    · obtain ⟨j, q1, q2⟩ := b.seen_ s q ps
      by_cases e : s = x
      · subst e; rw [hn] at q1; cases q1
      · by_cases s0 : 0 <= s
        · exact ⟨j, by rw [old s s0 e]; exact q1, q2⟩
        · refine ⟨j, ?_, q2⟩
          show (d.set x.toNat (some (k + 1))).getD s.toNat none = some j
          have z : s.toNat = 0 := by omega
          rw [getD_set (by have := B.len; omega)]
          by_cases w : s.toNat = x.toNat
          · have xz : x = 0 := by omega
            have q1' : d.getD s.toNat none = some j := q1
            have hn' : d.getD x.toNat none = none := hn
            rw [w] at q1'
            rw [q1'] at hn'
            cases hn'
          · rw [if_neg w]; exact q1
    · rw [List.mem_singleton.mp q]; exact ⟨k + 1, new, Int.le_refl _⟩
theorem w_distances {C : Addr} {m : Mach C} {n : Int} (g : Gr m n) {through goal : List Int} (ht : ∀ x ∈ through, 0 <= x /\ x < n) (hg : goal.Nodup /\ ∀ x ∈ goal, 0 <= x /\ x < n) : W (xZ m through goal) (DistOk m.steps through goal n) := by
  unfold xZ
  have hp := g.pos
  have hf := g.few
  simp only [zC, W_some, w_manyM g, wP]
  refine (w_flags g ht).imp fun fl ⟨fl1, fl2⟩ => ⟨⟨by omega, by omega⟩, ?_⟩
  rw [W_map (fun _ => (none : Option Int))]
  have e := wF (n := n) (by omega)
  refine ⟨yL (by omega), xA (fun i (d : List (Option Int)) => (d.length : Int) = n /\ ∀ s : Int, 0 <= s -> s < n -> dg d s = if s ∈ goal.take i then some 0 else none) ⟨by rw [List.length_map]; exact e, fun s _ _ => ?_⟩ (fun i x d hi hI => ?_) fun d hd => ?_⟩
  · show (List.map (fun _ => (none : Option Int)) (rng n)).getD s.toNat none = _
    rw [List.getD_eq_getElem?_getD, List.getElem?_map]
    cases (rng n)[s.toNat]? <;> simp
  · have hx := hg.2 x (List.mem_of_getElem? hi)
    simp only [zC, W_some]
    rw [W_set hx.1 (by omega)]
    refine ⟨by rw [List.length_set]; exact hI.1, fun s s0 s1 => ?_⟩
    have tk : goal.take (i + 1) = goal.take i ++ [x] := by rw [List.take_add_one, hi] <;> rfl
    rw [dg_set hI.1 hx.1 hx.2 s0, hI.2 s s0 s1, tk]
    by_cases q : s = x <;> simp [q]
  rw [List.take_length] at hd
  have base : Bf m.steps (· ∈ through) goal n d goal 0 := by
    have z : ∀ s : Int, 0 <= s -> s < n -> ∀ k, dg d s = some k -> k = 0 /\ s ∈ goal := fun s s0 s1 k h => by
      rw [hd.2 s s0 s1] at h
      split at h
      · rename_i q; cases h; exact ⟨rfl, q⟩
      · cases h
    refine ⟨hd.1, hg.2, hg.1, fun s s0 s1 => ?_, fun i s h => ?_, fun i j s t k l _ h1 h2 h3 h4 => ?_, fun j s t k l h1 h2 h3 h4 => ?_, fun s s0 s1 => ?_, fun s k hs h1 h2 => absurd hs h2, fun i s t k hi => by omega⟩
    · rw [hd.2 s s0 s1]; by_cases q : s ∈ goal <;> simp [q]
    · have hs := List.mem_of_getElem? h
      have := hg.2 s hs
      exact ⟨0, by rw [hd.2 s this.1 this.2, if_pos hs], Int.le_refl _, by omega⟩
    · have a1 := hg.2 s (List.mem_of_getElem? h1)
      have a2 := hg.2 t (List.mem_of_getElem? h2)
      have := (z s a1.1 a1.2 k h3).1
      have := (z t a2.1 a2.2 l h4).1
      omega
    · have a1 := hg.2 s (List.mem_of_getElem? h1)
      have a2 := hg.2 t (List.mem_of_getElem? h2)
      have := (z s a1.1 a1.2 k h3).1
      have := (z t a2.1 a2.2 l h4).1
      omega
    · rw [hd.2 s s0 s1]; by_cases q : s ∈ goal <;> simp [q]
  have hn60 : n.toNat <= 60 := by omega
  refine W_while (fun s => ∃ pl : Nat, s.2.2 = (pl : Int) /\ Bf m.steps (· ∈ through) goal n s.1 s.2.1 pl) (fun s => n.toNat - s.2.2.toNat) ⟨0, rfl, base⟩ (show n.toNat - (0 : Int).toNat < fuel from Nat.lt_of_le_of_lt (Nat.sub_le _ _) (Nat.lt_of_le_of_lt hn60 (by decide))) fun s ⟨pl, hpl, B⟩ => ?_
  rw [W_some]
  have rl : s.2.1.length <= n.toNat := xI B.nd fun x hx => by have := B.rng x hx; omega
  by_cases lt : s.2.2 < (s.2.1.length : Int)
  · rw [decide_eq_true lt, if_pos rfl]
    simp only [zC, W_some]
    rw [W_at (by omega)]
    have pll : pl < s.2.1.length := by omega
    have e1 : s.2.2.toNat = pl := by omega
    rw [e1]
    refine ⟨_, List.getElem?_eq_getElem pll, ?_⟩
    have hat : s.2.1[pl]? = some s.2.1[pl] := List.getElem?_eq_getElem pll
    generalize s.2.1[pl] = t at hat
    have tr := B.rng t (List.mem_of_getElem? hat)
    obtain ⟨k, hk, k0, k1⟩ := B.idx pl t hat
    refine (w_before g tr.1 tr.2).imp fun xs hxs => ?_
    refine xA (fun i (r : List (Option Int) × List Int) => Bm m.steps (· ∈ through) goal n r.1 r.2 pl t k (xs.take i)) ⟨B, hat, hk, fun s hs => by cases hs⟩ (fun i x r hi b => ?_) fun r b => ?_
    · have hx := (hxs x).mp (List.mem_of_getElem? hi)
      have tk : xs.take (i + 1) = xs.take i ++ [x] := by rw [List.take_add_one, hi] <;> rfl
      rw [tk]
      simp only [zC, W_some]
      rw [W_at hx.1]
      have fx := fl2 x hx.1 hx.2.1
      have fl3 : x.toNat < fl.length := by omega
      refine ⟨_, List.getElem?_eq_getElem fl3, ?_⟩
      rw [List.getD_eq_getElem?_getD, List.getElem?_eq_getElem fl3] at fx
      have fx : fl[x.toNat] = decide (x ∈ through) := fx
      rw [fx]
      have dl : x.toNat < r.1.length := by have := b.bf.len; omega
      have dx : dg r.1 x = r.1[x.toNat] := by show r.1.getD x.toNat none = _; rw [List.getD_eq_getElem?_getD, List.getElem?_eq_getElem dl]; rfl
      by_cases px : x ∈ through
      · rw [decide_eq_true px, if_pos rfl, zC, W_at hx.1]
        refine ⟨_, List.getElem?_eq_getElem dl, ?_⟩
        rw [<- dx, W_some]
        cases hdx : dg r.1 x with
        | none =>
          simp only [Option.isNone_none, if_true, zC, W_some]
          have tr' : t.toNat < r.1.length := by have := b.bf.len; omega
          rw [W_at tr.1]
          refine ⟨_, List.getElem?_eq_getElem tr', ?_⟩
          have ek : r.1[t.toNat] = some k := by
            have := b.k_
            have z : r.1.getD t.toNat none = some k := this
            rw [List.getD_eq_getElem?_getD, List.getElem?_eq_getElem tr'] at z
            exact z
          rw [ek, W_some, W_set hx.1 (by have := b.bf.len; omega), wW]
          have rl2 : r.2.length <= n.toNat := xI b.bf.nd fun x hx => by have := b.bf.rng x hx; omega
          exact ⟨yL (by omega), b.put hx.1 hx.2.1 px hdx hx.2.2⟩
        | some j =>
          simp only [Option.isNone_some, Bool.false_eq_true, if_false, W_some]
          refine ⟨b.bf, b.at_, b.k_, fun s hs ps => ?_⟩
          rcases List.mem_append.mp hs with q | q
          · exact b.seen_ s q ps
          · rw [List.mem_singleton.mp q]
            have hin : x ∈ r.2 := (b.bf.iff x hx.1 hx.2.1).mp (by rw [hdx]; rfl)
            obtain ⟨ii, hii⟩ := List.mem_iff_getElem?.mp hin
            exact ⟨j, hdx, b.bf.top ii t x k j b.at_ hii b.k_ hdx⟩
      · rw [decide_eq_false px, if_neg (by decide), W_some]
        simp only [Bool.false_eq_true, if_false, W_some]
        refine ⟨b.bf, b.at_, b.k_, fun s hs ps => ?_⟩
        rcases List.mem_append.mp hs with q | q
        · exact b.seen_ s q ps
        · rw [List.mem_singleton.mp q] at ps; exact absurd ps px
    · rw [List.take_length] at b
      refine ⟨⟨pl + 1, by show s.2.2 + 1 = _; omega, ?_⟩, ?_⟩
      · have B' := b.bf
        refine ⟨B'.len, B'.rng, B'.nd, B'.iff, B'.idx, B'.mono, fun j u v a l h1 h2 h3 h4 => ?_, B'.zero, B'.via, fun i u v a hi h1 h2 u0 u1 pu hu => ?_⟩
        · have q1 := B'.mono pl (pl + 1) t u k a (by omega) b.at_ h1 b.k_ h3
          have q2 := B'.top j t v k l b.at_ h2 b.k_ h4
          omega
        · by_cases q : i = pl
          · subst q
            rw [b.at_] at h1
            cases h1
            rw [b.k_] at h2
            cases h2
            exact b.seen_ u ((hxs u).mpr ⟨u0, u1, hu⟩) pu
          · exact B'.done i u v a (by omega) h1 h2 u0 u1 pu hu
      · show n.toNat - (s.2.2 + 1).toNat < n.toNat - pl
        omega
  · rw [decide_eq_false lt, if_neg (by decide)]
    have all : ∀ t ∈ s.2.1, ∃ i, i < pl /\ s.2.1[i]? = some t := fun t h => by
      obtain ⟨i, hi⟩ := List.mem_iff_getElem?.mp h
      exact ⟨i, by have := yR hi; omega, hi⟩
    refine ⟨B.len, fun u k u0 u1 h => ?_, B.zero, fun u k u0 u1 h hu => ?_, fun u t k u0 u1 t0 t1 hu ht hk => ?_⟩
    · have hin := (B.iff u u0 u1).mp (by rw [h]; rfl)
      obtain ⟨i, hi⟩ := List.mem_iff_getElem?.mp hin
      obtain ⟨k', e1, e2, e3⟩ := B.idx i u hi
      rw [h] at e1
      cases e1
      have := yR hi
      exact ⟨e2, by omega⟩
    · exact B.via u k ((B.iff u u0 u1).mp (by rw [h]; rfl)) h hu
    · obtain ⟨i, h1, h2⟩ := all t ((B.iff t t0 t1).mp (by rw [hk]; rfl))
      exact B.done i u t k h1 h2 hk u0 u1 hu ht
end Ts
namespace Ts
open PySem L2
theorem nxt_at {xss : List (List Int)} {n s : Int} (hl : (xss.length : Int) = n) (h0 : 0 <= s) (h1 : s < n) : xss[s.toNat]? = some (nxt xss s) := by
  have : s.toNat < xss.length := by omega
  unfold nxt
  rw [List.getD_eq_getElem?_getD, List.getElem?_eq_getElem this]
  rfl
theorem rng_lt (n : Int) : (rng n).Pairwise (· < ·) := by
  unfold rng
  rw [List.pairwise_map]
  exact List.pairwise_lt_range.imp fun h => by show (_ : Int) < _; simpa using h
def pick (n : Int) (p : Int -> Bool) : List Int := (rng n).filter p
theorem mem_pick {n s : Int} {p : Int -> Bool} : s ∈ pick n p ↔ 0 <= s /\ s < n /\ p s = true := by
  unfold pick
  rw [List.mem_filter, mem_rng, and_assoc]
theorem rise_pick (n : Int) (p : Int -> Bool) : Rise n (pick n p) := ⟨(rng_lt n).filter p, fun x hx => by have := mem_pick.mp hx; omega⟩
theorem enumL_eq {d : List (Option Int)} {n : Int} (hl : (d.length : Int) = n) : enumL d = (rng n).map fun s => (s, dg d s) := by
  refine List.ext_getElem? fun i => ?_
  have e : n.toNat = d.length := by omega
  by_cases q : i < d.length
  · have h1 : (rng n)[i]? = some (i : Int) := by unfold rng; rw [List.getElem?_map, List.getElem?_range (by omega)]; rfl
    rw [List.getElem?_map, h1]
    unfold enumL
    rw [List.getElem?_zip_eq_some (z := ((i : Int), dg d i))|>.mpr ⟨?_, ?_⟩]
    · rfl
    · rw [List.getElem?_map, List.getElem?_range q]; rfl
    · show d[i]? = some (d.getD ((i : Int).toNat) none)
      rw [Int.toNat_natCast, List.getD_eq_getElem?_getD, List.getElem?_eq_getElem q]; rfl
  · rw [List.getElem?_eq_none (by rw [enumL_len]; omega), List.getElem?_eq_none (by rw [List.length_map]; unfold rng; rw [List.length_map, List.length_range]; omega)]
end Ts
namespace Ts
open PySem L2
theorem W_dputB {kvs : List (Key × Bool)} {k : Int} {v : Bool} {Q : List (Key × Bool) -> Prop} : W (dput kvs k v) Q ↔ kvs.length < cap /\ Q (pK kvs (Sum.inl k) v) := by
  unfold dput
  rw [W_ite]
  constructor
  · intro ⟨h1, h2⟩
    by_cases h : kvs.length < cap
    · exact ⟨h, W_some.mp (h1 h)⟩
    · exact absurd (h2 h) (by rw [uQ]; exact id)
  · intro ⟨h, q⟩
    exact ⟨fun _ => W_some.mpr q, fun z => absurd h z⟩
theorem W_dputSB {kvs : List (Key × Bool)} {k : Str} {v : Bool} {Q : List (Key × Bool) -> Prop} : W (dputS kvs k v) Q ↔ kvs.length < cap /\ Q (pK kvs (Sum.inr k) v) := by
  unfold dputS
  rw [W_ite]
  constructor
  · intro ⟨h1, h2⟩
    by_cases h : kvs.length < cap
    · exact ⟨h, W_some.mp (h1 h)⟩
    · exact absurd (h2 h) (by rw [uQ]; exact id)
  · intro ⟨h, q⟩
    exact ⟨fun _ => W_some.mpr q, fun z => absurd h z⟩
def SetOk (n : Int) (xs : List Int) : Prop := xs.Nodup /\ xs.length <= 100 /\ ∀ z ∈ xs, 0 <= z /\ z < n
theorem w_isStand {z n : Int} (h : 0 <= z /\ z < n) : wG z n = some true := by
  unfold wG
  rw [if_pos rfl, if_pos (show (!false) = true from rfl), decide_eq_true h.1, if_pos rfl, decide_eq_true h.2]
theorem uR {xs : List Int} {n : Int} (h : SetOk n xs) (x : Str) : W (zY xs n x) fun _ => True := by
  unfold zY
  rw [zC, W_some, zC, zC, W_some]
  refine xA (fun i s => s.length <= i /\ ∀ z, (dget s z).isSome = true -> z ∈ xs.take i) ⟨Nat.zero_le _, fun z hz => by cases hz⟩ (fun i y s hi hI => ?_) fun s _ => W_some.mpr trivial
  have il := yR hi
  rw [w_isStand (h.2.2 y (List.mem_of_getElem? hi)), zC, zC, zC, W_some, W_some, Bool.not_true, if_neg (by decide), W_some, zC]
  have hn : (dget s y).isSome = false := by
    cases q : (dget s y).isSome with
    | false => rfl
    | true => exact absurd (hI.2 y q) (notin_take h.1 hi)
  have hn' : (dget (Dc.mk s).kv y).isSome = false := hn
  rw [hn', if_neg (by decide), W_some, zC, W_dputB]
  have l1 := h.2.1
  refine ⟨yL (by omega), ?_⟩
  rw [W_some]
  have l2 := pK_len s (Sum.inl y) true
  refine ⟨by omega, fun z hz => ?_⟩
  rw [wQ hi]
  have e : dget (pK s (Sum.inl y) true) z = if (Sum.inl z : Key) = Sum.inl y then some true else dget s z := gK_put s (Sum.inl y) (Sum.inl z) true
  rw [e] at hz
  by_cases q : (Sum.inl z : Key) = Sum.inl y
  · exact .inr (Sum.inl.inj q)
  · rw [if_neg q] at hz
    exact .inl (hI.2 z hz)
theorem w_fsI (a : Str) {i : Nat} (h : i < 1000) : W (fsI a (i : Int)) fun _ => True := by
  unfold fsI
  rw [if_pos (log_small (by omega)), W_some]
  trivial
theorem w_chkSteps {xss : List (List Int)} {n : Int} (hl : (xss.length : Int) = n) (h0 : 1 <= n) (h1 : n <= 60) (h : ∀ xs ∈ xss, xs ≠ [] /\ SetOk n xs) : W (xO xss) fun _ => True := by
  unfold xO
  rw [zC, W_some, zC, zC, hl, decide_eq_false (by omega), if_neg (by decide), W_some, decide_eq_false (by omega), if_neg (by decide), W_some, zC, zC, W_some]
  refine xA (fun _ _ => True) trivial (fun i y s hi _ => ?_) fun s _ => W_some.mpr trivial
  obtain ⟨e1, e2⟩ := enumL_at hi
  have il := yR e2
  obtain ⟨ne, ok⟩ := h y.2 (List.mem_of_getElem? e2)
  rw [e1]
  simp only [zC]
  refine (w_fsI "steps of stand " (i := i) (by omega)).imp fun t _ => ?_
  rw [W_some, W_some, W_some]
  refine (uR ok t).imp fun _ _ => ?_
  rw [decide_eq_false (fun z => ne (List.length_eq_zero_iff.mp (by omega))), if_neg (by decide), W_some, W_some]
  trivial
theorem w_chkFair {xss : List (List Int)} {n : Int} (hl : xss.length <= 100) (h : ∀ xs ∈ xss, SetOk n xs) : W (wD xss n) fun _ => True := by
  unfold wD
  rw [zC, zC, W_some]
  refine xA (fun _ _ => True) trivial (fun i y s hi _ => ?_) fun s _ => W_some.mpr trivial
  obtain ⟨e1, e2⟩ := enumL_at hi
  have il := yR e2
  rw [e1]
  simp only [zC]
  refine (w_fsI "fair set " (i := i) (by omega)).imp fun t _ => ?_
  rw [W_some, W_some, W_some]
  refine (uR (h y.2 (List.mem_of_getElem? e2)) t).imp fun _ _ => ?_
  rw [W_some]
  trivial
def MarksOk (n : Int) (ms : List (Str × List Int)) : Prop := (ms.map (·.1)).Nodup /\ ms.length <= 100 /\ ∀ m ∈ ms, vN m.1 = some true /\ m.1.length <= 1000 /\ SetOk n m.2
theorem w_chkMarks {ms : List (Str × List Int)} {n : Int} (h : MarksOk n ms) : W (xP ms n) fun _ => True := by
  unfold xP
  rw [zC, W_some, zC, zC, W_some]
  refine xA (fun i s => s.length <= i /\ ∀ z, (dgetS s z).isSome = true -> z ∈ (ms.map (·.1)).take i) ⟨Nat.zero_le _, fun z hz => by cases hz⟩ (fun i y s hi hI => ?_) fun s _ => W_some.mpr trivial
  have il := yR hi
  have hi' : (ms.map (·.1))[i]? = some y.1 := by rw [List.getElem?_map, hi]; rfl
  obtain ⟨nm, ln, ok⟩ := h.2.2 y (List.mem_of_getElem? hi)
  have nin : y.1 ∉ (ms.map (·.1)).take i := fun hz => by
    obtain ⟨j, hj⟩ := List.mem_iff_getElem?.mp hz
    have hji : j < i := by
      have := yR hj
      rw [List.length_take] at this
      omega
    rw [List.getElem?_take_of_lt hji] at hj
    have a1 := yR hi'
    have a2 := yR hj
    rw [List.getElem?_eq_getElem a1] at hi'
    rw [List.getElem?_eq_getElem a2] at hj
    have e : (ms.map (·.1))[j] = (ms.map (·.1))[i] := (Option.some.inj hj).trans (Option.some.inj hi').symm
    have := (List.getElem_inj h.1).mp e
    omega
  rw [nm, zC, zC, zC, W_some, W_some, Bool.not_true, if_neg (by decide), W_some, zC]
  have hn : (dgetS (Dc.mk s).kv y.1).isSome = false := by
    cases q : (dgetS s y.1).isSome with
    | false => rfl
    | true => exact absurd (hI.2 y.1 q) nin
  rw [hn, if_neg (by decide), W_some, zC, W_dputSB]
  have l1 := h.2.1
  refine ⟨yL (by omega), ?_⟩
  simp only [zC]
  have fs : W (fsS "mark " y.1) fun _ => True := by
    unfold fsS
    rw [if_pos ln, W_some]
    trivial
  refine fs.imp fun t _ => ?_
  rw [W_some, W_some, W_some]
  refine (uR ok t).imp fun _ _ => ?_
  rw [W_some]
  have l2 := pK_len s (Sum.inr y.1) true
  refine ⟨by omega, fun z hz => ?_⟩
  rw [wQ hi']
  have e : dgetS (pK s (Sum.inr y.1) true) z = if (Sum.inr z : Key) = Sum.inr y.1 then some true else dgetS s z := gK_put s (Sum.inr y.1) (Sum.inr z) true
  rw [e] at hz
  by_cases q : (Sum.inr z : Key) = Sum.inr y.1
  · exact .inr (Sum.inr.inj q)
  · rw [if_neg q] at hz
    exact .inl (hI.2 z hz)
theorem w_copied {xss : List (List Int)} (h : xss.length <= 100) : vV xss = some xss := by
  have q : W (vV xss) (· = xss) := by
    unfold vV
    rw [zC, W_some, W_map (fun x => x), List.map_id']
    exact ⟨yL (by omega), rfl⟩
  obtain ⟨a, e, rfl⟩ := q
  exact e
theorem w_mkK (C : Addr) {xss : List (List Int)} {mo : Option MKs} {fo : Option LLI} {n : Int} (hl : (xss.length : Int) = n) (h0 : 1 <= n) (h1 : n <= 60) (h : ∀ xs ∈ xss, xs ≠ [] /\ SetOk n xs) (hm : MarksOk n (mo.getD [])) (hf : (fo.getD []).length <= 100 /\ ∀ xs ∈ fo.getD [], SetOk n xs) :
    W (mkK C xss mo fo) fun m => Gr m n /\ m.steps = xss /\ m.marks = mo.getD [] /\ m.fair = fo.getD [] := by
  unfold mkK mkG
  rw [zC]
  refine (w_chkSteps hl h0 h1 h).imp fun _ _ => ?_
  rw [zC, hl]
  refine (w_chkMarks hm).imp fun _ _ => ?_
  rw [zC]
  refine (w_chkFair hf.1 hf.2).imp fun _ _ => ?_
  have m1 := hm.2.1
  rw [w_copied (by omega), zC, W_some, zC, W_map (fun x : Str × List Int => (x.1, x.2))]
  refine ⟨yL (by omega), ?_⟩
  have e : (mo.getD []).map (fun x : Str × List Int => (x.1, x.2)) = mo.getD [] := List.map_id' _
  rw [w_copied hf.1, zC, W_some, zC]
  have hv : fSo xss = some (srcs xss) := by
    unfold fSo
    rw [if_pos ⟨by omega, rfl, fun xs hx => by obtain ⟨a, b, c, d⟩ := h xs hx; exact ⟨a, b, c, fun z hz => by have := d z hz; omega⟩⟩]
  rw [hv, W_some, W_some, e]
  exact ⟨⟨hl, h0, h1, fun xs hx => by obtain ⟨a, b, c, d⟩ := h xs hx; exact ⟨a, b, d⟩, rfl⟩, rfl, rfl, rfl⟩
theorem rise_set {n : Int} {xs : List Int} (h : Rise n xs) (h60 : n <= 60) : SetOk n xs := ⟨h.nodup, by
  by_cases hn : 0 <= n
  · have := xI (n := n.toNat) h.nodup fun x hx => by have := h.2 x hx; omega
    omega
  · cases xs with
    | nil => exact Nat.zero_le _
    | cons x xs => have := h.2 x List.mem_cons_self; omega, h.2⟩
theorem row_set {n : Int} {xs : List Int} (h : RowOk n xs) : xs ≠ [] /\ SetOk n xs := ⟨h.1, h.2.1, by have := h.2.2.1; omega, h.2.2.2⟩
end Ts
namespace Ts
open PySem L2
theorem bitAnd_nn {x y : Int} (hx : 0 <= x) (hy : 0 <= y) : Builtin.bitAnd x y = ((x.toNat &&& y.toNat : Nat) : Int) := by
  unfold Builtin.bitAnd
  rw [decide_eq_true hx, decide_eq_true hy]
theorem bitOr_nn {x y : Int} (hx : 0 <= x) (hy : 0 <= y) : Builtin.bitOr x y = ((x.toNat ||| y.toNat : Nat) : Int) := by
  have h1 : ¬ 0 <= Builtin.bitNot x := by unfold Builtin.bitNot; omega
  have h2 : ¬ 0 <= Builtin.bitNot y := by unfold Builtin.bitNot; omega
  have nn : ∀ z : Int, Builtin.bitNot (Builtin.bitNot z) = z := fun z => by unfold Builtin.bitNot; omega
  unfold Builtin.bitOr Builtin.bitAnd
  rw [decide_eq_false h1, decide_eq_false h2]
  dsimp only
  rw [nn, nn, nn]
def bt (x t : Int) : Bool := x.toNat.testBit t.toNat
theorem bt_or {x y : Int} (hx : 0 <= x) (hy : 0 <= y) (t : Int) : bt (Builtin.bitOr x y) t = (bt x t || bt y t) := by
  unfold bt
  rw [bitOr_nn hx hy, Int.toNat_natCast, Nat.testBit_or]
theorem bt_and {x y : Int} (hx : 0 <= x) (hy : 0 <= y) (t : Int) : bt (Builtin.bitAnd x y) t = (bt x t && bt y t) := by
  unfold bt
  rw [bitAnd_nn hx hy, Int.toNat_natCast, Nat.testBit_and]
theorem or_nn {x y : Int} (hx : 0 <= x) (hy : 0 <= y) : 0 <= Builtin.bitOr x y := by rw [bitOr_nn hx hy]; exact Int.natCast_nonneg _
theorem and_nn {x y : Int} (hx : 0 <= x) (hy : 0 <= y) : 0 <= Builtin.bitAnd x y := by rw [bitAnd_nn hx hy]; exact Int.natCast_nonneg _
theorem bt_zero (t : Int) : bt 0 t = false := by unfold bt; simp
theorem bt_shl {t u : Int} (ht : 0 <= t) (hu : 0 <= u) : bt (1 * 2 ^ t.toNat) u = decide (u = t) := by
  unfold bt
  rw [Int.one_mul, show ((2 : Int) ^ t.toNat).toNat = 2 ^ t.toNat by
    rw [show ((2 : Int) ^ t.toNat) = ((2 ^ t.toNat : Nat) : Int) by simp]
    exact Int.toNat_natCast _, Nat.testBit_two_pow]
  rw [Bool.eq_iff_iff, decide_eq_true_iff, decide_eq_true_iff]
  omega
theorem shr_nn {x : Int} (hx : 0 <= x) (k : Nat) : 0 <= x / 2 ^ k := Int.ediv_nonneg hx (Int.le_of_lt (Int.pow_pos (by decide)))
theorem shr_nat {x : Int} (hx : 0 <= x) (k : Nat) : (x / 2 ^ k).toNat = x.toNat >>> k := by
  obtain ⟨m, rfl⟩ := Int.eq_ofNat_of_zero_le hx
  rw [Nat.shiftRight_eq_div_pow, Int.toNat_natCast]
  have : ((m : Int) / 2 ^ k) = ((m / 2 ^ k : Nat) : Int) := by simp
  rw [this, Int.toNat_natCast]
theorem bt_shr {x t : Int} (hx : 0 <= x) : bt (x / 2 ^ t.toNat) 0 = bt x t := by
  unfold bt
  rw [shr_nat hx, Int.toNat_zero, Nat.testBit_shiftRight]
  rfl
theorem bt_one {x : Int} (hx : 0 <= x) : (Builtin.bitAnd x 1 != 0) = bt x 0 := by
  rw [bitAnd_nn hx (by decide)]
  unfold bt
  rw [Nat.testBit]
  simp only [Int.toNat_zero, Nat.shiftRight_zero, show (1 : Int).toNat = 1 from rfl]
  rw [Nat.and_comm]
  rw [Bool.eq_iff_iff]
  simp only [bne_iff_ne, ne_eq]
  omega
theorem w_bits {xs : List Int} {n : Int} (h : ∀ x ∈ xs, 0 <= x /\ x < n) (h60 : n <= 60) : W (wL xs) fun b => 0 <= b /\ ∀ t : Int, 0 <= t -> bt b t = decide (t ∈ xs) := by
  unfold wL
  rw [zC, W_some, zC, zC, W_some]
  refine xA (fun i s => 0 <= s /\ ∀ t : Int, 0 <= t -> bt s t = decide (t ∈ xs.take i)) ⟨by decide, fun t _ => by rw [bt_zero]; simp⟩ (fun i x s hi hI => ?_) fun s hI => ?_
  · obtain ⟨h0, hb⟩ := hI
    have xb := h x (List.mem_of_getElem? hi)
    have e : shlM 1 x = some (1 * 2 ^ x.toNat) := by unfold shlM; rw [if_pos ⟨xb.1, by omega, by decide⟩]
    have tk : xs.take (i + 1) = xs.take i ++ [x] := by rw [List.take_add_one, hi] <;> rfl
    have p0 : (0 : Int) <= 1 * 2 ^ x.toNat := by rw [Int.one_mul]; exact Int.le_of_lt (Int.pow_pos (by decide))
    rw [zC, zC, e, W_some, W_some, W_some]
    refine ⟨or_nn h0 p0, fun t ht => ?_⟩
    rw [bt_or h0 p0, hb t ht, bt_shl xb.1 ht, tk, Bool.eq_iff_iff]
    simp
  · rw [W_some]
    rw [List.take_length] at hI
    exact hI
def rb (rows : List Int) (s t : Int) : Bool := bt (rows.getD s.toNat 0) t
theorem at_row {rows : List Int} {n s : Int} (hl : (rows.length : Int) = n) (h0 : 0 <= s) (h1 : s < n) : L2.atI rows s = some (rows.getD s.toNat 0) := by
  rw [atI_in h0, List.getD_eq_getElem?_getD, List.getElem?_eq_getElem (by omega)]
  rfl
def RwN (rows : List Int) : Prop := ∀ i : Nat, 0 <= rows.getD i 0
theorem bit_test {rows : List Int} {n s t : Int} (hl : (rows.length : Int) = n) (nn : RwN rows) (h0 : 0 <= s) (h1 : s < n) (t0 : 0 <= t) :
    ((((L2.atI rows s).bind fun a => shrM a t).bind fun a => some (Builtin.bitAnd a 1)).bind fun a => some (a != 0)) = some (rb rows s t) := by
  rw [at_row hl h0 h1]
  show (((shrM _ t).bind _).bind _) = _
  unfold shrM
  rw [if_pos t0]
  show some (Builtin.bitAnd (rows.getD s.toNat 0 / 2 ^ t.toNat) 1 != 0) = _
  rw [bt_one (shr_nn (nn _) _), bt_shr (nn _)]
  rfl
theorem two_test {rows : List Int} {n s t : Int} (hl : (rows.length : Int) = n) (nn : RwN rows) (h0 : 0 <= s) (h1 : s < n) (t0 : 0 <= t) (t1 : t < n) :
    (((((L2.atI rows s).bind fun a => shrM a t).bind fun a => ((L2.atI rows t).bind fun b => shrM b s).bind fun b => some (Builtin.bitAnd a b)).bind fun a => some (Builtin.bitAnd a 1)).bind fun a => some (a != 0)) = some (rb rows s t && rb rows t s) := by
  rw [at_row hl h0 h1, at_row hl t0 t1]
  show ((((shrM _ t).bind fun a => (shrM _ s).bind _).bind _).bind _) = _
  unfold shrM
  rw [if_pos t0, if_pos h0]
  show some (Builtin.bitAnd (Builtin.bitAnd (rows.getD s.toNat 0 / 2 ^ t.toNat) (rows.getD t.toNat 0 / 2 ^ s.toNat)) 1 != 0) = _
  have a1 := shr_nn (nn s.toNat) t.toNat
  have a2 := shr_nn (nn t.toNat) s.toNat
  rw [bt_one (and_nn a1 a2), bt_and a1 a2, bt_shr (nn _), bt_shr (nn _)]
  rfl
theorem rb_set {rows : List Int} {n x v s t : Int} (hl : (rows.length : Int) = n) (x0 : 0 <= x) (x1 : x < n) (s0 : 0 <= s) : rb (rows.set x.toNat v) s t = if s = x then bt v t else rb rows s t := by
  unfold rb
  rw [getD_set (by omega)]
  by_cases e : s = x
  · subst e; rw [if_pos rfl, if_pos rfl]
  · rw [if_neg (by omega), if_neg e]
theorem nn_set {rows : List Int} {n x v : Int} (hl : (rows.length : Int) = n) (x0 : 0 <= x) (x1 : x < n) (nn : RwN rows) (hv : 0 <= v) : RwN (rows.set x.toNat v) := fun i => by
  rw [getD_set (by omega)]
  split
  · exact hv
  · exact nn i
inductive Pth (xss : List (List Int)) (U : List Int) : Int -> Int -> Prop
  | one {s t : Int} : t ∈ nxt xss s -> t ∈ U -> Pth xss U s t
  | step {s u t : Int} : u ∈ nxt xss s -> u ∈ U -> Pth xss U u t -> Pth xss U s t
theorem Pth.trans {xss : List (List Int)} {U : List Int} {s t u : Int} (h : Pth xss U s t) (k : Pth xss U t u) : Pth xss U s u := by
  induction h with
  | one a b => exact .step a b k
  | step a b _ ih => exact .step a b (ih k)
theorem Pth.mem {xss : List (List Int)} {U : List Int} {s t : Int} (h : Pth xss U s t) : t ∈ U := by
  induction h with
  | one _ b => exact b
  | step _ _ _ ih => exact ih
theorem Pth.mono {xss : List (List Int)} {U V : List Int} {s t : Int} (h : Pth xss U s t) (k : ∀ x ∈ U, x ∈ V) : Pth xss V s t := by
  induction h with
  | one a b => exact .one a (k _ b)
  | step a b _ ih => exact .step a (k _ b) ih
structure RowsOk (xss : List (List Int)) (U rows : List Int) : Prop where
  nn : RwN rows
  edge : ∀ s ∈ U, ∀ t ∈ U, t ∈ nxt xss s -> rb rows s t = true
  sound : ∀ s ∈ U, ∀ t : Int, 0 <= t -> rb rows s t = true -> Pth xss U s t
  trans : ∀ s ∈ U, ∀ u ∈ U, ∀ t : Int, 0 <= t -> rb rows s u = true -> rb rows u t = true -> rb rows s t = true
end Ts
namespace Ts
open PySem L2
theorem compM_on {α β : Type} {c : α -> Option Bool} {f : α -> Option β} {p : α -> Bool} {g : α -> β} : ∀ {xs : List α}, (∀ x ∈ xs, c x = some (p x)) -> (∀ x ∈ xs, f x = some (g x)) -> compM c f xs = some ((xs.filter p).map g)
  | [], _, _ => rfl
  | x :: xs, hc, hf => by
    have ih := compM_on (xs := xs) (fun y hy => hc y (List.mem_cons_of_mem _ hy)) fun y hy => hf y (List.mem_cons_of_mem _ hy)
    show ((c x).bind fun b => if b = true then (f x).bind fun y => (compM c f xs).bind fun ys => some (y :: ys) else compM c f xs) = _
    rw [hc x List.mem_cons_self, bnd, hf x List.mem_cons_self, ih, List.filter_cons]
    cases p x with
    | true => rw [if_pos rfl, if_pos rfl]; rfl
    | false => rw [if_neg (by decide), if_neg (by decide)]
theorem vY {α β : Type} {c : α -> Option Bool} {f : α -> Option β} {p : α -> Bool} {g : α -> β} {xs : List α} (hl : xs.length < cap) (hc : ∀ x ∈ xs, c x = some (p x)) (hf : ∀ x ∈ xs, f x = some (g x)) : compL c f xs = some ((xs.filter p).map g) := by
  unfold compL
  rw [if_pos hl]
  exact compM_on hc hf
theorem row_of {C : Addr} {m : Mach C} {n s : Int} (g : Gr m n) (h0 : 0 <= s) (h1 : s < n) : nxt m.steps s ∈ m.steps := List.mem_of_getElem? (nxt_at g.len h0 h1)
theorem w_nextof {C : Addr} {m : Mach C} {n s : Int} (g : Gr m n) (h0 : 0 <= s) (h1 : s < n) : W (yF m s) fun xs => xs.length <= 60 /\ ∀ x, x ∈ xs ↔ x ∈ nxt m.steps s := by
  unfold yF
  have f := g.few
  obtain ⟨_, nd, rg⟩ := g.row _ (row_of g h0 h1)
  have l := xI (n := n.toNat) nd fun x hx => by have := rg x hx; omega
  rw [zC, W_at h0]
  refine ⟨_, nxt_at g.len h0 h1, ?_⟩
  unfold sortM
  rw [if_pos (by omega), W_some]
  refine ⟨by rw [(vP _).length_eq]; omega, fun x => (vP _).mem_iff⟩
def dl (xs : List Int) : List (Key × Bool) := xs.map fun x => ((Sum.inl x : Key), true)
theorem dl_get : ∀ (xs : List Int) (x : Int), (dget (dl xs) x).isSome = decide (x ∈ xs)
  | [], x => by simp [dl, dget, gK]
  | y :: xs, x => by
    have ih := dl_get xs x
    unfold dget gK dl at ih ⊢
    rw [List.map_cons, List.find?_cons]
    by_cases e : y = x
    · subst e; simp
    · rw [decide_eq_false (show ¬ ((Sum.inl y : Key), true).1 = (Sum.inl x : Key) from fun z => e (Sum.inl.inj z))]
      rw [ih, Bool.eq_iff_iff, decide_eq_true_eq, decide_eq_true_eq, List.mem_cons]
      exact ⟨.inr, fun h => h.resolve_left fun z => e z.symm⟩
theorem dl_put {xs : List Int} {x : Int} (h : x ∉ xs) : pK (dl xs) (Sum.inl x) true = dl (xs ++ [x]) := by
  unfold pK
  have : ((dl xs).any fun kv => decide (kv.1 = (Sum.inl x : Key))) = false := by
    rw [gK_find]
    have := dl_get xs x
    rw [decide_eq_false h] at this
    exact this
  rw [if_neg (by rw [this]; decide)]
  unfold dl
  rw [List.map_append]
  rfl
theorem dl_len (xs : List Int) : (dl xs).length = xs.length := List.length_map ..
theorem W_dput {kvs : List (Key × Bool)} {k : Int} {v : Bool} {Q : List (Key × Bool) -> Prop} : W (dput kvs k v) Q ↔ kvs.length < cap /\ Q (pK kvs (Sum.inl k) v) := by
  unfold dput
  split
  · rename_i h; rw [W_some]; exact ⟨fun q => ⟨h, q⟩, fun q => q.2⟩
  · rename_i h; rw [uQ]; exact ⟨False.elim, fun q => h q.1⟩
section
variable {S α β : Type}
theorem W_foldR {step : S -> α -> Option (Out S β)} {xs : List α} {s : S} {Q : Out S β -> Prop} (I : Nat -> S -> Prop) (h0 : I 0 s) (hs : ∀ i x s, xs[i]? = some x -> I i s -> W (step s x) fun o => (∃ s', o = .nx s' /\ I (i + 1) s') \/ ∃ b, o = .rt b /\ Q (.rt b)) (hd : ∀ s, I xs.length s -> Q (.nx s)) : W (foldX step xs s) Q := by
  have key : ∀ (ys : List α) (i : Nat) (s : S), (∀ j x, ys[j]? = some x -> xs[i + j]? = some x) -> i + ys.length = xs.length -> I i s -> W (foldX step ys s) Q := by
    intro ys
    induction ys with
    | nil => intro i s _ hl h; exact ⟨.nx s, rfl, hd s ((show i = xs.length from hl) ▸ h)⟩
    | cons y ys ih =>
      intro i s hy hl h
      rw [foldX_cons, zC]
      refine (hs i y s (hy 0 y rfl) h).imp ?_
      rintro o (⟨s', rfl, h'⟩ | ⟨b, rfl, h'⟩)
      · refine ih (i + 1) s' (fun j x hx => ?_) (by rw [List.length_cons] at hl; omega) h'
        have := hy (j + 1) x (by simpa using hx)
        rw [show i + 1 + j = i + (j + 1) by omega]
        exact this
      · exact ⟨.rt b, rfl, h'⟩
  exact key xs 0 s (fun j x h => by rw [Nat.zero_add]; exact h) (Nat.zero_add _) h0
end
end Ts
namespace Ts
open PySem L2
theorem vH {α : Type} {xs : List α} {i : Nat} {x : α} (h : xs[i]? = some x) : xs.take (i + 1) = xs.take i ++ [x] := by rw [List.take_add_one, h] <;> rfl
theorem wE {xs : List Int} {i : Nat} {x s : Int} (h : xs[i]? = some x) : s ∈ xs.take (i + 1) ↔ s ∈ xs.take i \/ s = x := by rw [vH h, List.mem_append, List.mem_singleton]
theorem nxt_rg {C : Addr} {m : Mach C} {n s : Int} (g : Gr m n) (h0 : 0 <= s) (h1 : s < n) : ∀ x ∈ nxt m.steps s, 0 <= x /\ x < n := (g.row _ (row_of g h0 h1)).2.2
theorem w_onward {C : Addr} {m : Mach C} {n : Int} (g : Gr m n) {U : List Int} (hU : ∀ x ∈ U, 0 <= x /\ x < n) : W (xB m U) fun rows => (rows.length : Int) = n /\ RowsOk m.steps U rows := by
  unfold xB
  have few := g.few
  have pos := g.pos
  rw [zC]
  refine (w_bits hU few).imp fun inside ⟨i0, ib⟩ => ?_
  rw [zC, zC, zC, w_manyM g, W_some, wP]
  refine ⟨⟨by omega, by omega⟩, ?_⟩
  have rl := wF (n := n) (by omega)
  rw [W_map (fun _ => (0 : Int))]
  refine ⟨yL (by omega), ?_⟩
  rw [zC, zC, W_some]
  refine xA (fun i rows => (rows.length : Int) = n /\ RwN rows /\ ∀ s ∈ U.take i, ∀ t : Int, 0 <= t -> rb rows s t = decide (t ∈ nxt m.steps s /\ t ∈ U)) ⟨by rw [List.length_map]; exact rl, fun i => ?_, fun s hs => by simp at hs⟩ (fun i x rows hi hI => ?_) fun rows hI => ?_
  · rw [List.getD_eq_getElem?_getD, List.getElem?_map]
    cases (rng n)[i]? <;> exact Int.le_refl 0
  · obtain ⟨hl, nn, hb⟩ := hI
    have xb := hU x (List.mem_of_getElem? hi)
    rw [zC, zC, zC, zC, zC]
    refine (w_nextof g xb.1 xb.2).imp fun ns ⟨_, hns⟩ => ?_
    rw [W_some]
    refine (w_bits (xs := ns) (fun y hy => nxt_rg g xb.1 xb.2 y ((hns y).mp hy)) few).imp fun b ⟨b0, bb⟩ => ?_
    rw [W_some, W_set xb.1 (by omega), W_some]
    refine ⟨by rw [List.length_set]; exact hl, nn_set hl xb.1 xb.2 nn (and_nn b0 i0), fun s hs t ht => ?_⟩
    rw [wE hi] at hs
    have s0 : 0 <= s := hs.elim (fun h => (hU s (List.mem_of_mem_take h)).1) fun h => h ▸ xb.1
    rw [rb_set hl xb.1 xb.2 s0]
    by_cases e : s = x
    · subst e
      rw [if_pos rfl, bt_and b0 i0, bb t ht, ib t ht, Bool.eq_iff_iff]
      simp [hns]
    · rw [if_neg e]
      exact hb s (hs.resolve_right e) t ht
  · obtain ⟨hl, nn, hb⟩ := hI
    rw [List.take_length] at hb
    rw [zC, zC, W_some]
    refine xA (fun i rows => (rows.length : Int) = n /\ RwN rows /\ (∀ s ∈ U, ∀ t ∈ U, t ∈ nxt m.steps s -> rb rows s t = true) /\ (∀ s ∈ U, ∀ t : Int, 0 <= t -> rb rows s t = true -> Pth m.steps U s t) /\ ∀ u ∈ U.take i, ∀ s ∈ U, ∀ t : Int, 0 <= t -> rb rows s u = true -> rb rows u t = true -> rb rows s t = true)
      ⟨hl, nn, fun s hs t ht h => by rw [hb s hs t (hU t ht).1]; exact decide_eq_true ⟨h, ht⟩, fun s hs t ht h => by
        rw [hb s hs t ht] at h
        have := of_decide_eq_true h
        exact .one this.1 this.2, fun u hu => by simp at hu⟩ (fun i u R0 hi hI => ?_) fun rows hI => ?_
    · obtain ⟨hl0, nn0, ed0, so0, tr0⟩ := hI
      have um := List.mem_of_getElem? hi
      have ub := hU u um
      rw [zC, zC, W_some]
      refine xA (fun j rows => (rows.length : Int) = n /\ RwN rows /\ ∀ s ∈ U, ∀ t : Int, 0 <= t -> rb rows s t = (rb R0 s t || (decide (s ∈ U.take j) && (rb R0 s u && rb R0 u t)))) ⟨hl0, nn0, fun s _ t _ => by simp⟩ (fun j x rows hj hJ => ?_) fun rows hJ => ?_
      · obtain ⟨hl1, nn1, hb1⟩ := hJ
        have xm := List.mem_of_getElem? hj
        have xb := hU x xm
        have ex : rb rows x u = rb R0 x u := by
          rw [hb1 x xm u ub.1]
          cases rb R0 x u <;> simp
        have eu : ∀ t : Int, 0 <= t -> rb rows u t = rb R0 u t := fun t ht => by
          rw [hb1 u um t ht]
          cases rb R0 u t <;> simp
        rw [bit_test hl1 nn1 xb.1 xb.2 ub.1, zC, zC, W_some, ex]
        by_cases c : rb R0 x u = true
        · rw [c, if_pos rfl, zC, zC, at_row hl1 ub.1 ub.2, W_some]
          unfold augM
          rw [if_pos xb.1, at_row hl1 xb.1 xb.2]
          show W (setAt rows x _) _
          rw [W_set xb.1 (by omega), W_some, W_some]
          refine ⟨by rw [List.length_set]; exact hl1, nn_set hl1 xb.1 xb.2 nn1 (or_nn (nn1 _) (nn1 _)), fun s hs t ht => ?_⟩
          rw [rb_set hl1 xb.1 xb.2 (hU s hs).1]
          by_cases e : s = x
          · subst e
            rw [if_pos rfl, bt_or (nn1 _) (nn1 _)]
            show (rb rows s t || rb rows u t) = _
            rw [hb1 s hs t ht, eu t ht, c, decide_eq_true ((wE hj).mpr (.inr rfl))]
            cases rb R0 s t <;> cases rb R0 u t <;> simp
          · rw [if_neg e, hb1 s hs t ht]
            have : decide (s ∈ U.take (j + 1)) = decide (s ∈ U.take j) := by
              rw [Bool.eq_iff_iff, decide_eq_true_iff, decide_eq_true_iff, wE hj]
              exact ⟨fun h => h.resolve_right e, .inl⟩
            rw [this]
        · have c : rb R0 x u = false := by simpa using c
          rw [c, if_neg (by decide), W_some, W_some]
          refine ⟨hl1, nn1, fun s hs t ht => ?_⟩
          rw [hb1 s hs t ht]
          by_cases e : s = x
          · subst e
            rw [c]
            simp
          · have : decide (s ∈ U.take (j + 1)) = decide (s ∈ U.take j) := by
              rw [Bool.eq_iff_iff, decide_eq_true_iff, decide_eq_true_iff, wE hj]
              exact ⟨fun h => h.resolve_right e, .inl⟩
            rw [this]
      · obtain ⟨hl1, nn1, hb1⟩ := hJ
        rw [List.take_length] at hb1
        have nw : ∀ s ∈ U, ∀ t : Int, 0 <= t -> (rb rows s t = true ↔ rb R0 s t = true \/ (rb R0 s u = true /\ rb R0 u t = true)) := fun s hs t ht => by
          rw [hb1 s hs t ht, decide_eq_true hs]
          simp
        rw [W_some]
        refine ⟨hl1, nn1, fun s hs t ht h => (nw s hs t (hU t ht).1).mpr (.inl (ed0 s hs t ht h)), fun s hs t ht h => ?_, fun v hv s hs t ht h1 h2 => ?_⟩
        · rcases (nw s hs t ht).mp h with h | ⟨h, k⟩
          · exact so0 s hs t ht h
          · exact (so0 s hs u ub.1 h).trans (so0 u um t ht k)
        · rw [wE hi] at hv
          refine (nw s hs t ht).mpr ?_
          rcases hv with hv | rfl
          · have vU := List.mem_of_mem_take hv
            have v0 := (hU v vU).1
            have T := tr0 v hv
            rcases (nw s hs v v0).mp h1 with a | ⟨a, b⟩ <;> rcases (nw v vU t ht).mp h2 with c | ⟨c, d⟩
            · exact .inl (T s hs t ht a c)
            · exact .inr ⟨T s hs u ub.1 a c, d⟩
            · exact .inr ⟨a, T u um t ht b c⟩
            · exact .inr ⟨a, d⟩
          · have a : rb R0 s v = true := ((nw s hs v ub.1).mp h1).elim id And.left
            have b : rb R0 v t = true := ((nw v um t ht).mp h2).elim id And.right
            exact .inr ⟨a, b⟩
    · obtain ⟨hl1, nn1, ed, so, tr⟩ := hI
      rw [List.take_length] at tr
      rw [W_some]
      exact ⟨hl1, nn1, ed, so, fun s hs u hu t ht => tr u hu s hs t ht⟩
def ring (rows U : List Int) (s : Int) : List Int := U.filter fun t => rb rows s t && rb rows t s
theorem mem_ring {rows U : List Int} {s t : Int} : t ∈ ring rows U s ↔ t ∈ U /\ rb rows s t = true /\ rb rows t s = true := by
  unfold ring
  rw [List.mem_filter, Bool.and_eq_true]
structure RingOk (xss : List (List Int)) (U G : List Int) : Prop where
  sub : ∀ s ∈ G, s ∈ U
  nd : G.Nodup
  go : ∀ s ∈ G, ∀ t ∈ G, Pth xss G s t
theorem RowsOk.full {xss : List (List Int)} {U rows : List Int} (R : RowsOk xss U rows) (h0 : ∀ x ∈ U, 0 <= x) {s t : Int} (h : Pth xss U s t) : s ∈ U -> rb rows s t = true := by
  induction h with
  | one a b => exact fun hs => R.edge _ hs _ b a
  | step a b p ih => exact fun hs => R.trans _ hs _ b _ (h0 _ p.mem) (R.edge _ hs _ b a) (ih b)
theorem ring_ok {xss : List (List Int)} {U rows : List Int} (R : RowsOk xss U rows) (h0 : ∀ x ∈ U, 0 <= x) (nd : U.Nodup) {o : Int} (ho : o ∈ U) : RingOk xss U (ring rows U o) := by
  have key : ∀ {s t : Int}, Pth xss U s t -> s ∈ ring rows U o -> t ∈ ring rows U o -> Pth xss (ring rows U o) s t := by
    intro s t h
    induction h with
    | one a b => exact fun _ ht => .one a ht
    | @step s u t a b p ih =>
      intro hs ht
      obtain ⟨sU, s1, s2⟩ := mem_ring.mp hs
      obtain ⟨tU, t1, t2⟩ := mem_ring.mp ht
      have u1 : rb rows o u = true := R.trans o ho s sU u (h0 u b) s1 (R.edge s sU u b a)
      have u2 : rb rows u o = true := R.trans u b t tU o (h0 o ho) (R.full h0 p b) t2
      have hu := mem_ring.mpr ⟨b, u1, u2⟩
      exact .step a hu (ih hu ht)
  refine ⟨fun s hs => (mem_ring.mp hs).1, nd.filter _, fun s hs t ht => ?_⟩
  obtain ⟨sU, s1, s2⟩ := mem_ring.mp hs
  obtain ⟨tU, t1, t2⟩ := mem_ring.mp ht
  exact key (R.sound s sU t (h0 t tU) (R.trans s sU o ho t (h0 t tU) s2 t1)) hs ht
structure RingsOk (rows U : List Int) (told : List (List Int)) : Prop where
  are : ∀ G ∈ told, ∃ s ∈ U, rb rows s s = true /\ G = ring rows U s
  nd : told.flatten.Nodup
  all : ∀ s ∈ U, rb rows s s = true -> s ∈ told.flatten
theorem w_usort {xs : List Int} {n : Int} (h : ∀ x ∈ xs, 0 <= x /\ x < n) (hl : xs.length < 64) : usortM xs = some (usort xs) /\ Rise n (usort xs) := by
  unfold usortM
  rw [if_pos hl]
  exact ⟨rfl, usort_lt xs, fun x hx => h x (mem_usort.mp hx)⟩
theorem w_rings {C : Addr} {m : Mach C} {n : Int} (g : Gr m n) {xs : List Int} (hx : ∀ x ∈ xs, 0 <= x /\ x < n) (hl : xs.length < 64) : W (uW m xs) fun told => ∃ rows, RowsOk m.steps (usort xs) rows /\ RingsOk rows (usort xs) told := by
  obtain ⟨e, hR⟩ := w_usort hx hl
  have few := g.few
  have pos := g.pos
  unfold uW
  rw [e, zC, W_some, zC]
  generalize usort xs = U at hR ⊢
  have h0 : ∀ x ∈ U, 0 <= x := fun x hx => (hR.2 x hx).1
  have Ul : U.length <= n.toNat := xI hR.nodup fun x hx => by have := hR.2 x hx; omega
  refine (w_onward g hR.2).imp fun rows ⟨rl, R⟩ => ?_
  rw [zC, W_some, zC, W_some, zC, zC, W_some]
  refine xA (fun i z => ∃ told : List (List Int), z = (told, dl told.flatten) /\ (∀ G ∈ told, ∃ s ∈ U, rb rows s s = true /\ G = ring rows U s) /\ told.flatten.Nodup /\ (∀ s ∈ U.take i, rb rows s s = true -> s ∈ told.flatten) /\ told.length <= i) ⟨[], rfl, fun G hG => (by cases hG), by simp, fun s hs => (by simp at hs), Nat.le_refl _⟩ (fun i x z hi hI => ?_) fun z hI => ?_
  · obtain ⟨told, rfl, are, nd, all, tl⟩ := hI
    have xm := List.mem_of_getElem? hi
    have xb := hR.2 x xm
    have sub : ∀ t ∈ told.flatten, t ∈ U := fun t ht => by
      obtain ⟨G, hG, tG⟩ := List.mem_flatten.mp ht
      obtain ⟨s, _, _, rfl⟩ := are G hG
      exact (mem_ring.mp tG).1
    have il : i < U.length := (List.getElem?_eq_some_iff.mp hi).1
    rw [zC, zC]
    show W (if (!(dget (dl told.flatten) x).isSome) = true then _ else _) _
    rw [dl_get]
    by_cases xf : x ∈ told.flatten
    · rw [decide_eq_true xf, Bool.not_true, if_neg (by decide), W_some, if_neg (by decide), W_some, W_some]
      exact ⟨told, rfl, are, nd, fun s hs h => ((wE hi).mp hs).elim (fun q => all s q h) fun q => q ▸ xf, by omega⟩
    · rw [decide_eq_false xf, Bool.not_false, if_pos rfl, bit_test rl R.nn xb.1 xb.2 xb.1, W_some]
      by_cases c : rb rows x x = true
      · have dis : ∀ t ∈ ring rows U x, t ∉ told.flatten := fun t ht tf => by
          obtain ⟨G, hG, tG⟩ := List.mem_flatten.mp tf
          obtain ⟨s, sU, _, rfl⟩ := are G hG
          obtain ⟨tU, t1, t2⟩ := mem_ring.mp ht
          obtain ⟨_, t3, t4⟩ := mem_ring.mp tG
          exact xf (List.mem_flatten.mpr ⟨_, hG, mem_ring.mpr ⟨xm, R.trans s sU t tU x xb.1 t3 t2, R.trans x xm t tU s (h0 s sU) t1 t4⟩⟩)
        have rn : (ring rows U x).Nodup := hR.nodup.filter _
        have nd2 : (told.flatten ++ ring rows U x).Nodup := by
          rw [List.nodup_append]
          exact ⟨nd, rn, fun a ha b hb e => dis b hb (e ▸ ha)⟩
        have ln : (told.flatten ++ ring rows U x).length <= n.toNat := xI nd2 fun y hy => by
          have : y ∈ U := (List.mem_append.mp hy).elim (sub y) fun q => (mem_ring.mp q).1
          have := hR.2 y this
          omega
        rw [c, if_pos rfl, zC, zC, W_some, vY (p := fun t => rb rows x t && rb rows t x) (g := fun t => t) (yL (by omega)) (fun t ht => two_test rl R.nn xb.1 xb.2 (hR.2 t ht).1 (hR.2 t ht).2) (fun t _ => rfl), W_some, List.map_id']
        show W ((push told (ring rows U x)).bind _) _
        rw [zC, wW]
        refine ⟨yL (by omega), ?_⟩
        rw [zC, zC, W_some]
        refine xA (fun k d => d = dl (told.flatten ++ (ring rows U x).take k)) (by rw [List.take_zero, List.append_nil]) (fun k y d hk hd => ?_) fun d hd => ?_
        · subst hd
          have hk : (ring rows U x)[k]? = some y := hk
          have ym := List.mem_of_getElem? hk
          have kl := (List.getElem?_eq_some_iff.mp hk).1
          have yn : y ∉ told.flatten ++ (ring rows U x).take k := fun q => by
            rcases List.mem_append.mp q with q | q
            · exact dis y ym q
            · obtain ⟨j, hj, e⟩ := List.getElem_of_mem q
              rw [List.getElem_take] at e
              rw [List.length_take] at hj
              have e2 := (List.getElem?_eq_some_iff.mp hk).2
              have := (List.nodup_iff_pairwise_ne.mp rn)
              have ne := List.pairwise_iff_getElem.mp this j k (by omega) kl (by omega)
              exact ne (e.trans e2.symm)
          rw [zC, W_dput, dl_put yn, dl_len]
          refine ⟨yL ?_, ?_⟩
          · rw [List.length_append] at ln ⊢
            rw [List.length_take]
            omega
          · rw [W_some, vH hk, List.append_assoc]
        · subst hd
          rw [show (ring rows U x).take (U.filter fun t => rb rows x t && rb rows t x).length = ring rows U x from List.take_length, W_some, W_some]
          refine ⟨told ++ [ring rows U x], by rw [List.flatten_append, List.flatten_singleton], fun G hG => ?_, by rw [List.flatten_append, List.flatten_singleton]; exact nd2, fun s hs h => ?_, by rw [List.length_append]; exact Nat.succ_le_succ tl⟩
          · rcases List.mem_append.mp hG with q | q
            · exact are G q
            · exact ⟨x, xm, c, List.mem_singleton.mp q⟩
          · rw [List.flatten_append, List.flatten_singleton, List.mem_append]
            exact ((wE hi).mp hs).elim (fun q => .inl (all s q h)) fun q => .inr (by rw [q]; exact mem_ring.mpr ⟨xm, c, c⟩)
      · have c' : rb rows x x = false := by simpa using c
        rw [c', if_neg (by decide), W_some, W_some]
        exact ⟨told, rfl, are, nd, fun s hs h => ((wE hi).mp hs).elim (fun q => all s q h) fun q => absurd (q ▸ h) c, by omega⟩
  · obtain ⟨told, rfl, are, nd, all, _⟩ := hI
    rw [List.take_length] at all
    rw [W_some]
    exact ⟨rows, R, are, nd, all⟩
end Ts
namespace Ts
open PySem L2
def FairOk (n : Int) (fair : List (List Int)) : Prop := fair.length <= 100 /\ ∀ F ∈ fair, SetOk n F
def metAll (fair : List (List Int)) (G : List Int) : Bool := fair.all fun F => G.any fun x => decide (x ∈ F)
theorem set_len {n : Int} {xs : List Int} (h : SetOk n xs) (h60 : n <= 60) (h0 : 0 <= n) : xs.length <= 60 := by
  have := xI (n := n.toNat) h.1 fun x hx => by have := h.2.2 x hx; omega
  omega
theorem w_fairat {C : Addr} {m : Mach C} {n : Int} (g : Gr m n) (hf : FairOk n m.fair) {i : Nat} {F : List Int} (hi : m.fair[i]? = some F) : W (yH m (i : Int)) fun xs => xs.length <= 60 /\ ∀ x, x ∈ xs ↔ x ∈ F := by
  unfold yH
  have few := g.few
  have pos := g.pos
  have l := set_len (hf.2 F (List.mem_of_getElem? hi)) few (by omega)
  rw [zC, W_at (by omega)]
  refine ⟨F, by rw [Int.toNat_natCast]; exact hi, ?_⟩
  unfold sortM
  rw [if_pos (by omega), W_some]
  exact ⟨by rw [(vP _).length_eq]; exact l, fun x => (vP _).mem_iff⟩
theorem w_shared {xs ys : List Int} (h1 : xs.length < 64) (h2 : ys.length < 4000) : wX xs ys = some (usort (xs.filter fun z => decide (z ∈ ys))) := by
  unfold wX uandM
  rw [if_pos ⟨h1, h2⟩]
theorem usort_nil {xs : List Int} : (usort xs).length = 0 ↔ xs = [] := by
  rw [List.length_eq_zero_iff]
  constructor
  · intro h
    cases xs with
    | nil => rfl
    | cons x xs =>
      have := (mem_usort (x := x) (ns := x :: xs)).mpr List.mem_cons_self
      rw [h] at this
      cases this
  · intro h; subst h; rfl
theorem w_missed {C : Addr} {m : Mach C} {n : Int} (g : Gr m n) (hf : FairOk n m.fair) {G : List Int} (hG : G.length < 64) : W (xX m G) fun o => o.isNone = metAll m.fair G := by
  unfold xX
  have hl := hf.1
  rw [zC, zC, wP]
  refine ⟨⟨by omega, by omega⟩, W_foldR (fun i _ => ∀ F ∈ m.fair.take i, (G.any fun x => decide (x ∈ F)) = true) (fun F hF => by simp at hF) (fun i x s hi hI => ?_) fun s hI => ?_⟩
  · obtain ⟨rfl, hx⟩ := rng_at hi
    have il : i < m.fair.length := by omega
    have hF : m.fair[i]? = some m.fair[i] := List.getElem?_eq_getElem il
    rw [zC, zC, zC, zC, zC, zC]
    refine (w_fairat g hf hF).imp fun ys ⟨yl, ym⟩ => ?_
    rw [W_some, W_some]
    show W (wX G ys) _
    rw [w_shared hG (by omega), W_some, W_some, W_some]
    by_cases e : G.filter (fun z => decide (z ∈ ys)) = []
    · rw [decide_eq_true (show ((usort (G.filter fun z => decide (z ∈ ys))).length : Int) = 0 by have := usort_nil.mpr e; omega), if_pos rfl, zC, W_some, W_some]
      refine .inr ⟨_, rfl, ?_⟩
      show W (some (some (i : Int))) _
      rw [W_some]
      symm
      show metAll m.fair G = false
      have : (G.any fun x => decide (x ∈ m.fair[i])) = false := by
        rw [List.any_eq_false]
        intro x hx q
        have q := of_decide_eq_true q
        have : x ∈ G.filter (fun z => decide (z ∈ ys)) := List.mem_filter.mpr ⟨hx, decide_eq_true ((ym x).mpr q)⟩
        rw [e] at this
        cases this
      unfold metAll
      rw [List.all_eq_false]
      exact ⟨_, List.getElem_mem il, by rw [this]; decide⟩
    · rw [decide_eq_false (fun z => e (usort_nil.mp (by omega))), if_neg (by decide), W_some]
      refine .inl ⟨(), rfl, fun F hF' => ?_⟩
      rw [vH hF, List.mem_append, List.mem_singleton] at hF'
      rcases hF' with q | q
      · exact hI F q
      · subst q
        obtain ⟨x, hx⟩ := List.exists_mem_of_ne_nil _ e
        rw [List.mem_filter] at hx
        exact List.any_eq_true.mpr ⟨x, hx.1, decide_eq_true ((ym x).mp (of_decide_eq_true hx.2))⟩
  · have e : (rng (m.fair.length : Int)).length = m.fair.length := by have := wF (n := (m.fair.length : Int)) (by omega); omega
    rw [e, List.take_length] at hI
    rw [W_els, W_some]
    symm
    show metAll m.fair G = true
    exact List.all_eq_true.mpr hI
theorem ring_len {rows U : List Int} {s : Int} {k : Nat} (h : U.length <= k) : (ring rows U s).length <= k := Nat.le_trans (List.length_filter_le ..) h
structure GoalOk (xss : List (List Int)) (fair : List (List Int)) (U goal : List Int) : Prop where
  nd : goal.Nodup
  sub : ∀ s ∈ goal, s ∈ U
  of : ∀ s ∈ goal, ∃ G : List Int, RingOk xss U G /\ s ∈ G /\ metAll fair G = true /\ ∀ t ∈ G, t ∈ goal
  all : ∀ s ∈ U, ∀ G : List Int, (∀ t, t ∈ G ↔ t ∈ U /\ Pth xss U s t /\ Pth xss U t s) -> Pth xss U s s -> metAll fair G = true -> s ∈ goal
theorem metAll_congr {fair : List (List Int)} {G G' : List Int} (h : ∀ t, t ∈ G ↔ t ∈ G') : metAll fair G = metAll fair G' := by
  unfold metAll
  congr 1
  funext F
  rw [Bool.eq_iff_iff, List.any_eq_true, List.any_eq_true]
  exact ⟨fun ⟨x, a, b⟩ => ⟨x, (h x).mp a, b⟩, fun ⟨x, a, b⟩ => ⟨x, (h x).mpr a, b⟩⟩
theorem w_goal {C : Addr} {m : Mach C} {n : Int} (g : Gr m n) (hf : FairOk n m.fair) {xs : List Int} (hx : ∀ x ∈ xs, 0 <= x /\ x < n) (hl : xs.length < 64) :
    W ((xN m xs).bind fun a => wY a) (GoalOk m.steps m.fair (usort xs)) := by
  have few := g.few
  have pos := g.pos
  have hR := (w_usort hx hl).2
  have h0 : ∀ x ∈ usort xs, 0 <= x := fun x hx => (hR.2 x hx).1
  have Ul : (usort xs).length <= n.toNat := xI hR.nodup fun x hx => by have := hR.2 x hx; omega
  rw [zC]
  unfold xN
  rw [zC]
  refine (w_rings g hx hl).imp fun told ⟨rows, R, T⟩ => ?_
  have tl : told.length <= 60 /\ told.flatten.length <= 60 := by
    have f : told.flatten.length <= n.toNat := xI T.nd fun y hy => by
      obtain ⟨G, hG, yG⟩ := List.mem_flatten.mp hy
      obtain ⟨s, _, _, rfl⟩ := T.are G hG
      have := hR.2 y (mem_ring.mp yG).1
      omega
    refine ⟨?_, by omega⟩
    have ne : ∀ G ∈ told, 1 <= G.length := fun G hG => by
      obtain ⟨s, sU, c, rfl⟩ := T.are G hG
      exact List.length_pos_of_mem (mem_ring.mpr ⟨sU, c, c⟩)
    have : ∀ l : List (List Int), (∀ G ∈ l, 1 <= G.length) -> l.length <= l.flatten.length := fun l => by
      induction l with
      | nil => intro _; exact Nat.zero_le _
      | cons G l ih =>
        intro h
        rw [List.flatten_cons, List.length_append, List.length_cons]
        have a := ih fun G' hG' => h G' (List.mem_cons_of_mem _ hG')
        have b := h G List.mem_cons_self
        omega
    have := this told ne
    omega
  have gl : ∀ G ∈ told, G.length < 64 := fun G hG => by
    obtain ⟨s, _, _, rfl⟩ := T.are G hG
    have := ring_len (rows := rows) (s := s) Ul
    omega
  rw [vY (p := metAll m.fair) (g := fun G => G) (yL (by omega)) (fun G hG => by
    obtain ⟨o, e, q⟩ := w_missed g hf (gl G hG)
    rw [e]
    exact congrArg some q) (fun _ _ => rfl), W_some, List.map_id']
  have fl : ∀ l : List (List Int), (l.filter (metAll m.fair)).flatten.Sublist l.flatten := fun l => by
    induction l with
    | nil => exact List.Sublist.refl _
    | cons G l ih =>
      rw [List.filter_cons]
      split
      · rw [List.flatten_cons, List.flatten_cons]; exact (List.Sublist.refl _).append ih
      · rw [List.flatten_cons]; exact ih.trans (List.sublist_append_right ..)
  have js : W (wY (told.filter (metAll m.fair))) (· = (told.filter (metAll m.fair)).flatten) := by
    unfold wY
    rw [zC, W_some, zC, zC, W_some]
    refine xA (fun i s => s = ((told.filter (metAll m.fair)).take i).flatten) (by rw [List.take_zero]; rfl) (fun i G s hi hI => ?_) fun s hI => ?_
    · subst hI
      unfold extM
      have e : ((told.filter (metAll m.fair)).take i).flatten ++ G = ((told.filter (metAll m.fair)).take (i + 1)).flatten := by rw [vH hi, List.flatten_append, List.flatten_singleton]
      have l : (((told.filter (metAll m.fair)).take i).flatten ++ G).length <= 60 := by
        rw [e]
        have a : ((told.filter (metAll m.fair)).take (i + 1)).flatten.Sublist (told.filter (metAll m.fair)).flatten := by
          have e2 : (told.filter (metAll m.fair)).flatten = ((told.filter (metAll m.fair)).take (i + 1)).flatten ++ ((told.filter (metAll m.fair)).drop (i + 1)).flatten := by rw [<- List.flatten_append, List.take_append_drop]
          rw [e2]
          exact List.sublist_append_left ..
        have := (a.trans (fl told)).length_le
        omega
      rw [List.length_append] at l
      rw [if_pos (yL (by omega)), zC, W_some, W_some, e]
    · subst hI
      rw [List.take_length, W_some]
  refine js.imp fun goal e => ?_
  subst e
  refine ⟨T.nd.sublist (fl told), fun s hs => ?_, fun s hs => ?_, fun s sU G hG p q => ?_⟩
  · obtain ⟨G, hG, sG⟩ := List.mem_flatten.mp hs
    obtain ⟨o, _, _, rfl⟩ := T.are G (List.mem_filter.mp hG).1
    exact (mem_ring.mp sG).1
  · obtain ⟨G, hG, sG⟩ := List.mem_flatten.mp hs
    obtain ⟨o, oU, _, rfl⟩ := T.are G (List.mem_filter.mp hG).1
    exact ⟨_, ring_ok R h0 hR.nodup oU, sG, (List.mem_filter.mp hG).2, fun t ht => List.mem_flatten.mpr ⟨_, hG, ht⟩⟩
  · obtain ⟨G', hG', sG⟩ := List.mem_flatten.mp (T.all s sU (R.full h0 p sU))
    obtain ⟨o, oU, oo, rfl⟩ := T.are G' hG'
    obtain ⟨_, s1, s2⟩ := mem_ring.mp sG
    refine List.mem_flatten.mpr ⟨_, List.mem_filter.mpr ⟨hG', ?_⟩, sG⟩
    rw [<- q]
    refine metAll_congr fun t => ?_
    rw [hG t, mem_ring]
    constructor
    · rintro ⟨tU, t1, t2⟩
      exact ⟨tU, R.sound s sU t (h0 t tU) (R.trans s sU o oU t (h0 t tU) s2 t1), R.sound t tU s (h0 s sU) (R.trans t tU o oU s (h0 s sU) t2 s1)⟩
    · rintro ⟨tU, t1, t2⟩
      exact ⟨tU, R.trans o oU s sU t (h0 t tU) s1 (R.full h0 t1 sU), R.trans t tU s sU o (h0 o oU) (R.full h0 t2 tU) s2⟩
theorem w_comes {C : Addr} {m : Mach C} {n : Int} (g : Gr m n) {through goal : List Int} (ht : ∀ x ∈ through, 0 <= x /\ x < n) (hg : goal.Nodup /\ ∀ x ∈ goal, 0 <= x /\ x < n) : W (wC m through goal) fun R => ∃ d, DistOk m.steps through goal n d /\ R = pick n fun s => (dg d s).isSome := by
  unfold wC
  have few := g.few
  have pos := g.pos
  rw [zC]
  refine (w_distances g ht hg).imp fun d D => ?_
  have rl := wF (n := n) (by omega)
  rw [zC, W_some, enumL_eq D.len]
  have e : compL (fun x : Int × Option Int => some x.2.isSome) (fun x : Int × Option Int => some x.1) ((rng n).map fun s => (s, dg d s)) = some (pick n fun s => (dg d s).isSome) := by
    rw [vY (p := fun x : Int × Option Int => x.2.isSome) (g := fun x : Int × Option Int => x.1) (yL (by rw [List.length_map]; omega)) (fun _ _ => rfl) (fun _ _ => rfl)]
    congr 1
    rw [List.filter_map, List.map_map]
    exact List.map_id' _
  rw [e, W_some]
  exact ⟨d, D, rfl⟩
structure CoreOk (xss fair : List (List Int)) (n : Int) (U R : List Int) : Prop where
  rise : Rise n R
  sub : ∀ s ∈ R, s ∈ U
  go : ∀ s ∈ R, ∃ t ∈ nxt xss s, t ∈ R
  come : ∀ s ∈ R, ∀ F ∈ fair, ∃ x ∈ F, x = s \/ Pth xss R s x
end Ts
namespace Ts
open PySem L2
theorem w_small (c : Int) : W (xL c) fun n => 1 <= n /\ n <= 12 := by
  unfold xL
  simp only [zC, uJ, W_div, W_some, W_ite]
  refine ⟨by decide, fun _ => ⟨⟨by decide, by decide⟩, by decide, by omega⟩, fun _ => ⟨⟨by decide, by decide⟩, by decide, by omega⟩⟩
theorem w_fairby (c : Int) {n : Int} (h0 : 1 <= n) (h1 : n <= 60) : W (xY c n) (FairOk n) := by
  unfold xY
  rw [zC, W_some, zC, W_div]
  refine ⟨⟨by decide, by decide⟩, ?_⟩
  rw [zC, zC, zC, uJ]
  refine ⟨by decide, ?_⟩
  have c4 : 0 <= c % 4 /\ c % 4 < 4 := by omega
  rw [wP]
  refine ⟨⟨by omega, by omega⟩, ?_⟩
  have rl := wF (n := c % 4) c4.1
  refine xA (fun i z => z.2.length <= i /\ ∀ F ∈ z.2, SetOk n F) ⟨Nat.le_refl _, fun F hF => by cases hF⟩ (fun i x z hi hI => ?_) fun z hI => ?_
  · obtain ⟨rfl, hx⟩ := rng_at hi
    obtain ⟨rest, fair⟩ := z
    obtain ⟨fl, fo⟩ := hI
    dsimp only at fl fo
    rw [zC, W_some, zC, zC, zC]
    refine (w_mix c (k := 400 + (i : Int)) (by omega) (by omega)).imp fun r hr => ?_
    rw [uJ]
    refine ⟨by decide, ?_⟩
    have r5 : 0 <= r % 5 /\ r % 5 < 5 := by omega
    rw [W_at r5.1]
    refine ⟨_, List.getElem?_eq_getElem (by simp; omega), ?_⟩
    generalize ([(1 : Int), 2, 2, 3, 6])[(r % 5).toNat]'_ = way
    rw [zC, zC, wP]
    refine ⟨⟨by omega, by omega⟩, ?_⟩
    have rn := wF (n := n) (by omega)
    refine xA (fun j z => Rise j z.1 /\ z.1.length <= j) ⟨rise_nil, Nat.le_refl _⟩ (fun j y z hj hJ => ?_) fun z hJ => ?_
    · obtain ⟨rfl, hy⟩ := rng_at hj
      simp only [zC, W_div, W_pow, uJ, W_mul, W_some, W_ite, wW]
      refine ⟨.inl ⟨by decide, by decide⟩, (w_mix c (by omega) (by omega)).imp fun r2 _ => ⟨by decide, ⟨by decide, by decide, by decide⟩, fun _ => ⟨by decide, ?_⟩, fun _ => ?_⟩⟩
      all_goals exact ⟨fun _ => ⟨yL (by omega), ⟨by decide, by decide⟩, rise_snoc hJ.1 (by omega) (by omega), by rw [List.length_append]; exact Nat.succ_le_succ hJ.2⟩, fun _ => ⟨⟨by decide, by decide⟩, rise_up hJ.1 (by omega), by omega⟩⟩
    · obtain ⟨some1, rest1⟩ := z
      obtain ⟨sr, _⟩ := hJ
      rw [rn] at sr
      have s1 : SetOk n some1 := rise_set sr h1
      have push_ : ∀ F : List Int, SetOk n F -> W ((push fair F).bind fun f => some (rest1, f)) fun z => z.2.length <= i + 1 /\ ∀ F ∈ z.2, SetOk n F := fun F hF => by
        rw [zC, wW]
        refine ⟨yL (by omega), ?_⟩
        rw [W_some]
        refine ⟨by show (fair ++ [F]).length <= _; rw [List.length_append]; exact Nat.succ_le_succ fl, fun F' hF' => ?_⟩
        rcases List.mem_append.mp hF' with q | q
        · exact fo F' q
        · exact (List.mem_singleton.mp q) ▸ hF
      rw [zC, zC]
      have cond : W (if (decide (some1 = ([] : List Int))) = true then ((powM ((10 : Int)) ((18 : Int))).bind fun b31 => some (decide ((c) < (b31)))).bind fun c34 => if c34 = true then ((yX (c) (((450 : Int)) + ((i : Int)))).bind fun a32 => modM (a32) ((8 : Int))).bind fun a33 => some (decide (((0 : Int)) < (a33))) else some false else some false) fun _ => True := by
        rw [W_ite]
        refine ⟨fun _ => ?_, fun _ => W_some.mpr trivial⟩
        rw [zC, zC, W_pow]
        refine ⟨⟨by decide, by decide, by decide⟩, ?_⟩
        rw [W_some, W_ite]
        refine ⟨fun _ => ?_, fun _ => W_some.mpr trivial⟩
        rw [zC, zC]
        refine (w_mix c (k := 450 + (i : Int)) (by omega) (by omega)).imp fun r2 _ => ?_
        rw [uJ]
        exact ⟨by decide, W_some.mpr trivial⟩
      refine cond.imp fun b _ => ?_
      rw [W_ite]
      refine ⟨fun _ => ?_, fun _ => ?_⟩
      · rw [zC, zC, zC]
        refine (w_mix c (k := 460 + (i : Int)) (by omega) (by omega)).imp fun r2 hr2 => ?_
        rw [uJ]
        refine ⟨by omega, ?_⟩
        rw [W_some, W_some]
        refine push_ _ ⟨by simp, by simp, fun z hz => ?_⟩
        rw [List.mem_singleton.mp hz]
        exact ⟨Int.emod_nonneg _ (by omega), Int.emod_lt_of_pos _ (by omega)⟩
      · rw [W_some]
        exact push_ _ s1
  · rw [W_some]
    exact ⟨by omega, hI.2⟩
end Ts
namespace Ts
open PySem L2
theorem usort_self {n : Int} {U : List Int} (h : Rise n U) : usort U = U := lt_uniq (usort_lt U) h.1 fun _ => mem_usort
inductive Rc (xss : List (List Int)) (U : List Int) (s : Int) : Int -> Prop
  | here : Rc xss U s s
  | on {t u : Int} : Rc xss U s t -> u ∈ nxt xss t -> u ∈ U -> Rc xss U s u
theorem Rc.mem {xss : List (List Int)} {U : List Int} {s t : Int} (h : Rc xss U s t) (hs : s ∈ U) : t ∈ U := by
  cases h with
  | here => exact hs
  | on _ _ h => exact h
theorem Rc.trans {xss : List (List Int)} {U : List Int} {s t u : Int} (h : Rc xss U s t) (k : Rc xss U t u) : Rc xss U s u := by
  induction k with
  | here => exact h
  | on _ a b ih => exact .on ih a b
theorem Rc.pth {xss : List (List Int)} {U : List Int} {s t : Int} (h : Rc xss U s t) : t = s \/ Pth xss U s t := by
  induction h with
  | here => exact .inl rfl
  | @on t u _ a b ih =>
    rcases ih with rfl | ih
    · exact .inr (.one a b)
    · exact .inr (ih.trans (.one a b))
theorem Pth.rc {xss : List (List Int)} {U : List Int} {s t : Int} (h : Pth xss U s t) : Rc xss U s t := by
  induction h with
  | one a b => exact .on .here a b
  | step a b _ ih => exact (Rc.on .here a b).trans ih
def SeenOk (xss : List (List Int)) (U : List Int) (s : Int) (D : Dc Bool) : Prop := ∃ seen : List Int, D = Dc.mk (dl seen) /\ ∀ t, t ∈ seen ↔ Rc xss U s t
theorem w_lreach {xss : List (List Int)} {n : Int} (hl : (xss.length : Int) = n) (h60 : n <= 60) {found : List Int} {s : Int} (sf : s ∈ found) (hb : ∀ x ∈ found, 0 <= x /\ x < n) : W (wS xss found s) (SeenOk xss found s) := by
  unfold wS
  have lenb : ∀ {row : List Int}, row.Nodup -> (∀ x ∈ row, x ∈ found /\ Rc xss found s x) -> row.length <= n.toNat := fun nd sub => xI nd fun x hx => by have := hb x (sub x hx).1; omega
  rw [zC, W_some, zC, W_some, zC]
  refine W_while (fun st => ∃ seen : List Int, st.1 = dl seen /\ seen.Nodup /\ (∀ x ∈ seen, x ∈ found /\ Rc xss found s x) /\ (∀ x ∈ st.2, x ∈ seen) /\ s ∈ seen /\ st.2.length <= seen.length /\ ∀ x ∈ seen, x ∈ st.2 \/ ∀ u ∈ nxt xss x, u ∈ found -> u ∈ seen) (fun st => 2 * (100 - st.1.length) + st.2.length)
    ⟨[s], rfl, by simp, fun x hx => by rw [List.mem_singleton.mp hx]; exact ⟨sf, .here⟩, fun x hx => hx, by simp, Nat.le_refl _, fun x hx => .inl hx⟩ (show 2 * (100 - 1) + 1 < fuel by decide) fun st hst => ?_
  obtain ⟨st1, wt⟩ := st
  obtain ⟨seen, rfl, nd, sub, wsub, ss, wl, cl⟩ := hst
  rw [W_some]
  by_cases we : wt = []
  · subst we
    rw [show (!decide (((dl seen, ([] : List Int)) : (List (Key × Bool)) × List Int).2 = ([] : List Int))) = false from rfl, if_neg (by decide), W_some]
    refine ⟨seen, rfl, fun t => ⟨fun h => (sub t h).2, fun h => ?_⟩⟩
    induction h with
    | here => exact ss
    | on _ a b ih => exact ((cl _ ih).resolve_left (fun z => by cases z)) _ a b
  · obtain ⟨pre, y, rfl⟩ : ∃ pre y, wt = pre ++ [y] := ⟨_, _, (List.dropLast_concat_getLast we).symm⟩
    rw [show (!decide (((dl seen, pre ++ [y]) : (List (Key × Bool)) × List Int).2 = ([] : List Int))) = true by
      show (!decide (pre ++ [y] = [])) = true
      rw [decide_eq_false we]; rfl, if_pos rfl]
    have ys : y ∈ seen := wsub y (by simp)
    have yb := hb y (sub y ys).1
    show W (((((pre ++ [y]).getLast?.bind fun y => L2.atI xss y)).bind fun xs => _).bind _) _
    rw [List.getLast?_concat, zC, zC, zC, W_some, W_at yb.1]
    refine ⟨_, nxt_at hl yb.1 yb.2, ?_⟩
    refine xA (fun i z => ∃ (seen2 wt2 : List Int), z = (dl seen2, wt2) /\ seen2.Nodup /\ (∀ x ∈ seen2, x ∈ found /\ Rc xss found s x) /\ (∀ x ∈ wt2, x ∈ seen2) /\ seen <+: seen2 /\ pre <+: wt2 /\ (∀ x ∈ seen2, x ∈ seen \/ x ∈ wt2) /\ (∀ u ∈ (nxt xss y).take i, u ∈ found -> u ∈ seen2) /\ seen2.length + pre.length = wt2.length + seen.length)
      ⟨seen, pre, by show (dl seen, (pre ++ [y]).dropLast) = _; rw [List.dropLast_concat], nd, sub, fun x hx => wsub x (List.mem_append.mpr (.inl hx)), List.prefix_rfl, List.prefix_rfl, fun x hx => .inl hx, fun u hu => by simp at hu, by omega⟩ (fun i u z hi hI => ?_) fun z hI => ?_
    · obtain ⟨seen2, wt2, rfl, nd2, sub2, ws2, pr2, pw2, new2, cl2, len2⟩ := hI
      have tk : (nxt xss y).take (i + 1) = (nxt xss y).take i ++ [u] := by rw [List.take_add_one, hi] <;> rfl
      have old : ∀ v ∈ (nxt xss y).take i ++ [u], v ∈ found -> v ∈ seen2 \/ v = u := fun v hv vu => by
        rcases List.mem_append.mp hv with a | a
        · exact .inl (cl2 v a vu)
        · exact .inr (List.mem_singleton.mp a)
      rw [zC, zC]
      by_cases uf : u ∈ found
      · rw [decide_eq_true uf, if_pos rfl, W_some]
        show W (if (!(dget (dl seen2) u).isSome) = true then _ else _) _
        rw [dl_get]
        by_cases ur : u ∈ seen2
        · rw [decide_eq_true ur, Bool.not_true, if_neg (by decide), W_some, W_some]
          exact ⟨seen2, wt2, rfl, nd2, sub2, ws2, pr2, pw2, new2, fun v hv vu => by
            rw [tk] at hv
            exact (old v hv vu).elim id fun e => e ▸ ur, len2⟩
        · rw [decide_eq_false ur, Bool.not_false, if_pos rfl, zC, W_dput, dl_put ur, dl_len]
          have l2 := lenb nd2 sub2
          have l1 := lenb nd sub
          have pl : pre.length + 1 <= seen.length := by have : (pre ++ [y]).length <= seen.length := wl; rw [List.length_append] at this; exact this
          refine ⟨yL (by omega), ?_⟩
          rw [zC, wW]
          refine ⟨yL (show wt2.length <= 1000 by omega), ?_⟩
          rw [W_some, W_some]
          refine ⟨seen2 ++ [u], wt2 ++ [u], rfl, ?_, fun x hx => ?_, fun x hx => ?_, pr2.trans (List.prefix_append ..), pw2.trans (List.prefix_append ..), fun x hx => ?_, fun v hv vu => ?_, by rw [List.length_append, List.length_append]; simp; omega⟩
          · rw [List.nodup_append]
            exact ⟨nd2, by simp, fun a ha b hb e => ur (by rw [List.mem_singleton.mp hb] at e; exact e ▸ ha)⟩
          · rcases List.mem_append.mp hx with a | a
            · exact sub2 x a
            · rw [List.mem_singleton.mp a]; exact ⟨uf, .on (sub y ys).2 (List.mem_of_getElem? hi) uf⟩
          · rw [List.mem_append] at hx ⊢
            exact hx.imp (ws2 x) id
          · rw [List.mem_append] at hx
            rw [List.mem_append]
            rcases hx with a | a
            · exact (new2 x a).imp id .inl
            · exact .inr (.inr a)
          · rw [tk] at hv
            rw [List.mem_append, List.mem_singleton]
            exact old v hv vu
      · rw [decide_eq_false uf, if_neg (by decide), W_some, if_neg (by decide), W_some, W_some]
        exact ⟨seen2, wt2, rfl, nd2, sub2, ws2, pr2, pw2, new2, fun v hv vu => by
          rw [tk] at hv
          exact (old v hv vu).elim id fun e => absurd (e ▸ vu) uf, len2⟩
    · obtain ⟨seen2, wt2, rfl, nd2, sub2, ws2, ⟨tl, rfl⟩, ⟨tw, rfl⟩, new2, cl2, len2⟩ := hI
      rw [List.take_length] at cl2
      rw [W_some]
      have l2 := lenb nd2 sub2
      have pl : pre.length + 1 <= seen.length := by have : (pre ++ [y]).length <= seen.length := wl; rw [List.length_append] at this; exact this
      refine ⟨⟨seen ++ tl, rfl, nd2, sub2, ws2, List.mem_append.mpr (.inl ss), by show (pre ++ tw).length <= _; omega, fun x hx => ?_⟩, ?_⟩
      · rcases new2 x hx with a | a
        · rcases cl x a with b | b
          · rcases List.mem_append.mp b with b | b
            · exact .inl (List.mem_append.mpr (.inl b))
            · rw [List.mem_singleton.mp b]; exact .inr cl2
          · exact .inr fun u hu uf => List.mem_append.mpr (.inl (b u hu uf))
        · exact .inl a
      · show 2 * (100 - (dl (seen ++ tl)).length) + (pre ++ tw).length < 2 * (100 - (dl seen).length) + (pre ++ [y]).length
        rw [dl_len, dl_len]
        rw [List.length_append] at len2 l2 ⊢
        rw [List.length_append] at len2
        simp only [List.length_append, List.length_singleton] at len2 l2 ⊢
        omega
def ComesOk (xss : List (List Int)) (U xs : List Int) (kvs : List (Key × Dc Bool)) : Prop := ∀ x ∈ xs, ∃ D, dget kvs x = some D /\ SeenOk xss U x D
theorem w_again {xss : List (List Int)} {n : Int} (hl : (xss.length : Int) = n) {U : List Int} {kvs : List (Key × Dc Bool)} (K : ComesOk xss U U kvs) {s : Int} (h0 : 0 <= s) (h1 : s < n) : W (wU xss U (Dc.mk kvs) s) fun b => b = true ↔ Pth xss U s s := by
  unfold wU
  rw [zC, zC, W_at h0]
  refine ⟨_, nxt_at hl h0 h1, W_foldR (fun i _ => ∀ t ∈ (nxt xss s).take i, t ∈ U -> ¬ Rc xss U t s) (fun t ht => by simp at ht) (fun i t _ hi hI => ?_) fun _ hI => ?_⟩
  · have tn := List.mem_of_getElem? hi
    rw [zC]
    by_cases tU : t ∈ U
    · obtain ⟨D, e, seen, rfl, hs⟩ := K t tU
      have e' : dget (Dc.mk kvs).kv t = some (Dc.mk (dl seen)) := e
      rw [decide_eq_true tU, if_pos rfl, zC, e', W_some, W_some]
      show W (if (dget (dl seen) s).isSome = true then _ else _) _
      rw [dl_get]
      by_cases c : s ∈ seen
      · rw [decide_eq_true c, if_pos rfl, zC, W_some, W_some]
        refine .inr ⟨true, rfl, ?_⟩
        show W (some true) _
        rw [W_some]
        refine ⟨fun _ => ?_, fun _ => rfl⟩
        rcases ((hs s).mp c).pth with q | q
        · subst q; exact .one tn tU
        · exact .step tn tU q
      · rw [decide_eq_false c, if_neg (by decide), W_some]
        refine .inl ⟨(), rfl, fun u hu uU => ?_⟩
        rcases (wE hi).mp hu with z | z
        · exact hI u z uU
        · subst z; exact fun r => c ((hs s).mpr r)
    · rw [decide_eq_false tU, if_neg (by decide), W_some, if_neg (by decide), W_some]
      refine .inl ⟨(), rfl, fun u hu uU => ?_⟩
      rcases (wE hi).mp hu with z | z
      · exact hI u z uU
      · subst z; exact absurd uU tU
  · rw [List.take_length] at hI
    rw [W_els, W_some]
    refine ⟨fun h => (by cases h), fun p => ?_⟩
    cases p with
    | one a b => exact absurd .here (hI s a b)
    | step a b p => exact absurd p.rc (hI _ a b)
theorem w_meets {xss : List (List Int)} {fair : List (List Int)} {n : Int} (h60 : n <= 60) (pos : 1 <= n) (hf : FairOk n fair) {U : List Int} {kvs : List (Key × Dc Bool)} (K : ComesOk xss U U kvs) {s : Int} (sU : s ∈ U) : W (wT fair (Dc.mk kvs) s) fun b => b = true ↔ ∀ F ∈ fair, ∃ x ∈ F, Rc xss U s x /\ Rc xss U x s := by
  unfold wT
  obtain ⟨D, e, seen, rfl, hs⟩ := K s sU
  have e' : dget (Dc.mk kvs).kv s = some (Dc.mk (dl seen)) := e
  obtain ⟨p, hp⟩ : ∃ p : Int -> Bool, ∀ x, p x = true ↔ Rc xss U s x /\ Rc xss U x s := ⟨fun x => @decide _ (Classical.propDecidable (Rc xss U s x /\ Rc xss U x s)), fun x => by
    constructor
    · intro h; exact @of_decide_eq_true _ (Classical.propDecidable _) h
    · intro h; exact @decide_eq_true _ (Classical.propDecidable _) h⟩
  have tst : ∀ x : Int, (((dget (Dc.mk kvs).kv s).bind fun b5 => some ((dget b5.kv x).isSome)).bind fun c7 => if c7 = true then (dget (Dc.mk kvs).kv x).bind fun b6 => some ((dget b6.kv s).isSome) else some false) = some (p x) := fun x => by
    rw [e']
    show (if (dget (dl seen) x).isSome = true then (dget (Dc.mk kvs).kv x).bind fun b6 => some ((dget b6.kv s).isSome) else some false) = _
    rw [dl_get]
    by_cases c : x ∈ seen
    · have r := (hs x).mp c
      obtain ⟨D2, e2, seen2, rfl, hs2⟩ := K x (r.mem sU)
      have e2' : dget (Dc.mk kvs).kv x = some (Dc.mk (dl seen2)) := e2
      rw [decide_eq_true c, if_pos rfl, e2']
      show some ((dget (dl seen2) s).isSome) = _
      rw [dl_get]
      congr 1
      rw [Bool.eq_iff_iff, decide_eq_true_iff, hs2 s, hp x]
      exact ⟨fun q => ⟨r, q⟩, fun q => q.2⟩
    · rw [decide_eq_false c, if_neg (by decide)]
      congr 1
      cases q : p x with
      | false => rfl
      | true => exact absurd ((hs x).mpr ((hp x).mp q).1) c
  rw [zC, zC, W_some]
  refine W_foldR (fun i _ => ∀ F ∈ fair.take i, ∃ x ∈ F, Rc xss U s x /\ Rc xss U x s) (fun F hF => by simp at hF) (fun i F _ hi hI => ?_) fun _ hI => ?_
  · have Fm := List.mem_of_getElem? hi
    have Fl := set_len (hf.2 F Fm) h60 (by omega)
    rw [zC, zC, zC, zC, W_some, vY (p := p) (g := fun x => x) (yL (by omega)) (fun x _ => tst x) (fun _ _ => rfl), List.map_id', W_some, W_some, W_some]
    by_cases c : F.filter p = []
    · rw [decide_eq_true (show ((F.filter p).length : Int) = 0 by rw [c]; rfl), if_pos rfl, zC, W_some, W_some]
      refine .inr ⟨false, rfl, ?_⟩
      show W (some false) _
      rw [W_some]
      refine ⟨fun z => (by cases z), fun z => ?_⟩
      obtain ⟨x, xF, q⟩ := z F Fm
      have : x ∈ F.filter p := List.mem_filter.mpr ⟨xF, (hp x).mpr q⟩
      rw [c] at this
      cases this
    · rw [decide_eq_false (fun z => c (List.length_eq_zero_iff.mp (by omega))), if_neg (by decide), W_some]
      refine .inl ⟨(), rfl, fun G hG => ?_⟩
      rw [vH hi, List.mem_append, List.mem_singleton] at hG
      rcases hG with z | z
      · exact hI G z
      · subst z
        obtain ⟨x, hx⟩ := List.exists_mem_of_ne_nil _ c
        rw [List.mem_filter] at hx
        exact ⟨x, hx.1, (hp x).mp hx.2⟩
  · rw [List.take_length] at hI
    rw [W_els, W_some]
    exact ⟨fun _ => hI, fun _ => rfl⟩
theorem cls (P : Int -> Prop) : ∃ p : Int -> Bool, ∀ x, p x = true ↔ P x := ⟨fun x => @decide _ (Classical.propDecidable (P x)), fun x => by
  constructor
  · intro h; exact @of_decide_eq_true _ (Classical.propDecidable _) h
  · intro h; exact @decide_eq_true _ (Classical.propDecidable _) h⟩
def BaseOk (xss fair : List (List Int)) (U : List Int) (b : Int) : Prop := Pth xss U b b /\ ∀ F ∈ fair, ∃ x ∈ F, Rc xss U b x /\ Rc xss U x b
theorem flt_snoc {U : List Int} {p : Int -> Bool} {i : Nat} {x : Int} (h : U[i]? = some x) : (U.take (i + 1)).filter p = (U.take i).filter p ++ (if p x = true then [x] else []) := by
  rw [vH h, List.filter_append]
  congr 1
  by_cases c : p x = true <;> simp [c]
theorem w_lcore {xss fair : List (List Int)} {n : Int} (hl : (xss.length : Int) = n) (h60 : n <= 60) (pos : 1 <= n) (hf : FairOk n fair) {U : List Int} (hU : Rise n U) : W (vT xss fair U) fun due => due.Pairwise (· < ·) /\ ∀ s, s ∈ due ↔ s ∈ U /\ ∃ b ∈ U, BaseOk xss fair U b /\ Rc xss U s b := by
  unfold vT
  have Ul : U.length <= n.toNat := xI hU.nodup fun x hx => by have := hU.2 x hx; omega
  rw [zC, W_some, zC, zC, W_some]
  refine xA (fun i kvs => kvs.length <= i /\ ComesOk xss U (U.take i) kvs) ⟨Nat.zero_le _, fun x hx => by simp at hx⟩ (fun i x kvs hi hI => ?_) fun kvs hI => ?_
  · have il := (List.getElem?_eq_some_iff.mp hi).1
    rw [zC, zC]
    refine (w_lreach hl h60 (List.mem_of_getElem? hi) hU.2).imp fun D hD => ?_
    unfold dput
    rw [if_pos (yL (by omega)), W_some, W_some]
    refine ⟨by have := pK_len kvs (Sum.inl x) D; omega, fun y hy => ?_⟩
    have e : dget (pK kvs (Sum.inl x) D) y = if (Sum.inl y : Key) = Sum.inl x then some D else dget kvs y := gK_put kvs (Sum.inl x) (Sum.inl y) D
    rw [e]
    by_cases c : y = x
    · subst c; rw [if_pos rfl]; exact ⟨D, rfl, hD⟩
    · rw [if_neg fun z => c (Sum.inl.inj z)]
      exact hI.2 y (((wE hi).mp hy).resolve_right c)
  · obtain ⟨_, K⟩ := hI
    rw [List.take_length] at K
    obtain ⟨p, hp⟩ := cls (BaseOk xss fair U)
    rw [zC, W_some, zC, zC, W_some]
    refine xA (fun i s => s = (U.take i).filter p) (by simp) (fun i x s hi hI => ?_) fun s hI => ?_
    · subst hI
      have xU := List.mem_of_getElem? hi
      have xb := hU.2 x xU
      have fl : ((U.take i).filter p).length <= 1000 := by
        have := List.length_filter_le p (U.take i)
        rw [List.length_take] at this
        omega
      rw [zC, zC, zC]
      refine (w_again hl K xb.1 xb.2).imp fun a ha => ?_
      rw [flt_snoc hi]
      cases a with
      | false =>
        rw [if_neg (by decide), W_some, if_neg (by decide), W_some, W_some, if_neg, List.append_nil]
        exact fun z => by have := ha.mpr ((hp x).mp z).1; cases this
      | true =>
        rw [if_pos rfl]
        refine (w_meets h60 pos hf K xU).imp fun b hb => ?_
        cases b with
        | false =>
          rw [if_neg (by decide), W_some, W_some, if_neg, List.append_nil]
          exact fun z => by have := hb.mpr ((hp x).mp z).2; cases this
        | true =>
          rw [if_pos rfl, zC, wW]
          refine ⟨yL fl, ?_⟩
          rw [W_some, W_some, if_pos ((hp x).mpr ⟨ha.mp rfl, hb.mp rfl⟩)]
    · subst hI
      rw [List.take_length]
      obtain ⟨q, hq⟩ := cls fun s => ∃ b ∈ U, BaseOk xss fair U b /\ Rc xss U s b
      have bl : (U.filter p).length <= 1000 := by
        have := List.length_filter_le p U
        omega
      rw [zC, W_some, zC, zC, W_some]
      refine xA (fun i s => s = (U.take i).filter q) (by simp) (fun i x s hi hI => ?_) fun s hI => ?_
      · subst hI
        have xU := List.mem_of_getElem? hi
        have fl : ((U.take i).filter q).length <= 1000 := by
          have := List.length_filter_le q (U.take i)
          rw [List.length_take] at this
          omega
        obtain ⟨D, e, seen, rfl, hs⟩ := K x xU
        have e' : dget (Dc.mk kvs).kv x = some (Dc.mk (dl seen)) := e
        have cp : compL (fun y : Int => (dget (Dc.mk kvs).kv x).bind fun b => some ((dget b.kv y).isSome)) (fun y : Int => some y) (U.filter p) = some ((U.filter p).filter fun y => decide (y ∈ seen)) := by
          rw [vY (p := fun y => decide (y ∈ seen)) (g := fun y => y) (yL bl) (fun y _ => by rw [e']; exact congrArg some (dl_get seen y)) (fun _ _ => rfl), List.map_id']
        rw [zC, zC, zC, zC, zC, W_some, cp, W_some, W_some, W_some, flt_snoc hi]
        have iff : (0 : Int) < (((U.filter p).filter fun y => decide (y ∈ seen)).length : Int) ↔ q x = true := by
          rw [hq x]
          constructor
          · intro h
            obtain ⟨b, hb⟩ := List.exists_mem_of_length_pos (show 0 < ((U.filter p).filter fun y => decide (y ∈ seen)).length by omega)
            rw [List.mem_filter, List.mem_filter] at hb
            exact ⟨b, hb.1.1, (hp b).mp hb.1.2, (hs b).mp (of_decide_eq_true hb.2)⟩
          · rintro ⟨b, bU, bB, r⟩
            have : b ∈ (U.filter p).filter fun y => decide (y ∈ seen) := List.mem_filter.mpr ⟨List.mem_filter.mpr ⟨bU, (hp b).mpr bB⟩, decide_eq_true ((hs b).mpr r)⟩
            have := List.length_pos_of_mem this
            omega
        by_cases c : q x = true
        · rw [decide_eq_true (iff.mpr c), if_pos rfl, zC, wW]
          refine ⟨yL fl, ?_⟩
          rw [W_some, W_some, if_pos c]
        · rw [decide_eq_false (fun z => c (iff.mp z)), if_neg (by decide), W_some, W_some, if_neg c, List.append_nil]
      · subst hI
        rw [W_some, List.take_length]
        refine ⟨hU.1.filter q, fun s => ?_⟩
        rw [List.mem_filter, hq s]
theorem core_eq {xss fair : List (List Int)} {n : Int} {U goal : List Int} {d : List (Option Int)} (D : DistOk xss U goal n d) (G : GoalOk xss fair U goal) (hU : ∀ x ∈ U, 0 <= x /\ x < n) (s : Int) : s ∈ pick n (fun s => (dg d s).isSome) ↔ s ∈ U /\ ∃ b ∈ U, BaseOk xss fair U b /\ Rc xss U s b := by
  have base : ∀ b ∈ U, (b ∈ goal ↔ BaseOk xss fair U b) := fun b bU => by
    constructor
    · intro h
      obtain ⟨R, RO, bR, met, _⟩ := G.of b h
      have up : ∀ {x y : Int}, x ∈ R -> y ∈ R -> Pth xss U x y := fun hx hy => (RO.go _ hx _ hy).mono RO.sub
      refine ⟨up bR bR, fun F hF => ?_⟩
      obtain ⟨x, xR, xF⟩ := List.any_eq_true.mp (List.all_eq_true.mp met F hF)
      exact ⟨x, of_decide_eq_true xF, (up bR xR).rc, (up xR bR).rc⟩
    · rintro ⟨p, m⟩
      obtain ⟨f, hf⟩ := cls fun t => Pth xss U b t /\ Pth xss U t b
      refine G.all b bU (U.filter f) (fun t => by rw [List.mem_filter, hf t]) p ?_
      refine List.all_eq_true.mpr fun F hF => ?_
      obtain ⟨x, xF, r1, r2⟩ := m F hF
      have p1 : Pth xss U b x := r1.pth.elim (fun e => e ▸ p) id
      have p2 : Pth xss U x b := r2.pth.elim (fun e => by rw [<- e]; exact e ▸ p) id
      exact List.any_eq_true.mpr ⟨x, List.mem_filter.mpr ⟨p1.mem, (hf x).mpr ⟨p1, p2⟩⟩, decide_eq_true xF⟩
  have key : ∀ (k : Nat) (s : Int), 0 <= s -> s < n -> dg d s = some (k : Int) -> s ∈ U /\ ∃ b ∈ goal, Rc xss U s b := by
    intro k
    induction k with
    | zero =>
      intro s s0 s1 e
      have hg := (D.zero s s0 s1).mp e
      exact ⟨G.sub s hg, s, hg, .here⟩
    | succ k ih =>
      intro s s0 s1 e
      have ng : s ∉ goal := fun hg => by
        have := (D.zero s s0 s1).mpr hg
        rw [e] at this
        have := Option.some.inj this
        omega
      obtain ⟨sU, t, tn, t0, t1, e2⟩ := D.via s _ s0 s1 e ng
      obtain ⟨tU, b, bg, r⟩ := ih t t0 t1 (by rw [e2]; congr 1; omega)
      exact ⟨sU, b, bg, (Rc.on .here tn tU).trans r⟩
  have back : ∀ {s t : Int}, Rc xss U s t -> s ∈ U -> (dg d t).isSome = true -> (dg d s).isSome = true := fun h => by
    induction h with
    | here => exact fun _ q => q
    | @on t u r a b ih =>
      intro sU q
      have tU := r.mem sU
      obtain ⟨k, e⟩ := Option.isSome_iff_exists.mp q
      obtain ⟨j, ej, _⟩ := D.near t u k (hU t tU).1 (hU t tU).2 (hU u b).1 (hU u b).2 tU a e
      exact ih sU (by rw [ej]; rfl)
  rw [mem_pick]
  constructor
  · rintro ⟨s0, s1, q⟩
    obtain ⟨k, e⟩ := Option.isSome_iff_exists.mp q
    have kp := D.pos s k s0 s1 e
    obtain ⟨sU, b, bg, r⟩ := key k.toNat s s0 s1 (by rw [e]; congr 1; omega)
    exact ⟨sU, b, G.sub b bg, (base b (G.sub b bg)).mp bg, r⟩
  · rintro ⟨sU, b, bU, bB, r⟩
    refine ⟨(hU s sU).1, (hU s sU).2, back r sU ?_⟩
    rw [(D.zero b (hU b bU).1 (hU b bU).2).mpr ((base b bU).mpr bB)]
    rfl
theorem w_core2 {C : Addr} {m : Mach C} {n : Int} (g : Gr m n) (hf : FairOk n m.fair) {U : List Int} (hU : Rise n U) : W (p_core m U) fun R => Rise n R /\ ∀ s, s ∈ R ↔ s ∈ U /\ ∃ b ∈ U, BaseOk m.steps m.fair U b /\ Rc m.steps U s b := by
  unfold p_core
  have few := g.few
  have Ul : U.length <= n.toNat := xI hU.nodup fun x hx => by have := hU.2 x hx; omega
  have q := w_goal g hf hU.2 (by omega)
  rw [usort_self hU, zC] at q
  rw [zC, zC, zC, zC, zC, zC]
  refine q.imp fun a qa => ?_
  rw [W_some]
  refine qa.imp fun goal G => ?_
  rw [W_some, W_some, W_some]
  show W (wC m U goal) _
  refine (w_comes g hU.2 ⟨G.nd, fun x h => hU.2 x (G.sub x h)⟩).imp fun R ⟨d, D, e⟩ => ?_
  subst e
  exact ⟨rise_pick n _, core_eq D G hU.2⟩
theorem w_line (c : Int) {n : Int} (h0 : 1 <= n) (h1 : n <= 60) : W (xM c n) fun z => ((z.1.length : Int) = n /\ ∀ xs ∈ z.1, RowOk n xs) /\ FairOk n z.2 := by
  unfold xM
  have rl := wF (n := n) (by omega)
  rw [zC, W_some, zC, zC, wP]
  refine ⟨⟨by omega, by omega⟩, xA (fun i s => s.length = i /\ ∀ xs ∈ s, RowOk n xs) ⟨rfl, fun xs h => by cases h⟩ (fun i x s hi hI => ?_) fun s hI => ?_⟩
  · obtain ⟨rfl, hx⟩ := rng_at hi
    have fin : ∀ row : List Int, RowOk n row -> W ((push s row).bind fun steps => some steps) fun s' => s'.length = i + 1 /\ ∀ xs ∈ s', RowOk n xs := fun row hr => by
      rw [zC, wW]
      refine ⟨yL (by omega), ?_⟩
      rw [W_some]
      refine ⟨by rw [List.length_append, hI.1] <;> rfl, fun xs hxs => ?_⟩
      rcases List.mem_append.mp hxs with q | q
      · exact hI.2 xs q
      · exact (List.mem_singleton.mp q) ▸ hr
    have key : ∀ row : List Int, row.Nodup -> row.length <= 2 -> (i : Int) ∉ row -> (∀ z ∈ row, 0 <= z /\ z < n) ->
        W (((if (decide (row = ([] : List Int))) = true then some true else ((yX c (i : Int)).bind fun a9 => modM a9 (5 : Int)).bind fun a10 => some (decide ((0 : Int) < a10))).bind fun b => if b = true then (push row (i : Int)).bind fun row13 => some row13 else some row).bind fun s11 => (push s s11).bind fun steps14 => some steps14) fun s' => s'.length = i + 1 /\ ∀ xs ∈ s', RowOk n xs := fun row nd l2 ni rg => by
      have add : RowOk n (row ++ [(i : Int)]) := by
        refine ⟨by simp, ?_, by rw [List.length_append]; exact Nat.succ_le_succ l2, fun z hz => ?_⟩
        · rw [List.nodup_append]
          exact ⟨nd, by simp, fun a ha b hb e => ni (by rw [List.mem_singleton.mp hb] at e; exact e ▸ ha)⟩
        · rcases List.mem_append.mp hz with q | q
          · exact rg z q
          · rw [List.mem_singleton.mp q]; omega
      rw [zC, zC]
      by_cases e : row = []
      · rw [decide_eq_true e, if_pos rfl, W_some, if_pos rfl, zC, wW]
        refine ⟨yL (by omega), ?_⟩
        rw [W_some]
        exact fin _ add
      · rw [decide_eq_false e, if_neg (by decide), zC, zC]
        refine (w_mix c (by omega) (by omega)).imp fun r _ => ?_
        rw [uJ]
        refine ⟨by decide, ?_⟩
        rw [W_some]
        by_cases q : (0 : Int) < r % 5
        · rw [decide_eq_true q, if_pos rfl, zC, wW]
          refine ⟨yL (by omega), ?_⟩
          rw [W_some]
          exact fin _ add
        · rw [decide_eq_false q, if_neg (by decide), W_some]
          exact fin _ ⟨e, nd, by omega, rg⟩
    rw [zC, W_some, zC]
    by_cases c1 : (i : Int) + 1 < n
    · rw [decide_eq_true c1, if_pos rfl, zC, wW]
      refine ⟨yL (by simp), ?_⟩
      rw [W_some]
      exact key [(i : Int) + 1] (by simp) (by simp) (by rw [List.mem_singleton]; omega) (fun z hz => by rw [List.mem_singleton.mp hz]; omega)
    · rw [decide_eq_false c1, if_neg (by decide), W_some]
      exact key [] (by simp) (by simp) (by simp) (fun z hz => by cases hz)
  · rw [zC, zC, uJ]
    refine ⟨by decide, ?_⟩
    rw [W_some, zC, zC, wP]
    have c2 : 0 <= c % 2 /\ c % 2 < 2 := by omega
    generalize ht : 2 + c % 2 = tr
    have tl := wF (n := tr) (by omega)
    refine ⟨⟨by omega, by omega⟩, ?_⟩
    have cp : compL (fun _ : Int => some true) (fun k : Int => (rangeM n).bind fun xs => compL (fun x : Int => (((divM c 2).bind fun b20 => some (x + b20)).bind fun a21 => modM a21 tr).bind fun a22 => some (decide (a22 = k))) (fun x : Int => some x) xs) (rng tr) = some ((rng tr).map fun k => pick n fun x => decide ((x + c / 2) % tr = k)) := by
      rw [vY (p := fun _ => true) (g := fun k => pick n fun x => decide ((x + c / 2) % tr = k)) (yL (by omega)) (fun _ _ => rfl) (fun k _ => ?_)]
      · congr 1
        rw [List.filter_eq_self.mpr (fun _ _ => rfl)]
      · have er : rangeM n = some (rng n) := by
          obtain ⟨a, ea, ha⟩ := (wP (n := n) (Q := (· = rng n))).mpr ⟨⟨by omega, by omega⟩, rfl⟩
          rw [ea, ha]
        rw [er]
        show compL _ _ (rng n) = _
        rw [vY (p := fun x => decide ((x + c / 2) % tr = k)) (g := fun x => x) (yL (by omega)) (fun x _ => ?_) (fun _ _ => rfl), List.map_id']
        · rfl
        · unfold divM modM
          rw [if_pos ⟨by decide, by decide⟩]
          show ((if 0 < tr then some ((x + c / 2) % tr) else none).bind fun a22 => some (decide (a22 = k))) = _
          rw [if_pos (by omega)]
          rfl
    rw [cp, W_some, W_some]
    refine ⟨⟨by rw [hI.1]; exact rl, hI.2⟩, by show ((rng tr).map _).length <= 100; rw [List.length_map]; omega, fun F hF => ?_⟩
    obtain ⟨k, _, rfl⟩ := List.mem_map.mp hF
    exact rise_set (rise_pick n _) h1
theorem law_true (C : Addr) (scr : Scr) : W (p_law C scr) (· = true) := by
  unfold p_law
  rw [zC, zC, zC]
  refine (w_cell scr (by decide)).imp fun c0 _ => ?_
  rw [W_some]
  refine (w_small c0).imp fun n0 ⟨n1, n12⟩ => ?_
  rw [zC]
  refine (w_steps scr n1 (by omega)).imp fun xss0 hx0 => ?_
  rw [zC, zC, zC]
  refine (w_cell scr (by decide)).imp fun c1 _ => ?_
  rw [W_some]
  refine (w_fairby c1 n1 (by omega)).imp fun fair0 hf0 => ?_
  rw [zC, zC, zC, zC, zC]
  refine (w_cell scr (by decide)).imp fun c3 _ => ?_
  rw [W_div]
  refine ⟨⟨by decide, by decide⟩, ?_⟩
  rw [uJ]
  refine ⟨by decide, ?_⟩
  rw [W_some]
  have drawn : W (if decide (c3 / 5 % 8 = 3) = true then (((zW scr (0 : Int)).bind fun a14 => modM a14 (13 : Int)).bind fun b15 => some ((12 : Int) + b15)).bind fun many13 => (((zW scr (1 : Int)).bind fun a18 => some (a18, (many13, ()))).bind fun z17 => xM z17.1 z17.2.1).bind fun v16 => some (many13, v16.1, v16.2) else some (n0, xss0, fair0)) fun z => 1 <= z.1 /\ z.1 <= 60 /\ ((z.2.1.length : Int) = z.1 /\ ∀ xs ∈ z.2.1, RowOk z.1 xs) /\ FairOk z.1 z.2.2 := by
    by_cases c : c3 / 5 % 8 = 3
    · rw [decide_eq_true c, if_pos rfl, zC, zC, zC]
      refine (w_cell scr (by decide)).imp fun c4 _ => ?_
      rw [uJ]
      refine ⟨by decide, ?_⟩
      rw [W_some, zC, zC, zC]
      refine (w_cell scr (by decide)).imp fun c5 _ => ?_
      rw [W_some]
      refine (w_line c5 (n := 12 + c4 % 13) (by omega) (by omega)).imp fun z hz => ?_
      rw [W_some]
      exact ⟨by omega, by omega, hz⟩
    · rw [decide_eq_false c, if_neg (by decide), W_some]
      exact ⟨n1, by omega, hx0, hf0⟩
  refine drawn.imp fun z ⟨n1, n60, ⟨hl, hr⟩, hf⟩ => ?_
  obtain ⟨n, xss, fair⟩ := z
  dsimp only at n1 n60 hl hr hf
  rw [zC, zC, zC]
  refine (w_cell scr (by decide)).imp fun c2 _ => ?_
  rw [zC, zC, zC, zC, zC]
  refine (w_cell scr (by decide)).imp fun c3 _ => ?_
  rw [uJ]
  refine ⟨by decide, ?_⟩
  rw [W_at (by omega)]
  refine ⟨_, List.getElem?_eq_getElem (by simp; omega), ?_⟩
  generalize ([(6 : Int), 6, 5, 4, 2])[(c3 % 5).toNat]'_ = way
  rw [W_some, W_some, W_some]
  show W (wB c2 n way) _
  refine (w_set c2 way (by omega) (by omega)).imp fun U hU => ?_
  have xl : xss.length <= 60 := by omega
  have fl := hf.1
  rw [zC, zC, zC, W_some, W_map (fun x => x), List.map_id']
  refine ⟨yL (show xss.length <= 1000 by omega), ?_⟩
  rw [zC, zC, W_some, W_map (fun x => x), List.map_id']
  refine ⟨yL (show fair.length <= 1000 by omega), ?_⟩
  refine (w_mkK C (mo := some []) (fo := some fair) hl n1 (by omega) (fun xs hx => row_set (hr xs hx)) ⟨by simp, by simp, fun m hm => by simp at hm⟩ hf).imp fun m ⟨g, es, _, ef⟩ => ?_
  have ef : m.fair = fair := ef
  have hf' : FairOk n m.fair := by rw [ef]; exact hf
  rw [zC]
  refine (w_lcore hl n60 n1 hf hU).imp fun due ⟨d1, d2⟩ => ?_
  rw [zC]
  refine (w_core2 g hf' hU).imp fun R ⟨r1, r2⟩ => ?_
  rw [es, ef] at r2
  have e : R = due := lt_uniq r1.1 d1 fun s => by rw [r2 s, d2 s]
  subst e
  rw [zC, Bool.not_true, if_neg (by decide), W_some, decide_eq_true (rfl : R = R), Bool.not_true, if_neg (by decide), zC, zC, W_some]
  refine W_foldX (fun _ _ => True) trivial (fun i x _ hi _ => ?_) fun _ _ => by rw [W_els, W_some]
  rw [zC, zC]
  have wh : vL x = some true := rfl
  rw [wh, W_some, W_some, Bool.not_true, if_neg (by decide), W_some]
  exact ⟨(), rfl, trivial⟩
end Ts
namespace Ts
open PySem L2
def spLaw (K : PySem.W.Frag) : Sp := fun vs H Q _ => ∃ (a : Addr) (ns : List Int), vs = [.ref a] /\ SqL K H a (ns.map V.int) /\ ns.length <= 63 /\ ∀ H', Q (.bl true) H'
set_option maxHeartbeats 8000000 in
theorem all_mk {l : PySem.W.OpenLaw} {w : World} {K : PySem.W.Frag} {h : Heap} {mg : Str -> Option Value} {fa C fI TD f1 f2 f3 f4 f5 f6 f7 f8 f9 f10 f11 f12 f13 f14 f15 f16 f17 f18 f19 f20 f21 f22 f23 f24 f25 f26 f27 f28 f29 f30 f31 f32 fM0 fM1 fM2 fM3 a_SAYING_WORDS : Addr} (X : K.In h) (G : h.Ns mainGlobals mg) (hfa : mg "law" = some (.ref fa))
    {od1 an1 od2 an2 od3 an3 od4 an4 od5 an5 od6 an6 od7 an7 od8 an8 od9 an9 od10 an10 od11 an11 od12 an12 od13 an13 od14 an14 od15 an15 od16 an16 od17 an17 od18 an18 od19 an19 od20 an20 od21 an21 od22 an22 od23 an23 od24 an24 od25 an25 od26 an26 od27 an27 od28 an28 od29 an29 od30 an30 od31 an31 od32 an32 odI anI odM0 anM0 odM1 anM1 odM2 anM2 odM3 anM3 odT : Option Addr} {sl1 sl2 sl3 sl4 sl5 sl6 sl7 sl8 sl9 sl10 sl11 sl12 sl13 sl14 sl15 sl16 sl17 sl18 sl19 sl20 sl21 sl22 sl23 sl24 sl25 sl26 sl27 sl28 sl29 sl30 sl31 sl32 slI slM0 slM1 slM2 slM3 slT sl_SAYING_WORDS : Array (Option Value)} {oc1 kV1 dc1 pm1 cd1 ct1 oc2 kV2 dc2 pm2 cd2 ct2 oc3 kV3 dc3 pm3 cd3 ct3 oc4 kV4 dc4 pm4 cd4 ct4 oc5 kV5 dc5 pm5 cd5 ct5 oc6 kV6 dc6 pm6 cd6 ct6 oc7 kV7 dc7 pm7 cd7 ct7 oc8 kV8 dc8 pm8 cd8 ct8 oc9 kV9 dc9 pm9 cd9 ct9 oc10 kV10 dc10 pm10 cd10 ct10 oc11 kV11 dc11 pm11 cd11 ct11 oc12 kV12 dc12 pm12 cd12 ct12 oc13 kV13 dc13 pm13 cd13 ct13 oc14 kV14 dc14 pm14 cd14 ct14 oc15 kV15 dc15 pm15 cd15 ct15 oc16 kV16 dc16 pm16 cd16 ct16 oc17 kV17 dc17 pm17 cd17 ct17 oc18 kV18 dc18 pm18 cd18 ct18 oc19 kV19 dc19 pm19 cd19 ct19 oc20 kV20 dc20 pm20 cd20 ct20 oc21 kV21 dc21 pm21 cd21 ct21 oc22 kV22 dc22 pm22 cd22 ct22 oc23 kV23 dc23 pm23 cd23 ct23 oc24 kV24 dc24 pm24 cd24 ct24 oc25 kV25 dc25 pm25 cd25 ct25 oc26 kV26 dc26 pm26 cd26 ct26 oc27 kV27 dc27 pm27 cd27 ct27 oc28 kV28 dc28 pm28 cd28 ct28 oc29 kV29 dc29 pm29 cd29 ct29 oc30 kV30 dc30 pm30 cd30 ct30 oc31 kV31 dc31 pm31 cd31 ct31 oc32 kV32 dc32 pm32 cd32 ct32 ocI kVI dcI pmI cdI ctI ocM0 kVM0 dcM0 pmM0 cdM0 ctM0 ocM1 kVM1 dcM1 pmM1 cdM1 ctM1 ocM2 kVM2 dcM2 pmM2 cdM2 ctM2 ocM3 kVM3 dcM3 pmM3 cdM3 ctM3 ocT : Value} {nT n_SAYING_WORDS : Nat}
    {t_LETTERS t_LONGEST_NAME t_MOST_STANDS : Tok} {k_SAYING_WORDS_0 k_SAYING_WORDS_1 k_SAYING_WORDS_2 k_SAYING_WORDS_3 k_SAYING_WORDS_4 k_SAYING_WORDS_5 k_SAYING_WORDS_6 k_SAYING_WORDS_7 k_SAYING_WORDS_8 k_SAYING_WORDS_9 : Tok}
    (a1 : nsIn K mainGlobals "sources_of" = some (some (.ref f1))) (l1 : K.lookup f1 = some ⟨oc1, od1, .func (fnOf "sources_of" "sources_of" (defArgs sSources) (defBody sSources) (defScope sSources) .none kV1 dc1 pm1 an1 cd1 ct1), sl1⟩) (c1 : codeIn K cd1 "sources_of" = true) (k1 : keepIn K (.ref f1) = true)
    (a2 : nsIn K mainGlobals "is_stand" = some (some (.ref f2))) (l2 : K.lookup f2 = some ⟨oc2, od2, .func (fnOf "is_stand" "is_stand" (defArgs s_is_stand) (defBody s_is_stand) (defScope s_is_stand) .none kV2 dc2 pm2 an2 cd2 ct2), sl2⟩) (c2 : codeIn K cd2 "is_stand" = true) (k2 : keepIn K (.ref f2) = true)
    (a3 : nsIn K mainGlobals "check_stands" = some (some (.ref f3))) (l3 : K.lookup f3 = some ⟨oc3, od3, .func (fnOf "check_stands" "check_stands" (defArgs s_check_stands) (defBody s_check_stands) (defScope s_check_stands) .none kV3 dc3 pm3 an3 cd3 ct3), sl3⟩) (c3 : codeIn K cd3 "check_stands" = true) (k3 : keepIn K (.ref f3) = true)
    (a4 : nsIn K mainGlobals "check_steps" = some (some (.ref f4))) (l4 : K.lookup f4 = some ⟨oc4, od4, .func (fnOf "check_steps" "check_steps" (defArgs s_check_steps) (defBody s_check_steps) (defScope s_check_steps) .none kV4 dc4 pm4 an4 cd4 ct4), sl4⟩) (c4 : codeIn K cd4 "check_steps" = true) (k4 : keepIn K (.ref f4) = true)
    (a5 : nsIn K mainGlobals "is_name" = some (some (.ref f5))) (l5 : K.lookup f5 = some ⟨oc5, od5, .func (fnOf "is_name" "is_name" (defArgs s_is_name) (defBody s_is_name) (defScope s_is_name) .none kV5 dc5 pm5 an5 cd5 ct5), sl5⟩) (c5 : codeIn K cd5 "is_name" = true) (k5 : keepIn K (.ref f5) = true)
    (a6 : nsIn K mainGlobals "check_marks" = some (some (.ref f6))) (l6 : K.lookup f6 = some ⟨oc6, od6, .func (fnOf "check_marks" "check_marks" (defArgs s_check_marks) (defBody s_check_marks) (defScope s_check_marks) .none kV6 dc6 pm6 an6 cd6 ct6), sl6⟩) (c6 : codeIn K cd6 "check_marks" = true) (k6 : keepIn K (.ref f6) = true)
    (a7 : nsIn K mainGlobals "check_fair" = some (some (.ref f7))) (l7 : K.lookup f7 = some ⟨oc7, od7, .func (fnOf "check_fair" "check_fair" (defArgs s_check_fair) (defBody s_check_fair) (defScope s_check_fair) .none kV7 dc7 pm7 an7 cd7 ct7), sl7⟩) (c7 : codeIn K cd7 "check_fair" = true) (k7 : keepIn K (.ref f7) = true)
    (a8 : nsIn K mainGlobals "copied" = some (some (.ref f8))) (l8 : K.lookup f8 = some ⟨oc8, od8, .func (fnOf "copied" "copied" (defArgs s_copied) (defBody s_copied) (defScope s_copied) .none kV8 dc8 pm8 an8 cd8 ct8), sl8⟩) (c8 : codeIn K cd8 "copied" = true) (k8 : keepIn K (.ref f8) = true)
    (a9 : nsIn K mainGlobals "flags" = some (some (.ref f9))) (l9 : K.lookup f9 = some ⟨oc9, od9, .func (fnOf "flags" "flags" (defArgs s_flags) (defBody s_flags) (defScope s_flags) .none kV9 dc9 pm9 an9 cd9 ct9), sl9⟩) (c9 : codeIn K cd9 "flags" = true) (k9 : keepIn K (.ref f9) = true)
    (a10 : nsIn K mainGlobals "shared" = some (some (.ref f10))) (l10 : K.lookup f10 = some ⟨oc10, od10, .func (fnOf "shared" "shared" (defArgs s_shared) (defBody s_shared) (defScope s_shared) .none kV10 dc10 pm10 an10 cd10 ct10), sl10⟩) (c10 : codeIn K cd10 "shared" = true) (k10 : keepIn K (.ref f10) = true)
    (a11 : nsIn K mainGlobals "distances" = some (some (.ref f11))) (l11 : K.lookup f11 = some ⟨oc11, od11, .func (fnOf "distances" "distances" (defArgs s_distances) (defBody s_distances) (defScope s_distances) .none kV11 dc11 pm11 an11 cd11 ct11), sl11⟩) (c11 : codeIn K cd11 "distances" = true) (k11 : keepIn K (.ref f11) = true)
    (a12 : nsIn K mainGlobals "comes_to" = some (some (.ref f12))) (l12 : K.lookup f12 = some ⟨oc12, od12, .func (fnOf "comes_to" "comes_to" (defArgs s_comes_to) (defBody s_comes_to) (defScope s_comes_to) .none kV12 dc12 pm12 an12 cd12 ct12), sl12⟩) (c12 : codeIn K cd12 "comes_to" = true) (k12 : keepIn K (.ref f12) = true)
    (a13 : nsIn K mainGlobals "bits_of" = some (some (.ref f13))) (l13 : K.lookup f13 = some ⟨oc13, od13, .func (fnOf "bits_of" "bits_of" (defArgs s_bits_of) (defBody s_bits_of) (defScope s_bits_of) .none kV13 dc13 pm13 an13 cd13 ct13), sl13⟩) (c13 : codeIn K cd13 "bits_of" = true) (k13 : keepIn K (.ref f13) = true)
    (a14 : nsIn K mainGlobals "onward_bits" = some (some (.ref f14))) (l14 : K.lookup f14 = some ⟨oc14, od14, .func (fnOf "onward_bits" "onward_bits" (defArgs s_onward_bits) (defBody s_onward_bits) (defScope s_onward_bits) .none kV14 dc14 pm14 an14 cd14 ct14), sl14⟩) (c14 : codeIn K cd14 "onward_bits" = true) (k14 : keepIn K (.ref f14) = true)
    (a15 : nsIn K mainGlobals "rings" = some (some (.ref f15))) (l15 : K.lookup f15 = some ⟨oc15, od15, .func (fnOf "rings" "rings" (defArgs s_rings) (defBody s_rings) (defScope s_rings) .none kV15 dc15 pm15 an15 cd15 ct15), sl15⟩) (c15 : codeIn K cd15 "rings" = true) (k15 : keepIn K (.ref f15) = true)
    (a16 : nsIn K mainGlobals "missed_by" = some (some (.ref f16))) (l16 : K.lookup f16 = some ⟨oc16, od16, .func (fnOf "missed_by" "missed_by" (defArgs s_missed_by) (defBody s_missed_by) (defScope s_missed_by) .none kV16 dc16 pm16 an16 cd16 ct16), sl16⟩) (c16 : codeIn K cd16 "missed_by" = true) (k16 : keepIn K (.ref f16) = true)
    (a17 : nsIn K mainGlobals "fair_rings" = some (some (.ref f17))) (l17 : K.lookup f17 = some ⟨oc17, od17, .func (fnOf "fair_rings" "fair_rings" (defArgs s_fair_rings) (defBody s_fair_rings) (defScope s_fair_rings) .none kV17 dc17 pm17 an17 cd17 ct17), sl17⟩) (c17 : codeIn K cd17 "fair_rings" = true) (k17 : keepIn K (.ref f17) = true)
    (a18 : nsIn K mainGlobals "joined" = some (some (.ref f18))) (l18 : K.lookup f18 = some ⟨oc18, od18, .func (fnOf "joined" "joined" (defArgs s_joined) (defBody s_joined) (defScope s_joined) .none kV18 dc18 pm18 an18 cd18 ct18), sl18⟩) (c18 : codeIn K cd18 "joined" = true) (k18 : keepIn K (.ref f18) = true)
    (a19 : nsIn K mainGlobals "core" = some (some (.ref f19))) (l19 : K.lookup f19 = some ⟨oc19, od19, .func (fnOf "core" "core" (defArgs s_core) (defBody s_core) (defScope s_core) .none kV19 dc19 pm19 an19 cd19 ct19), sl19⟩) (c19 : codeIn K cd19 "core" = true) (k19 : keepIn K (.ref f19) = true)
    (a20 : nsIn K mainGlobals "_law_cell_at" = some (some (.ref f20))) (l20 : K.lookup f20 = some ⟨oc20, od20, .func (fnOf "_law_cell_at" "_law_cell_at" (defArgs s_l_cell_at) (defBody s_l_cell_at) (defScope s_l_cell_at) .none kV20 dc20 pm20 an20 cd20 ct20), sl20⟩) (c20 : codeIn K cd20 "_law_cell_at" = true) (k20 : keepIn K (.ref f20) = true)
    (a21 : nsIn K mainGlobals "_law_whole" = some (some (.ref f21))) (l21 : K.lookup f21 = some ⟨oc21, od21, .func (fnOf "_law_whole" "_law_whole" (defArgs s_l_whole) (defBody s_l_whole) (defScope s_l_whole) .none kV21 dc21 pm21 an21 cd21 ct21), sl21⟩) (c21 : codeIn K cd21 "_law_whole" = true) (k21 : keepIn K (.ref f21) = true)
    (a22 : nsIn K mainGlobals "_law_mix" = some (some (.ref f22))) (l22 : K.lookup f22 = some ⟨oc22, od22, .func (fnOf "_law_mix" "_law_mix" (defArgs s_l_mix) (defBody s_l_mix) (defScope s_l_mix) .none kV22 dc22 pm22 an22 cd22 ct22), sl22⟩) (c22 : codeIn K cd22 "_law_mix" = true) (k22 : keepIn K (.ref f22) = true)
    (a23 : nsIn K mainGlobals "_law_steps_by" = some (some (.ref f23))) (l23 : K.lookup f23 = some ⟨oc23, od23, .func (fnOf "_law_steps_by" "_law_steps_by" (defArgs s_l_steps_by) (defBody s_l_steps_by) (defScope s_l_steps_by) .none kV23 dc23 pm23 an23 cd23 ct23), sl23⟩) (c23 : codeIn K cd23 "_law_steps_by" = true) (k23 : keepIn K (.ref f23) = true)
    (a24 : nsIn K mainGlobals "_law_set_by" = some (some (.ref f24))) (l24 : K.lookup f24 = some ⟨oc24, od24, .func (fnOf "_law_set_by" "_law_set_by" (defArgs s_l_set_by) (defBody s_l_set_by) (defScope s_l_set_by) .none kV24 dc24 pm24 an24 cd24 ct24), sl24⟩) (c24 : codeIn K cd24 "_law_set_by" = true) (k24 : keepIn K (.ref f24) = true)
    (a25 : nsIn K mainGlobals "_law_fair_by" = some (some (.ref f25))) (l25 : K.lookup f25 = some ⟨oc25, od25, .func (fnOf "_law_fair_by" "_law_fair_by" (defArgs s_l_fair_by) (defBody s_l_fair_by) (defScope s_l_fair_by) .none kV25 dc25 pm25 an25 cd25 ct25), sl25⟩) (c25 : codeIn K cd25 "_law_fair_by" = true) (k25 : keepIn K (.ref f25) = true)
    (a26 : nsIn K mainGlobals "_law_small_by" = some (some (.ref f26))) (l26 : K.lookup f26 = some ⟨oc26, od26, .func (fnOf "_law_small_by" "_law_small_by" (defArgs s_l_small_by) (defBody s_l_small_by) (defScope s_l_small_by) .none kV26 dc26 pm26 an26 cd26 ct26), sl26⟩) (c26 : codeIn K cd26 "_law_small_by" = true) (k26 : keepIn K (.ref f26) = true)
    (a27 : nsIn K mainGlobals "_law_line_by" = some (some (.ref f27))) (l27 : K.lookup f27 = some ⟨oc27, od27, .func (fnOf "_law_line_by" "_law_line_by" (defArgs s_l_line_by) (defBody s_l_line_by) (defScope s_l_line_by) .none kV27 dc27 pm27 an27 cd27 ct27), sl27⟩) (c27 : codeIn K cd27 "_law_line_by" = true) (k27 : keepIn K (.ref f27) = true)
    (a28 : nsIn K mainGlobals "_law_reach" = some (some (.ref f28))) (l28 : K.lookup f28 = some ⟨oc28, od28, .func (fnOf "_law_reach" "_law_reach" (defArgs s_l_reach) (defBody s_l_reach) (defScope s_l_reach) .none kV28 dc28 pm28 an28 cd28 ct28), sl28⟩) (c28 : codeIn K cd28 "_law_reach" = true) (k28 : keepIn K (.ref f28) = true)
    (a29 : nsIn K mainGlobals "_law_again" = some (some (.ref f29))) (l29 : K.lookup f29 = some ⟨oc29, od29, .func (fnOf "_law_again" "_law_again" (defArgs s_l_again) (defBody s_l_again) (defScope s_l_again) .none kV29 dc29 pm29 an29 cd29 ct29), sl29⟩) (c29 : codeIn K cd29 "_law_again" = true) (k29 : keepIn K (.ref f29) = true)
    (a30 : nsIn K mainGlobals "_law_meets" = some (some (.ref f30))) (l30 : K.lookup f30 = some ⟨oc30, od30, .func (fnOf "_law_meets" "_law_meets" (defArgs s_l_meets) (defBody s_l_meets) (defScope s_l_meets) .none kV30 dc30 pm30 an30 cd30 ct30), sl30⟩) (c30 : codeIn K cd30 "_law_meets" = true) (k30 : keepIn K (.ref f30) = true)
    (a31 : nsIn K mainGlobals "_law_core" = some (some (.ref f31))) (l31 : K.lookup f31 = some ⟨oc31, od31, .func (fnOf "_law_core" "_law_core" (defArgs s_l_core) (defBody s_l_core) (defScope s_l_core) .none kV31 dc31 pm31 an31 cd31 ct31), sl31⟩) (c31 : codeIn K cd31 "_law_core" = true) (k31 : keepIn K (.ref f31) = true)
    (a32 : nsIn K mainGlobals "law" = some (some (.ref f32))) (l32 : K.lookup f32 = some ⟨oc32, od32, .func (fnOf "law" "law" (defArgs s_law) (defBody s_law) (defScope s_law) .none kV32 dc32 pm32 an32 cd32 ct32), sl32⟩) (c32 : codeIn K cd32 "law" = true) (k32 : keepIn K (.ref f32) = true)
    (aC : nsIn K mainGlobals "Machine" = some (some (.ref C)))
    (aI : findIn K (.ref C) "__init__" = some (some (.ref fI))) (iI : isFn K (.ref fI) = true) (lI : K.lookup fI = some ⟨ocI, odI, .func (fnOf "__init__" "Machine.__init__" (defArgs sInit) (defBody sInit) (defScope sInit) (.ref TD) kVI dcI pmI anI cdI ctI), slI⟩) (cI : codeIn K cdI "Machine.__init__" = true) (kI : keepIn K (.ref fI) = true) (lT : K.lookup TD = some ⟨ocT, odT, .seq #[.none, .none] nT, slT⟩)
    (aM0 : findIn K (.ref C) "many" = some (some (.ref fM0))) (iM0 : isFn K (.ref fM0) = true) (lM0 : K.lookup fM0 = some ⟨ocM0, odM0, .func (fnOf "many" "Machine.many" (defArgs s_Machine_many) (defBody s_Machine_many) (defScope s_Machine_many) .none kVM0 dcM0 pmM0 anM0 cdM0 ctM0), slM0⟩) (cM0 : codeIn K cdM0 "Machine.many" = true) (kM0 : keepIn K (.ref fM0) = true)
    (aM1 : findIn K (.ref C) "next_of" = some (some (.ref fM1))) (iM1 : isFn K (.ref fM1) = true) (lM1 : K.lookup fM1 = some ⟨ocM1, odM1, .func (fnOf "next_of" "Machine.next_of" (defArgs s_Machine_next_of) (defBody s_Machine_next_of) (defScope s_Machine_next_of) .none kVM1 dcM1 pmM1 anM1 cdM1 ctM1), slM1⟩) (cM1 : codeIn K cdM1 "Machine.next_of" = true) (kM1 : keepIn K (.ref fM1) = true)
    (aM2 : findIn K (.ref C) "before" = some (some (.ref fM2))) (iM2 : isFn K (.ref fM2) = true) (lM2 : K.lookup fM2 = some ⟨ocM2, odM2, .func (fnOf "before" "Machine.before" (defArgs s_Machine_before) (defBody s_Machine_before) (defScope s_Machine_before) .none kVM2 dcM2 pmM2 anM2 cdM2 ctM2), slM2⟩) (cM2 : codeIn K cdM2 "Machine.before" = true) (kM2 : keepIn K (.ref fM2) = true)
    (aM3 : findIn K (.ref C) "fair_at" = some (some (.ref fM3))) (iM3 : isFn K (.ref fM3) = true) (lM3 : K.lookup fM3 = some ⟨ocM3, odM3, .func (fnOf "fair_at" "Machine.fair_at" (defArgs s_Machine_fair_at) (defBody s_Machine_fair_at) (defScope s_Machine_fair_at) .none kVM3 dcM3 pmM3 anM3 cdM3 ctM3), slM3⟩) (cM3 : codeIn K cdM3 "Machine.fair_at" = true) (kM3 : keepIn K (.ref fM3) = true)
    (pg : plainGet K C Str.empty = true) (hd : hasDictIn K C = true) (po : plainOver K C = true) (sa : findIn K (.ref C) "__setattr__" = some (some (.builtin "object.__setattr__"))) (mk : makesIn K C = true) (kc : keepIn K (.ref C) = true)
    (nS : findIn K (.ref C) "steps" = some none) (nM : findIn K (.ref C) "marks" = some none) (nF : findIn K (.ref C) "fair" = some none) (nB : findIn K (.ref C) "sources" = some none)
    (vLETTERS : nsIn K mainGlobals "LETTERS" = some (some (.str "abcdefghijklmnopqrstuvwxyz" t_LETTERS))) (vLONGEST_NAME : nsIn K mainGlobals "LONGEST_NAME" = some (some (.int 8 t_LONGEST_NAME))) (vMOST_STANDS : nsIn K mainGlobals "MOST_STANDS" = some (some (.int 60 t_MOST_STANDS))) (vSAYING_WORDS : nsIn K mainGlobals "SAYING_WORDS" = some (some (.ref a_SAYING_WORDS))) (uSAYING_WORDS : K.lookup a_SAYING_WORDS = some ⟨.type "tuple", none, .seq #[.str "all" k_SAYING_WORDS_0, .str "not" k_SAYING_WORDS_1, .str "both" k_SAYING_WORDS_2, .str "either" k_SAYING_WORDS_3, .str "somenext" k_SAYING_WORDS_4, .str "eachnext" k_SAYING_WORDS_5, .str "sometill" k_SAYING_WORDS_6, .str "eachtill" k_SAYING_WORDS_7, .str "someever" k_SAYING_WORDS_8, .str "eachever" k_SAYING_WORDS_9] n_SAYING_WORDS, sl_SAYING_WORDS⟩) (zl : nsIn K mainGlobals "len" = some none) (zr : nsIn K mainGlobals "range" = some none) (zi : nsIn K mainGlobals "isinstance" = some none) (zn : nsIn K mainGlobals "int" = some none) (zb : nsIn K mainGlobals "bool" = some none) (zt : nsIn K mainGlobals "list" = some none) (ze : nsIn K mainGlobals "enumerate" = some none) (ymax : nsIn K mainGlobals "max" = some none) (yall : nsIn K mainGlobals "all" = some none) (ysorted : nsIn K mainGlobals "sorted" = some none) (ystr : nsIn K mainGlobals "str" = some none) (yset : nsIn K mainGlobals "set" = some none)     :
    ∃ fd : FuncData, (∀ (s : Shared) (v : Value), BindsTo s fd ⟨[v], []⟩ [("_law_script", v)]) /\ ∀ base : Heap, K.In base -> base.Ns mainGlobals mg -> FnOk l.prog w K mg base CX0 6 fa fd ["_law_script"] (spLaw K) := by
  have e := hfa.symm.trans (mg_of X G a32)
  cases e
  have B : Bl K mg := ⟨mg_none_of X G zl, mg_none_of X G zr, mg_none_of X G zi, mg_none_of X G zn, mg_none_of X G zb, mg_none_of X G zt, mg_none_of X G ze, ki_ii, ki_ib, ki_ll⟩
  have T : Cl K mg C := ⟨⟨pg, hd, po, sa⟩, nS, nM, nF, nB, mg_of X G aC⟩
  have F1 := yK (st := sSources) l1 c1 k1
  have F2 := yK (st := s_is_stand) l2 c2 k2
  have F3 := yK (st := s_check_stands) l3 c3 k3
  have F4 := yK (st := s_check_steps) l4 c4 k4
  have F5 := yK (st := s_is_name) l5 c5 k5
  have F6 := yK (st := s_check_marks) l6 c6 k6
  have F7 := yK (st := s_check_fair) l7 c7 k7
  have F8 := yK (st := s_copied) l8 c8 k8
  have F9 := yK (st := s_flags) l9 c9 k9
  have F10 := yK (st := s_shared) l10 c10 k10
  have F11 := yK (st := s_distances) l11 c11 k11
  have F12 := yK (st := s_comes_to) l12 c12 k12
  have F13 := yK (st := s_bits_of) l13 c13 k13
  have F14 := yK (st := s_onward_bits) l14 c14 k14
  have F15 := yK (st := s_rings) l15 c15 k15
  have F16 := yK (st := s_missed_by) l16 c16 k16
  have F17 := yK (st := s_fair_rings) l17 c17 k17
  have F18 := yK (st := s_joined) l18 c18 k18
  have F19 := yK (st := s_core) l19 c19 k19
  have F20 := yK (st := s_l_cell_at) l20 c20 k20
  have F21 := yK (st := s_l_whole) l21 c21 k21
  have F22 := yK (st := s_l_mix) l22 c22 k22
  have F23 := yK (st := s_l_steps_by) l23 c23 k23
  have F24 := yK (st := s_l_set_by) l24 c24 k24
  have F25 := yK (st := s_l_fair_by) l25 c25 k25
  have F26 := yK (st := s_l_small_by) l26 c26 k26
  have F27 := yK (st := s_l_line_by) l27 c27 k27
  have F28 := yK (st := s_l_reach) l28 c28 k28
  have F29 := yK (st := s_l_again) l29 c29 k29
  have F30 := yK (st := s_l_meets) l30 c30 k30
  have F31 := yK (st := s_l_core) l31 c31 k31
  have F32 := yK (st := s_law) l32 c32 k32
  have FM0 := yK (st := s_Machine_many) lM0 cM0 kM0
  have FM1 := yK (st := s_Machine_next_of) lM1 cM1 kM1
  have FM2 := yK (st := s_Machine_before) lM2 cM2 kM2
  have FM3 := yK (st := s_Machine_fair_at) lM3 cM3 kM3
  have FI : FunD K "__init__" "Machine.__init__" sInit (.ref TD) fI _ := ⟨⟨ocI, odI, kVI, dcI, pmI, anI, cdI, ctI, slI, rfl, lI, cI⟩, kI⟩
  have b1 := F1.binds (ps := ["steps"]) fun _ _ _ _ _ _ us hl => match us, hl with | [_], _ => rfl
  have b2 := F2.binds (ps := ["thing", "many"]) fun _ _ _ _ _ _ us hl => match us, hl with | [_, _], _ => rfl
  have b3 := F3.binds (ps := ["stands", "many", "where"]) fun _ _ _ _ _ _ us hl => match us, hl with | [_, _, _], _ => rfl
  have b4 := F4.binds (ps := ["steps"]) fun _ _ _ _ _ _ us hl => match us, hl with | [_], _ => rfl
  have b5 := F5.binds (ps := ["name"]) fun _ _ _ _ _ _ us hl => match us, hl with | [_], _ => rfl
  have b6 := F6.binds (ps := ["marks", "many"]) fun _ _ _ _ _ _ us hl => match us, hl with | [_, _], _ => rfl
  have b7 := F7.binds (ps := ["fair", "many"]) fun _ _ _ _ _ _ us hl => match us, hl with | [_, _], _ => rfl
  have b8 := F8.binds (ps := ["lists"]) fun _ _ _ _ _ _ us hl => match us, hl with | [_], _ => rfl
  have b9 := F9.binds (ps := ["machine", "stands"]) fun _ _ _ _ _ _ us hl => match us, hl with | [_, _], _ => rfl
  have b10 := F10.binds (ps := ["one", "other"]) fun _ _ _ _ _ _ us hl => match us, hl with | [_, _], _ => rfl
  have b11 := F11.binds (ps := ["machine", "through", "goal"]) fun _ _ _ _ _ _ us hl => match us, hl with | [_, _, _], _ => rfl
  have b12 := F12.binds (ps := ["machine", "through", "goal"]) fun _ _ _ _ _ _ us hl => match us, hl with | [_, _, _], _ => rfl
  have b13 := F13.binds (ps := ["stands"]) fun _ _ _ _ _ _ us hl => match us, hl with | [_], _ => rfl
  have b14 := F14.binds (ps := ["machine", "within"]) fun _ _ _ _ _ _ us hl => match us, hl with | [_, _], _ => rfl
  have b15 := F15.binds (ps := ["machine", "within"]) fun _ _ _ _ _ _ us hl => match us, hl with | [_, _], _ => rfl
  have b16 := F16.binds (ps := ["machine", "ring"]) fun _ _ _ _ _ _ us hl => match us, hl with | [_, _], _ => rfl
  have b17 := F17.binds (ps := ["machine", "within"]) fun _ _ _ _ _ _ us hl => match us, hl with | [_, _], _ => rfl
  have b18 := F18.binds (ps := ["lists"]) fun _ _ _ _ _ _ us hl => match us, hl with | [_], _ => rfl
  have b19 := F19.binds (ps := ["machine", "within"]) fun _ _ _ _ _ _ us hl => match us, hl with | [_, _], _ => rfl
  have b20 := F20.binds (ps := ["_law_script", "_law_k"]) fun _ _ _ _ _ _ us hl => match us, hl with | [_, _], _ => rfl
  have b21 := F21.binds (ps := ["_law_found"]) fun _ _ _ _ _ _ us hl => match us, hl with | [_], _ => rfl
  have b22 := F22.binds (ps := ["_law_cell", "_law_k"]) fun _ _ _ _ _ _ us hl => match us, hl with | [_, _], _ => rfl
  have b23 := F23.binds (ps := ["_law_script", "_law_many"]) fun _ _ _ _ _ _ us hl => match us, hl with | [_, _], _ => rfl
  have b24 := F24.binds (ps := ["_law_cell", "_law_many", "_law_way"]) fun _ _ _ _ _ _ us hl => match us, hl with | [_, _, _], _ => rfl
  have b25 := F25.binds (ps := ["_law_cell", "_law_many"]) fun _ _ _ _ _ _ us hl => match us, hl with | [_, _], _ => rfl
  have b26 := F26.binds (ps := ["_law_cell"]) fun _ _ _ _ _ _ us hl => match us, hl with | [_], _ => rfl
  have b27 := F27.binds (ps := ["_law_cell", "_law_many"]) fun _ _ _ _ _ _ us hl => match us, hl with | [_, _], _ => rfl
  have b28 := F28.binds (ps := ["_law_steps", "_law_keys", "_law_stand"]) fun _ _ _ _ _ _ us hl => match us, hl with | [_, _, _], _ => rfl
  have b29 := F29.binds (ps := ["_law_steps", "_law_keys", "_law_comes", "_law_stand"]) fun _ _ _ _ _ _ us hl => match us, hl with | [_, _, _, _], _ => rfl
  have b30 := F30.binds (ps := ["_law_fair", "_law_comes", "_law_stand"]) fun _ _ _ _ _ _ us hl => match us, hl with | [_, _, _], _ => rfl
  have b31 := F31.binds (ps := ["_law_steps", "_law_fair", "_law_within"]) fun _ _ _ _ _ _ us hl => match us, hl with | [_, _, _], _ => rfl
  have bM0 := FM0.binds (ps := ["self"]) fun _ _ _ _ _ _ us hl => match us, hl with | [_], _ => rfl
  have bM1 := FM1.binds (ps := ["self", "stand"]) fun _ _ _ _ _ _ us hl => match us, hl with | [_, _], _ => rfl
  have bM2 := FM2.binds (ps := ["self", "stand"]) fun _ _ _ _ _ _ us hl => match us, hl with | [_, _], _ => rfl
  have bM3 := FM3.binds (ps := ["self", "number"]) fun _ _ _ _ _ _ us hl => match us, hl with | [_, _], _ => rfl
  have bI0 : Binds K (fnOf "__init__" "Machine.__init__" (defArgs sInit) (defBody sInit) (defScope sInit) (.ref TD) kVI dcI pmI anI cdI ctI) ["self", "steps", "marks", "fair"] [] := fun s us KX hl => by
    have h2 : us.length = 4 := by
      rw [List.length_append] at hl
      have : ([] : List Value).length = 0 := rfl
      have h4 : (["self", "steps", "marks", "fair"] : List Str).length = 4 := rfl
      omega
    match us, h2 with
    | [u0, u1, u2, u3], _ => exact BindsTo.of_defaults rfl (KX _ _ lT) rfl rfl rfl
  refine ⟨fnOf "law" "law" (defArgs s_law) (defBody s_law) (defScope s_law) .none kV32 dc32 pm32 an32 cd32 ct32, fun s v => .of_eq rfl, fun base _ _ => ?_⟩
  have h_SAYING_WORDS : ∀ H : Hp, SqT K H a_SAYING_WORDS ((["all", "not", "both", "either", "somenext", "eachnext", "sometill", "eachtill", "someever", "eachever"] : List Str).map V.str) := fun H => .inr ⟨_, _, _, uSAYING_WORDS, rfl, rfl, (by show 10 <= sizeLine; decide), by repeat (first | exact Paired.nil | refine Paired.cons ⟨_, rfl⟩ ?_)⟩
  have O_so := ok_soG (P := l.prog) (w := w) (base := base) F1 B
  have O_is_stand := ok_is_stand (P := l.prog) (w := w) (base := base) (k := 0) F2 B
  have C_is_stand : Cal l.prog w K mg base 1 "is_stand" ["thing", "many"] (spF K false (fun a : Int × Int × Unit => ([.fz false a.1, .fz false a.2.1] : List (Slot K))) (fun a => wG a.1 a.2.1)) := ⟨_, _, O_is_stand, b2, k2, mg_of X G a2⟩
  have O_check_stands := ok_check_stands (P := l.prog) (w := w) (base := base) (k := 1) F3 B (C_is_stand.mono (by decide))
  have C_check_stands : Cal l.prog w K mg base 2 "check_stands" ["stands", "many", "where"] (spF K false (fun a : ((List Int)) × Int × Str × Unit => ([.fz false a.1, .fz false a.2.1, .fz false a.2.2.1] : List (Slot K))) (fun a => zY a.1 a.2.1 a.2.2.1)) := ⟨_, _, O_check_stands, b3, k3, mg_of X G a3⟩
  have O_check_steps := ok_check_steps (P := l.prog) (w := w) (base := base) (k := 2) F4 B (mg_of X G vMOST_STANDS) (C_check_stands.mono (by decide))
  have C_check_steps : Cal l.prog w K mg base 3 "check_steps" ["steps"] (spF K false (fun a : ((List (List Int))) × Unit => ([.fz false a.1] : List (Slot K))) (fun a => xO a.1)) := ⟨_, _, O_check_steps, b4, k4, mg_of X G a4⟩
  have O_is_name := ok_is_name (P := l.prog) (w := w) (base := base) (k := 0) F5 B (mg_of X G vLETTERS) (mg_of X G vLONGEST_NAME) (mg_of X G vSAYING_WORDS) h_SAYING_WORDS (mg_none_of X G yall) (mg_none_of X G ystr)
  have C_is_name : Cal l.prog w K mg base 1 "is_name" ["name"] (spF K false (fun a : Str × Unit => ([.fz false a.1] : List (Slot K))) (fun a => vN a.1)) := ⟨_, _, O_is_name, b5, k5, mg_of X G a5⟩
  have O_check_marks := ok_check_marks (P := l.prog) (w := w) (base := base) (k := 2) F6 B (C_check_stands.mono (by decide)) (C_is_name.mono (by decide))
  have C_check_marks : Cal l.prog w K mg base 3 "check_marks" ["marks", "many"] (spF K false (fun a : ((List (Str × (List Int)))) × Int × Unit => ([.fz false a.1, .fz false a.2.1] : List (Slot K))) (fun a => xP a.1 a.2.1)) := ⟨_, _, O_check_marks, b6, k6, mg_of X G a6⟩
  have O_check_fair := ok_check_fair (P := l.prog) (w := w) (base := base) (k := 2) F7 B (C_check_stands.mono (by decide))
  have C_check_fair : Cal l.prog w K mg base 3 "check_fair" ["fair", "many"] (spF K false (fun a : ((List (List Int))) × Int × Unit => ([.fz false a.1, .fz false a.2.1] : List (Slot K))) (fun a => wD a.1 a.2.1)) := ⟨_, _, O_check_fair, b7, k7, mg_of X G a7⟩
  have O_copied := ok_copied (P := l.prog) (w := w) (base := base) (k := 0) F8 B
  have C_copied : Cal l.prog w K mg base 1 "copied" ["lists"] (spF K false (fun a : ((List (List Int))) × Unit => ([.fz false a.1] : List (Slot K))) (fun a => vV a.1)) := ⟨_, _, O_copied, b8, k8, mg_of X G a8⟩
  have C_so : Cal l.prog w K mg base 1 "sources_of" ["steps"] (spF K false (fun a : LLI × Unit => ([.fz false a.1] : List (Slot K))) fun a => fSo a.1) := ⟨_, _, O_so, b1, k1, mg_of X G a1⟩
  have OI : FnOk l.prog w K mg base CX0 4 fI _ ["self", "steps", "marks", "fair"] (spInG K C (mkK C)) := ok_inG (k := 3) FI T B (C_check_steps.mono (by decide)) (C_check_marks.mono (by decide)) (C_check_fair.mono (by decide)) (C_copied.mono (by decide)) (C_so.mono (by decide))
  have O_Machine_many := ok_Machine_many (P := l.prog) (w := w) (base := base) (k := 0) (C := C) FM0 B T
  have C_Machine_many : CalM l.prog w K mg base 1 C "many" ["self"] (spF K false (fun a : ((Mach C)) × Unit => ([.fz false a.1] : List (Slot K))) (fun a => zZ a.1)) := ⟨⟨_, _, O_Machine_many, bM0, ⟨aM0, iM0, kM0⟩⟩, T.cl⟩
  have O_Machine_next_of := ok_Machine_next_of (P := l.prog) (w := w) (base := base) (k := 0) (C := C) FM1 B T (mg_none_of X G ysorted)
  have C_Machine_next_of : CalM l.prog w K mg base 1 C "next_of" ["self", "stand"] (spF K false (fun a : ((Mach C)) × Int × Unit => ([.fz false a.1, .fz false a.2.1] : List (Slot K))) (fun a => yF a.1 a.2.1)) := ⟨⟨_, _, O_Machine_next_of, bM1, ⟨aM1, iM1, kM1⟩⟩, T.cl⟩
  have O_Machine_before := ok_Machine_before (P := l.prog) (w := w) (base := base) (k := 0) (C := C) FM2 B T
  have C_Machine_before : CalM l.prog w K mg base 1 C "before" ["self", "stand"] (spF K false (fun a : ((Mach C)) × Int × Unit => ([.fz false a.1, .fz false a.2.1] : List (Slot K))) (fun a => yN a.1 a.2.1)) := ⟨⟨_, _, O_Machine_before, bM2, ⟨aM2, iM2, kM2⟩⟩, T.cl⟩
  have O_Machine_fair_at := ok_Machine_fair_at (P := l.prog) (w := w) (base := base) (k := 0) (C := C) FM3 B T (mg_none_of X G ysorted)
  have C_Machine_fair_at : CalM l.prog w K mg base 1 C "fair_at" ["self", "number"] (spF K false (fun a : ((Mach C)) × Int × Unit => ([.fz false a.1, .fz false a.2.1] : List (Slot K))) (fun a => yH a.1 a.2.1)) := ⟨⟨_, _, O_Machine_fair_at, bM3, ⟨aM3, iM3, kM3⟩⟩, T.cl⟩
  have O_flags := ok_flags (P := l.prog) (w := w) (base := base) (k := 1) (C := C) F9 B (C_Machine_many.mono (by decide))
  have C_flags : Cal l.prog w K mg base 2 "flags" ["machine", "stands"] (spF K false (fun a : ((Mach C)) × ((List Int)) × Unit => ([.fz false a.1, .fz false a.2.1] : List (Slot K))) (fun a => uX a.1 a.2.1)) := ⟨_, _, O_flags, b9, k9, mg_of X G a9⟩
  have O_shared := ok_shared (P := l.prog) (w := w) (base := base) (k := 0) F10 B (mg_none_of X G ysorted) (mg_none_of X G yset)
  have C_shared : Cal l.prog w K mg base 1 "shared" ["one", "other"] (spF K false (fun a : ((List Int)) × ((List Int)) × Unit => ([.fz false a.1, .fz false a.2.1] : List (Slot K))) (fun a => wX a.1 a.2.1)) := ⟨_, _, O_shared, b10, k10, mg_of X G a10⟩
  have O_distances := ok_distances (P := l.prog) (w := w) (base := base) (k := 2) (C := C) F11 B (C_Machine_before.mono (by decide)) (C_Machine_many.mono (by decide)) (C_flags.mono (by decide))
  have C_distances : Cal l.prog w K mg base 3 "distances" ["machine", "through", "goal"] (spF K false (fun a : ((Mach C)) × ((List Int)) × ((List Int)) × Unit => ([.fz false a.1, .fz false a.2.1, .fz false a.2.2.1] : List (Slot K))) (fun a => xZ a.1 a.2.1 a.2.2.1)) := ⟨_, _, O_distances, b11, k11, mg_of X G a11⟩
  have O_comes_to := ok_comes_to (P := l.prog) (w := w) (base := base) (k := 3) (C := C) F12 B (C_distances.mono (by decide))
  have C_comes_to : Cal l.prog w K mg base 4 "comes_to" ["machine", "through", "goal"] (spF K false (fun a : ((Mach C)) × ((List Int)) × ((List Int)) × Unit => ([.fz false a.1, .fz false a.2.1, .fz false a.2.2.1] : List (Slot K))) (fun a => wC a.1 a.2.1 a.2.2.1)) := ⟨_, _, O_comes_to, b12, k12, mg_of X G a12⟩
  have O_bits_of := ok_bits_of (P := l.prog) (w := w) (base := base) (k := 0) F13 B
  have C_bits_of : Cal l.prog w K mg base 1 "bits_of" ["stands"] (spF K false (fun a : ((List Int)) × Unit => ([.fz false a.1] : List (Slot K))) (fun a => wL a.1)) := ⟨_, _, O_bits_of, b13, k13, mg_of X G a13⟩
  have O_onward_bits := ok_onward_bits (P := l.prog) (w := w) (base := base) (k := 1) (C := C) F14 B (C_Machine_many.mono (by decide)) (C_Machine_next_of.mono (by decide)) (C_bits_of.mono (by decide))
  have C_onward_bits : Cal l.prog w K mg base 2 "onward_bits" ["machine", "within"] (spF K false (fun a : ((Mach C)) × ((List Int)) × Unit => ([.fz false a.1, .fz false a.2.1] : List (Slot K))) (fun a => xB a.1 a.2.1)) := ⟨_, _, O_onward_bits, b14, k14, mg_of X G a14⟩
  have O_rings := ok_rings (P := l.prog) (w := w) (base := base) (k := 2) (C := C) F15 B (mg_none_of X G ysorted) (mg_none_of X G yset) (C_onward_bits.mono (by decide))
  have C_rings : Cal l.prog w K mg base 3 "rings" ["machine", "within"] (spF K false (fun a : ((Mach C)) × ((List Int)) × Unit => ([.fz false a.1, .fz false a.2.1] : List (Slot K))) (fun a => uW a.1 a.2.1)) := ⟨_, _, O_rings, b15, k15, mg_of X G a15⟩
  have O_missed_by := ok_missed_by (P := l.prog) (w := w) (base := base) (k := 1) (C := C) F16 B T (C_Machine_fair_at.mono (by decide)) (C_shared.mono (by decide))
  have C_missed_by : Cal l.prog w K mg base 2 "missed_by" ["machine", "ring"] (spF K false (fun a : ((Mach C)) × ((List Int)) × Unit => ([.fz false a.1, .fz false a.2.1] : List (Slot K))) (fun a => xX a.1 a.2.1)) := ⟨_, _, O_missed_by, b16, k16, mg_of X G a16⟩
  have O_fair_rings := ok_fair_rings (P := l.prog) (w := w) (base := base) (k := 3) (C := C) F17 B (C_missed_by.mono (by decide)) (C_rings.mono (by decide))
  have C_fair_rings : Cal l.prog w K mg base 4 "fair_rings" ["machine", "within"] (spF K false (fun a : ((Mach C)) × ((List Int)) × Unit => ([.fz false a.1, .fz false a.2.1] : List (Slot K))) (fun a => xN a.1 a.2.1)) := ⟨_, _, O_fair_rings, b17, k17, mg_of X G a17⟩
  have O_joined := ok_joined (P := l.prog) (w := w) (base := base) (k := 0) F18 B
  have C_joined : Cal l.prog w K mg base 1 "joined" ["lists"] (spF K false (fun a : ((List (List Int))) × Unit => ([.fz false a.1] : List (Slot K))) (fun a => wY a.1)) := ⟨_, _, O_joined, b18, k18, mg_of X G a18⟩
  have O_core := ok_core (P := l.prog) (w := w) (base := base) (k := 4) (C := C) F19 B (C_comes_to.mono (by decide)) (C_fair_rings.mono (by decide)) (C_joined.mono (by decide))
  have C_core : Cal l.prog w K mg base 5 "core" ["machine", "within"] (spF K false (fun a : ((Mach C)) × ((List Int)) × Unit => ([.fz false a.1, .fz false a.2.1] : List (Slot K))) (fun a => p_core a.1 a.2.1)) := ⟨_, _, O_core, b19, k19, mg_of X G a19⟩
  have O_l_cell_at := ok_l_cell_at (P := l.prog) (w := w) (base := base) (k := 0) F20 B
  have C_l_cell_at : Cal l.prog w K mg base 1 "_law_cell_at" ["_law_script", "_law_k"] (spF K false (fun a : Scr × Int × Unit => ([.fz false a.1, .fz false a.2.1] : List (Slot K))) (fun a => zW a.1 a.2.1)) := ⟨_, _, O_l_cell_at, b20, k20, mg_of X G a20⟩
  have O_l_whole := ok_l_whole (P := l.prog) (w := w) (base := base) (k := 0) F21 B
  have C_l_whole : Cal l.prog w K mg base 1 "_law_whole" ["_law_found"] (spF K false (fun a : Int × Unit => ([.fz false a.1] : List (Slot K))) (fun a => vL a.1)) := ⟨_, _, O_l_whole, b21, k21, mg_of X G a21⟩
  have O_l_mix := ok_l_mix (P := l.prog) (w := w) (base := base) (k := 0) F22 B
  have C_l_mix : Cal l.prog w K mg base 1 "_law_mix" ["_law_cell", "_law_k"] (spF K false (fun a : Int × Int × Unit => ([.fz false a.1, .fz false a.2.1] : List (Slot K))) (fun a => yX a.1 a.2.1)) := ⟨_, _, O_l_mix, b22, k22, mg_of X G a22⟩
  have O_l_steps_by := ok_l_steps_by (P := l.prog) (w := w) (base := base) (k := 1) F23 B (mg_none_of X G ymax) (C_l_cell_at.mono (by decide)) (C_l_mix.mono (by decide))
  have C_l_steps_by : Cal l.prog w K mg base 2 "_law_steps_by" ["_law_script", "_law_many"] (spF K false (fun a : Scr × Int × Unit => ([.fz false a.1, .fz false a.2.1] : List (Slot K))) (fun a => xK a.1 a.2.1)) := ⟨_, _, O_l_steps_by, b23, k23, mg_of X G a23⟩
  have O_l_set_by := ok_l_set_by (P := l.prog) (w := w) (base := base) (k := 1) F24 B (C_l_mix.mono (by decide))
  have C_l_set_by : Cal l.prog w K mg base 2 "_law_set_by" ["_law_cell", "_law_many", "_law_way"] (spF K false (fun a : Int × Int × Int × Unit => ([.fz false a.1, .fz false a.2.1, .fz false a.2.2.1] : List (Slot K))) (fun a => wB a.1 a.2.1 a.2.2.1)) := ⟨_, _, O_l_set_by, b24, k24, mg_of X G a24⟩
  have O_l_fair_by := ok_l_fair_by (P := l.prog) (w := w) (base := base) (k := 1) F25 B (C_l_mix.mono (by decide))
  have C_l_fair_by : Cal l.prog w K mg base 2 "_law_fair_by" ["_law_cell", "_law_many"] (spF K false (fun a : Int × Int × Unit => ([.fz false a.1, .fz false a.2.1] : List (Slot K))) (fun a => xY a.1 a.2.1)) := ⟨_, _, O_l_fair_by, b25, k25, mg_of X G a25⟩
  have O_l_small_by := ok_l_small_by (P := l.prog) (w := w) (base := base) (k := 0) F26 B
  have C_l_small_by : Cal l.prog w K mg base 1 "_law_small_by" ["_law_cell"] (spF K false (fun a : Int × Unit => ([.fz false a.1] : List (Slot K))) (fun a => xL a.1)) := ⟨_, _, O_l_small_by, b26, k26, mg_of X G a26⟩
  have O_l_line_by := ok_l_line_by (P := l.prog) (w := w) (base := base) (k := 1) F27 B (C_l_mix.mono (by decide))
  have C_l_line_by : Cal l.prog w K mg base 2 "_law_line_by" ["_law_cell", "_law_many"] (spF K false (fun a : Int × Int × Unit => ([.fz false a.1, .fz false a.2.1] : List (Slot K))) (fun a => xM a.1 a.2.1)) := ⟨_, _, O_l_line_by, b27, k27, mg_of X G a27⟩
  have O_l_reach := ok_l_reach (P := l.prog) (w := w) (base := base) (k := 0) F28 B
  have C_l_reach : Cal l.prog w K mg base 1 "_law_reach" ["_law_steps", "_law_keys", "_law_stand"] (spF K false (fun a : ((List (List Int))) × ((List Int)) × Int × Unit => ([.fz false a.1, .fz false a.2.1, .fz false a.2.2.1] : List (Slot K))) (fun a => wS a.1 a.2.1 a.2.2.1)) := ⟨_, _, O_l_reach, b28, k28, mg_of X G a28⟩
  have O_l_again := ok_l_again (P := l.prog) (w := w) (base := base) (k := 0) F29 B
  have C_l_again : Cal l.prog w K mg base 1 "_law_again" ["_law_steps", "_law_keys", "_law_comes", "_law_stand"] (spF K false (fun a : ((List (List Int))) × ((List Int)) × ((Dc (Dc Bool))) × Int × Unit => ([.fz false a.1, .fz false a.2.1, .fz false a.2.2.1, .fz false a.2.2.2.1] : List (Slot K))) (fun a => wU a.1 a.2.1 a.2.2.1 a.2.2.2.1)) := ⟨_, _, O_l_again, b29, k29, mg_of X G a29⟩
  have O_l_meets := ok_l_meets (P := l.prog) (w := w) (base := base) (k := 0) F30 B
  have C_l_meets : Cal l.prog w K mg base 1 "_law_meets" ["_law_fair", "_law_comes", "_law_stand"] (spF K false (fun a : ((List (List Int))) × ((Dc (Dc Bool))) × Int × Unit => ([.fz false a.1, .fz false a.2.1, .fz false a.2.2.1] : List (Slot K))) (fun a => wT a.1 a.2.1 a.2.2.1)) := ⟨_, _, O_l_meets, b30, k30, mg_of X G a30⟩
  have O_l_core := ok_l_core (P := l.prog) (w := w) (base := base) (k := 1) F31 B (C_l_again.mono (by decide)) (C_l_meets.mono (by decide)) (C_l_reach.mono (by decide))
  have C_l_core : Cal l.prog w K mg base 2 "_law_core" ["_law_steps", "_law_fair", "_law_within"] (spF K false (fun a : ((List (List Int))) × ((List (List Int))) × ((List Int)) × Unit => ([.fz false a.1, .fz false a.2.1, .fz false a.2.2.1] : List (Slot K))) (fun a => vT a.1 a.2.1 a.2.2.1)) := ⟨_, _, O_l_core, b31, k31, mg_of X G a31⟩
  have O_law := ok_law (P := l.prog) (w := w) (base := base) (k0 := 4) (C := C) F32 B T ⟨mk, aI, iI, kc⟩ (OI.mono (by decide)) bI0 (C_l_cell_at.mono (by decide)) (C_l_core.mono (by decide)) (C_l_fair_by.mono (by decide)) (C_l_line_by.mono (by decide)) (C_l_set_by.mono (by decide)) (C_l_small_by.mono (by decide)) (C_l_steps_by.mono (by decide)) (C_l_whole.mono (by decide)) (C_core.mono (by decide))
  refine O_law.imp fun vs H Q E h => ?_
  obtain ⟨a, ns, rfl, hS, h63, hQ⟩ := h
  obtain ⟨b, e1, e2⟩ := law_true C ⟨ns⟩
  subst e2
  exact ⟨(⟨ns⟩, ()), true, H, .refl _, e1, .cons ⟨a, rfl, hS⟩ .nil, fun v H' _ r => by cases r; exact hQ H'⟩
theorem walk {l : PySem.W.OpenLaw} {q : Program} {loose : List Str} {XP : (Str -> Option Value) -> Heap -> Prop} {YP : World -> Heap -> Prop} {d : DefRec} {K : Params -> PySem.W.Frag} (hn : l.most = some 63) (hdf : d.params.defaults = [])
    (hY : ∀ (w : World) (h : Heap), YP w h -> (K w.params).In h)
    (F : ∀ (w : World) (mg : Str -> Option Value) (fa : Addr) (h : Heap), (K w.params).In h -> h.Ns mainGlobals mg -> mg d.name = some (.ref fa) ->
      ∃ fd : FuncData, (∀ (s : Shared) (u : Value), BindsTo s fd ⟨[u], []⟩ [("_law_script", u)]) /\ ∀ base : Heap, (K w.params).In base -> base.Ns mainGlobals mg -> FnOk l.prog w (K w.params) mg base CX0 6 fa fd ["_law_script"] (spLaw (K w.params))) :
    PySem.W.WalkO q loose XP YP l.row.toRowW d [] (fun f vs => PySem.call f vs) :=
  L2.walk_of (n := 63) (k := 6) (x := "_law_script") (CX := fun _ => CX0) (sp := fun w => spLaw (K w.params)) hn (by decide) hdf ⟨rfl, by decide, by decide⟩ hY F (fun _ _ a ns hl _ hS => ⟨a, ns, rfl, hS, hl, fun _ => rfl⟩) fun _ _ _ _ _ z => z
end Ts
theorem PySem.W.Fast.tw3931602293257156100 : True := trivial
theorem PySem.W.Fast.tw9236353833883864492 : True := trivial
theorem PySem.W.Fast.tw6525618796749755981 : True := trivial
theorem PySem.W.Fast.tw11617508027460622497 : True := trivial
theorem PySem.W.Fast.tw9669869015400978059 : True := trivial
theorem PySem.W.Fast.tw9910303943487402030 : True := trivial
open PySem PySem.W PyProof.Rows
set_option maxRecDepth 100000 in
set_option maxHeartbeats 0 in
theorem PySem.Challenge.cw_treesay_k36_the_core_by_closure_holds : PySem.Challenge.rw_treesay_k36_the_core_by_closure.Holds := by
  w_on; o_law; k_head; (case hw => w_witness2)
  k_fill
  refine Ts.walk (l := PySem.Challenge.rw_treesay_k36_the_core_by_closure) rfl rfl (fun w h Y => PySem.W.kIn_of Y) ?F
  case F =>
    intro w mg fa h KX G hmg
    refine' Ts.all_mk KX G hmg ?a1 ?l1 ?c1 ?k1 ?a2 ?l2 ?c2 ?k2 ?a3 ?l3 ?c3 ?k3 ?a4 ?l4 ?c4 ?k4 ?a5 ?l5 ?c5 ?k5 ?a6 ?l6 ?c6 ?k6 ?a7 ?l7 ?c7 ?k7 ?a8 ?l8 ?c8 ?k8 ?a9 ?l9 ?c9 ?k9 ?a10 ?l10 ?c10 ?k10 ?a11 ?l11 ?c11 ?k11 ?a12 ?l12 ?c12 ?k12 ?a13 ?l13 ?c13 ?k13 ?a14 ?l14 ?c14 ?k14 ?a15 ?l15 ?c15 ?k15 ?a16 ?l16 ?c16 ?k16 ?a17 ?l17 ?c17 ?k17 ?a18 ?l18 ?c18 ?k18 ?a19 ?l19 ?c19 ?k19 ?a20 ?l20 ?c20 ?k20 ?a21 ?l21 ?c21 ?k21 ?a22 ?l22 ?c22 ?k22 ?a23 ?l23 ?c23 ?k23 ?a24 ?l24 ?c24 ?k24 ?a25 ?l25 ?c25 ?k25 ?a26 ?l26 ?c26 ?k26 ?a27 ?l27 ?c27 ?k27 ?a28 ?l28 ?c28 ?k28 ?a29 ?l29 ?c29 ?k29 ?a30 ?l30 ?c30 ?k30 ?a31 ?l31 ?c31 ?k31 ?a32 ?l32 ?c32 ?k32 ?aC ?aI ?iI ?lI ?cI ?kI ?lT ?aM0 ?iM0 ?lM0 ?cM0 ?kM0 ?aM1 ?iM1 ?lM1 ?cM1 ?kM1 ?aM2 ?iM2 ?lM2 ?cM2 ?kM2 ?aM3 ?iM3 ?lM3 ?cM3 ?kM3 ?pg ?hd ?po ?sa ?mk ?kc ?nS ?nM ?nF ?nB ?vLETTERS ?vLONGEST_NAME ?vMOST_STANDS ?vSAYING_WORDS ?uSAYING_WORDS ?zl ?zr ?zi ?zn ?zb ?zt ?ze ?ymax ?yall ?ysorted ?ystr ?yset
    (case a1 => k_is)
    (case l1 => k_is)
    (case c1 => k_is)
    (case k1 => k_is)
    (case a2 => k_is)
    (case l2 => k_is)
    (case c2 => k_is)
    (case k2 => k_is)
    (case a3 => k_is)
    (case l3 => k_is)
    (case c3 => k_is)
    (case k3 => k_is)
    (case a4 => k_is)
    (case l4 => k_is)
    (case c4 => k_is)
    (case k4 => k_is)
    (case a5 => k_is)
    (case l5 => k_is)
    (case c5 => k_is)
    (case k5 => k_is)
    (case a6 => k_is)
    (case l6 => k_is)
    (case c6 => k_is)
    (case k6 => k_is)
    (case a7 => k_is)
    (case l7 => k_is)
    (case c7 => k_is)
    (case k7 => k_is)
    (case a8 => k_is)
    (case l8 => k_is)
    (case c8 => k_is)
    (case k8 => k_is)
    (case a9 => k_is)
    (case l9 => k_is)
    (case c9 => k_is)
    (case k9 => k_is)
    (case a10 => k_is)
    (case l10 => k_is)
    (case c10 => k_is)
    (case k10 => k_is)
    (case a11 => k_is)
    (case l11 => k_is)
    (case c11 => k_is)
    (case k11 => k_is)
    (case a12 => k_is)
    (case l12 => k_is)
    (case c12 => k_is)
    (case k12 => k_is)
    (case a13 => k_is)
    (case l13 => k_is)
    (case c13 => k_is)
    (case k13 => k_is)
    (case a14 => k_is)
    (case l14 => k_is)
    (case c14 => k_is)
    (case k14 => k_is)
    (case a15 => k_is)
    (case l15 => k_is)
    (case c15 => k_is)
    (case k15 => k_is)
    (case a16 => k_is)
    (case l16 => k_is)
    (case c16 => k_is)
    (case k16 => k_is)
    (case a17 => k_is)
    (case l17 => k_is)
    (case c17 => k_is)
    (case k17 => k_is)
    (case a18 => k_is)
    (case l18 => k_is)
    (case c18 => k_is)
    (case k18 => k_is)
    (case a19 => k_is)
    (case l19 => k_is)
    (case c19 => k_is)
    (case k19 => k_is)
    (case a20 => k_is)
    (case l20 => k_is)
    (case c20 => k_is)
    (case k20 => k_is)
    (case a21 => k_is)
    (case l21 => k_is)
    (case c21 => k_is)
    (case k21 => k_is)
    (case a22 => k_is)
    (case l22 => k_is)
    (case c22 => k_is)
    (case k22 => k_is)
    (case a23 => k_is)
    (case l23 => k_is)
    (case c23 => k_is)
    (case k23 => k_is)
    (case a24 => k_is)
    (case l24 => k_is)
    (case c24 => k_is)
    (case k24 => k_is)
    (case a25 => k_is)
    (case l25 => k_is)
    (case c25 => k_is)
    (case k25 => k_is)
    (case a26 => k_is)
    (case l26 => k_is)
    (case c26 => k_is)
    (case k26 => k_is)
    (case a27 => k_is)
    (case l27 => k_is)
    (case c27 => k_is)
    (case k27 => k_is)
    (case a28 => k_is)
    (case l28 => k_is)
    (case c28 => k_is)
    (case k28 => k_is)
    (case a29 => k_is)
    (case l29 => k_is)
    (case c29 => k_is)
    (case k29 => k_is)
    (case a30 => k_is)
    (case l30 => k_is)
    (case c30 => k_is)
    (case k30 => k_is)
    (case a31 => k_is)
    (case l31 => k_is)
    (case c31 => k_is)
    (case k31 => k_is)
    (case a32 => k_is)
    (case l32 => k_is)
    (case c32 => k_is)
    (case k32 => k_is)
    (case aC => k_is)
    (case aI => k_is)
    (case iI => k_is)
    (case lI => k_is)
    (case cI => k_is)
    (case kI => k_is)
    (case lT => k_is)
    (case aM0 => k_is)
    (case iM0 => k_is)
    (case lM0 => k_is)
    (case cM0 => k_is)
    (case kM0 => k_is)
    (case aM1 => k_is)
    (case iM1 => k_is)
    (case lM1 => k_is)
    (case cM1 => k_is)
    (case kM1 => k_is)
    (case aM2 => k_is)
    (case iM2 => k_is)
    (case lM2 => k_is)
    (case cM2 => k_is)
    (case kM2 => k_is)
    (case aM3 => k_is)
    (case iM3 => k_is)
    (case lM3 => k_is)
    (case cM3 => k_is)
    (case kM3 => k_is)
    (case pg => k_is)
    (case hd => k_is)
    (case po => k_is)
    (case sa => k_is)
    (case mk => k_is)
    (case kc => k_is)
    (case nS => k_is)
    (case nM => k_is)
    (case nF => k_is)
    (case nB => k_is)
    (case vLETTERS => k_is)
    (case vLONGEST_NAME => k_is)
    (case vMOST_STANDS => k_is)
    (case vSAYING_WORDS => k_is)
    (case uSAYING_WORDS => k_is)
    (case zl => k_is)
    (case zr => k_is)
    (case zi => k_is)
    (case zn => k_is)
    (case zb => k_is)
    (case zt => k_is)
    (case ze => k_is)
    (case ymax => k_is)
    (case yall => k_is)
    (case ysorted => k_is)
    (case ystr => k_is)
    (case yset => k_is)