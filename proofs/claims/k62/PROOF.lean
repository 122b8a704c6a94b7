import PyProof.Rows.All
import Wide.All
import OpenK.AllK
import Wide.FinOn
import Lean
import PyProof.EqAt
import PyProof.EqKinds
import PyProof.TupleCall
import PyProof.NeKinds
import PyProof.EnumStmt
import PyProof.EnumMake
import PyProof.CompFree
import PyProof.Rows.FStr
import PySem.Challenge.RW_treesay_k62_partings_fall
open PySem.W (instObj methodObj lookIn plainGet hasDictIn findIn plainGet_of isFn takerIn emptyDict specialIn keepIn kitOne kia_one callWith_K cellsFrom_some fnOf codeIn kitCls nsIn mg_of)
open List (mem_filter mem_range filterMap_cons mem_cons_self mem_cons_of_mem mem_cons mem_append mem_append_left getElem_inj getElem?_set_self getElem?_set_ne mem_append_right size_toArray length_cons map_cons length_map append_nil nodup_cons of_mem_zip replicate length length_take getElem?_append_right getElem?_replicate getElem?_append_left getElem?_map getElem?_take_of_lt mem_of_getElem? length_append find?_cons any_cons length_nil map_nil all_cons reverse_cons length_singleton length_dropLast Pairwise forIn_cons lookup_cons forIn_nil all_eq_true lookup_append getD_eq_getElem?_getD toArray getElem?_cons_zero map_append mem_map any_append take_append_drop take_add_one take_length getElem?_range length_range nil_append range_succ_eq_map range_succ filter_cons length_filter_le mem_iff_getElem? nodup_nil mem_singleton nodup_append getElem_of_mem getElem_mem Perm pairwise_cons find?_eq_none getElem?_toArray pairwise_map pairwise_lt_range pairwise_iff_getElem length_eq_zero_iff length_eraseIdx append_assoc ext_getElem? map_map filterMap not_lt rel_of_pairwise_cons idxOf_cons set_set perm_ext_iff_of_nodup length_pos_iff idxOf map_id' idxOf_lt_length_iff)
open PySem.Heap (lt_size SameBut get?_push_of_some get?_push_size size_push get?_update_other get?_update_self)
open Array (length_toList getElem?_toList toArray_toList forIn_toList size_map)
open PySem.SetTable (insertAt probe grown fits eraseAt)
set_option Elab.async false
set_option linter.all false
set_option maxRecDepth 100000
abbrev LI:=List Int
namespace L2
open PySem PySem.Spec PyProof.Rows
abbrev Key:=Sum Int Str
def zMs:Key->Value->Bool
 | .inl k,v=>Value.isInt k v
 | .inr x,v=>Value.isStrOf x v
def keyH (w:World):Key->Int
 | .inl k=>hashInt k
 | .inr x=>hashStr w x
theorem xB:∀ {k:Key} {v:Value},zMs k v = true->(∃ i t,k = Sum.inl i /\ v = Value.int i t) \/ (∃ x t,k = Sum.inr x /\ v = Value.str x t)
 | .inl i,v,h=>by
  obtain ⟨t,e⟩:=Value.isInt_shape (k:=i) (v:=v) h
  exact .inl ⟨i,t,rfl,e⟩
 | .inr x,v,h=>by
  obtain ⟨t,e⟩:=Value.isStrOf_shape (x:=x) (v:=v) h
  exact .inr ⟨x,t,rfl,e⟩
theorem zPh (i:Int) (t:Tok):zMs (.inl i) (.int i t) = true:=by simp [zMs,Value.isInt]
theorem zPg (x:Str) (t:Tok):zMs (.inr x) (.str x t) = true:=by simp [zMs,Value.isStrOf]
theorem key_ll (a b:Int):decide ((Sum.inl a:Key) = Sum.inl b) = (a == b):=by
 by_cases e:a = b
 ·subst e; simp
 ·have h:¬ (Sum.inl a:Key) = Sum.inl b:=λq=>e (Sum.inl.inj q)
  rw [decide_eq_false h]
  exact (beq_eq_false_iff_ne.mpr e).symm
theorem key_rr (a b:Str):decide ((Sum.inr a:Key) = Sum.inr b) = decide (a = b):=by
 by_cases e:a = b
 ·subst e; simp
 ·have h:¬ (Sum.inr a:Key) = Sum.inr b:=λq=>e (Sum.inr.inj q)
  rw [decide_eq_false h,decide_eq_false e]
theorem key_lr (a:Int) (b:Str):decide ((Sum.inl a:Key) = Sum.inr b) = false:=decide_eq_false (λq=>nomatch q)
theorem key_rl (a:Str) (b:Int):decide ((Sum.inr a:Key) = Sum.inl b) = false:=decide_eq_false (λq=>nomatch q)
def xZ (prog:Program) (w:World):PySem.KeyKind prog w Key where
 is:=zMs
 hash:=keyH w
 inj:=λv a b ha hb=>by
  rcases xB ha with ⟨i,t,rfl,rfl⟩ | ⟨x,t,rfl,rfl⟩
  ·rcases xB hb with ⟨j,u,rfl,e⟩ | ⟨y,u,rfl,e⟩
   ·injection e with e1 _; rw [e1]
   ·exact nomatch e
  ·rcases xB hb with ⟨j,u,rfl,e⟩ | ⟨y,u,rfl,e⟩
   ·exact nomatch e
   ·injection e with e1 _; rw [e1]
 byValue:=λk v h=>by
  rcases xB h with ⟨i,t,rfl,rfl⟩ | ⟨x,t,rfl,rfl⟩ <;> rfl
 pyHash:=λhv h=>by
  rcases xB hv with ⟨i,t,rfl,rfl⟩ | ⟨x,t,rfl,rfl⟩
  ·exact wpAny_pyHash_int h
  ·exact wpAny_pyHash_str h
 eqBool:=λhu hv h=>by
  rcases xB hu with ⟨i,t,rfl,rfl⟩ | ⟨x,t,rfl,rfl⟩
  ·rcases xB hv with ⟨j,u,rfl,rfl⟩ | ⟨y,u,rfl,rfl⟩
   ·rw [key_ll] at h; exact wpAny_eqBool_int h
   ·rw [key_lr] at h; exact SeqAt.EqAt.int_str i t y u _ _ _ _ h
  ·rcases xB hv with ⟨j,u,rfl,rfl⟩ | ⟨y,u,rfl,rfl⟩
   ·rw [key_rl] at h; exact SeqAt.EqAt.str_int x t j u _ _ _ _ h
   ·rw [key_rr] at h; exact wpAny_eqBool_str h
 «strs»:=λk x t v h=>by
  rcases xB h with ⟨i,u,rfl,e⟩ | ⟨y,u,rfl,e⟩
  ·exact nomatch e
  ·injection e with e1 _
   subst e1
   cases v <;> rfl
theorem zJw (prog:Program) (w:World) (i:Int) (t:Tok):(xZ prog w).is (.inl i) (.int i t) = true:=zPh i t
theorem zJv (prog:Program) (w:World) (x:Str) (t:Tok):(xZ prog w).is (.inr x) (.str x t) = true:=zPg x t
inductive V where
 | non | bl (b:Bool) | int (i:Int) | str (x:Str) | byt (b:Array UInt8) | flt (b:UInt64) | ref (a:Addr) | ty (n:String)
 deriving DecidableEq
def RelV:V->Value->Prop
 | .non,u=>u = Value.none
 | .bl b,u=>u = Value.bool b
 | .int i,u=>∃ t,u = Value.int i t
 | .str x,u=>∃ t,u = Value.str x t
 | .byt b,u=>∃ t,u = Value.bytes b t
 | .flt b,u=>∃ t,u = Value.float b t
 | .ref a,u=>u = Value.ref a
 | .ty n,u=>u = Value.type n
abbrev Vals:List V->List Value->Prop:=Paired RelV
theorem Vals.length (r:Vals xs us):xs.length = us.length:=Paired.length r
theorem Vals.get:∀ {xs:List V} {us:List Value} {i:Nat} {x:V},Vals xs us->xs[i]? = some x->∃ u,us[i]? = some u /\ RelV x u
 | _,_,_,_,.nil,e=>by simp at e
 | _,_,0,_,.cons r _,e=>by simp at e; subst e; exact ⟨_,rfl,r⟩
 | _,_,i + 1,x,.cons _ t,e=>by
  obtain ⟨u,h1,h2⟩:=Vals.get (i:=i) (x:=x) t (by simpa using e)
  exact ⟨u,by simpa using h1,h2⟩
theorem Vals.append:∀ {xs ys:List V} {us ws:List Value},Vals xs us->Vals ys ws->Vals (xs ++ ys) (us ++ ws)
 | _,_,_,_,.nil,s=>s
 | _,_,_,_,.cons r t,s=>.cons r (Vals.append t s)
theorem Vals.none_of:∀ {xs:List V} {us:List Value} {i:Nat},Vals xs us->xs[i]? = none->us[i]? = none:=λ{xs us i} r e=>by
 have h1:=r.length
 have h2:xs.length <= i:=List.getElem?_eq_none_iff.mp e
 exact List.getElem?_eq_none_iff.mpr (by omega)
def RelO:Option V->Option Value->Prop
 | some v,some u=>RelV v u
 | none,none=>True
 | _,_=>False
def KV {κ:Type}:List (κ × V)->List (κ × Value)->Prop:=Paired λ(p:κ × V) (q:κ × Value)=>p.1 = q.1 /\ RelV p.2 q.2
def kV:Key->V
 | .inl i=>.int i
 | .inr x=>.str x
inductive HO where
 | lst (xs:List V)
 | tup (xs:List V)
 | dK (kvs:List (Key × V)) | dT (kvs:List (List Key × V))
 | set (S:Int->Bool) (n:Nat)
 | ins (C dx:Addr) (fs:List (Str × V))
 | own (x:Addr)
 | xd (fs:List (Str × V))
 | met (f x:Addr)
 | rng (lo hi:Int)
 | frz (o:Obj) (u:HO)
 | tbl (ps:Array Value)
 | ext (φ:Heap->Prop)
abbrev Hp:=Addr->Option HO
def upd (H:Hp) (a:Addr) (o:HO):Hp:=λb=>if b = a then some o else H b
theorem zR:upd H a o a = some o:=by unfold upd; rw [if_pos rfl]
theorem zQ (h:b ≠ a):upd H a o b = H b:=by unfold upd; rw [if_neg h]
theorem ne_of {H:Hp} {a b:Addr} {o u:HO} (h:H a = some o) (h':H b = some u) (d:o ≠ u):a ≠ b:=by
 intro e; subst e; rw [h] at h'; exact d (Option.some.inj h')
theorem zS {H:Hp} {a b:Addr} {o:HO} (h:H a = some o) (h':H b = none):a ≠ b:=by
 intro e; subst e; rw [h] at h'; cases h'
section
variable (P:Program) (w:World)
def ObjOk (H:Hp) (h:Heap) (a:Addr):HO->Prop
 | .lst xs=>xs.length <= sizeLine /\ ∃ (its:List Value) (n:Nat),Vals xs its /\ h.get? a = some { cls:=.type "list",data:=.seq its.toArray n }
 | .tup xs=>xs.length <= sizeLine /\ ∃ its:List Value,Vals xs its /\ IsTup h a its.toArray
 | .dK kvs=>kvs.length <= sizeLine /\ (a == sysModules) = false /\ ∃ vs,KV kvs vs /\ h.DictOf (xZ P w) a vs
 | .dT kvs=>kvs.length <= sizeLine /\ (a == sysModules) = false /\ ∃ xs:List (List Key × Addr × Value),
   Paired (λ(p:List Key × V) (q:List Key × Addr × Value)=>p.1 = q.1 /\ H q.2.1 = some (.tup (p.1.map kV)) /\ RelV p.2 q.2.2) kvs xs /\
   ∃ o es ep,h.get? a = some o /\ o.ExactDict /\ o.data = .dict es ep /\ es.toList = xs.map (entryOfKey (tupleKind (xZ P w))) /\ (xs.map (·.1)).Nodup
 | .set S n=>h.SetOf (intKind P w) a S n
 | .ins C dx fs=>H dx = some (.own a) /\ fs.length <= 1000 /\ dx ≠ a /\ h.get? a = some (instObj C dx) /\
   ∃ mA,h.Ns1 dx mA /\ (∀ f,RelO (fs.lookup f) (mA f)) /\ PySem.Within mA (fs.map (·.1))
 | .own _=>∃ o,h.get? a = some o
 | .xd fs=>∃ mA,h.Ns1 a mA /\ ∀ f,RelO (fs.lookup f) (mA f)
 | .rng lo hi=>∃ t u v,h.get? a = some { cls:=.type "range",data:=.fields #[.int lo t,.int hi u,.int 1 v] }
 | .frz o u=>h.get? a = some o /\ ObjOk H h a u
 | .tbl ps=>h.get? a = some { cls:=.none,data:=.fields ps }
 | .met f x=>h.get? a = some (methodObj (.ref f) (.ref x))
 | .ext φ=>φ h /\ (∃ o,h.get? a = some o) /\ ∀ h1 h2:Heap,φ h1->(∀ o,h1.get? a = some o->h2.get? a = some o)->φ h2
def HOk (H:Hp) (h:Heap):Prop:=∀ a o,H a = some o->ObjOk P w H h a o
end
section
variable {P:Program} {w:World} {H H':Hp} {h h':Heap} {a:Addr} {o:HO}
theorem ObjOk.lt (x:ObjOk P w H h a o):a < h.objs.size:=by
 cases o with
 | lst xs=>obtain ⟨_,_,_,_,e⟩:=x; exact lt_size e
 | tup xs=>obtain ⟨_,_,_,p⟩:=x; exact p.lt
 | dK kvs=>obtain ⟨_,_,_,_,o,_,_,e,_⟩:=x; exact lt_size e
 | dT kvs=>obtain ⟨_,_,_,_,o,_,_,e,_⟩:=x; exact lt_size e
 | set S n=>obtain ⟨o,_,_,_,e,_⟩:=x; exact lt_size e
 | ins C dx fs=>obtain ⟨_,_,_,e,_⟩:=x; exact lt_size e
 | own y=>obtain ⟨_,e⟩:=x; exact lt_size e
 | xd fs=>obtain ⟨_,⟨_,_,_,e,_⟩,_⟩:=x; exact lt_size e
 | rng lo hi=>obtain ⟨_,_,_,e⟩:=x; exact lt_size e
 | frz ob u=>obtain ⟨e,_⟩:=x; exact lt_size e
 | tbl ps=>exact lt_size (show h.get? a = some _ from x)
 | met f y=>exact lt_size (show h.get? a = some _ from x)
 | ext φ=>obtain ⟨_,⟨_,e⟩,_⟩:=x; exact lt_size e
theorem Paired.mapP {α β:Type} {F G:α->β->Prop}:∀ {l₁:List α} {l₂:List β},Paired F l₁ l₂->(∀ a b,F a b->G a b)->Paired G l₁ l₂
 | _,_,.nil,_=>.nil
 | _,_,.cons r t,f=>.cons (f _ _ r) (Paired.mapP t f)
theorem ObjOk.stay (x:ObjOk P w H h a o) (k:∀ b u,(b = a \/ H b = some (.own a))->h.get? b = some u->h'.get? b = some u)
  (ho:∀ b,H b = some (.own a)->H' b = some (.own a)) (ht:∀ b xs,H b = some (.tup xs)->H' b = some (.tup xs)):ObjOk P w H' h' a o:=by
 induction o with
 | lst xs=>obtain ⟨z,its,n,r,e⟩:=x; exact ⟨z,its,n,r,k _ _ (.inl rfl) e⟩
 | tup xs=>obtain ⟨z,its,r,ob,e,c⟩:=x; exact ⟨z,its,r,ob,k _ _ (.inl rfl) e,c⟩
 | dK kvs=>obtain ⟨z,y,vs,r,ob,es,ep,e,c⟩:=x; exact ⟨z,y,vs,r,ob,es,ep,k _ _ (.inl rfl) e,c⟩
 | dT kvs =>
  obtain ⟨z,y,xs,r,ob,es,ep,e,c⟩:=x
  exact ⟨z,y,xs,Paired.mapP r λp q z=>⟨z.1,ht _ _ z.2.1,z.2.2⟩,ob,es,ep,k _ _ (.inl rfl) e,c⟩
 | set S n=>obtain ⟨ob,es,ep,t,e,c⟩:=x; exact ⟨ob,es,ep,t,k _ _ (.inl rfl) e,c⟩
 | ins C dx fs =>
  obtain ⟨d,z,ne,e,mA,⟨od,es,ep,e2,c⟩,r⟩:=x
  exact ⟨ho _ d,z,ne,k _ _ (.inl rfl) e,mA,⟨od,es,ep,k _ _ (.inr d) e2,c⟩,r⟩
 | own y=>obtain ⟨ob,e⟩:=x; exact ⟨ob,k _ _ (.inl rfl) e⟩
 | xd fs=>obtain ⟨mA,⟨od,es,ep,e,c⟩,r⟩:=x; exact ⟨mA,⟨od,es,ep,k _ _ (.inl rfl) e,c⟩,r⟩
 | rng lo hi=>obtain ⟨t,u,v,e⟩:=x; exact ⟨t,u,v,k _ _ (.inl rfl) e⟩
 | frz ob u ih=>obtain ⟨e,q⟩:=x; exact ⟨k _ _ (.inl rfl) e,ih q⟩
 | tbl ps =>
  have e:h.get? a = some { cls:=.none,data:=.fields ps }:=x
  show h'.get? a = some { cls:=.none,data:=.fields ps }
  exact k a _ (.inl rfl) e
 | met f y =>
  have e:h.get? a = some (methodObj (.ref f) (.ref y)):=x
  show h'.get? a = some (methodObj (.ref f) (.ref y))
  exact k a _ (.inl rfl) e
 | ext φ=>obtain ⟨p,⟨o,e⟩,st⟩:=x; exact ⟨st _ _ p λo q=>k _ _ (.inl rfl) q,⟨o,k _ _ (.inl rfl) e⟩,st⟩
theorem HOk.lt (x:HOk P w H h) (e:H a = some o):a < h.objs.size:=(x a o e).lt
theorem HOk.fresh (x:HOk P w H h) (e:h.objs.size <= a):H a = none:=by
 cases q:H a with
 | none=>rfl
 | some u=>exact absurd (Nat.lt_of_lt_of_le (x.lt q) e) (Nat.lt_irrefl _)
theorem HOk.kept (x:HOk P w H h) (k:∀ b u,h.get? b = some u->h'.get? b = some u):HOk P w H h':=λa o e =>
 (x a o e).stay (λb u _ q=>k b u q) (λ_ q=>q) λ_ _ q=>q
theorem HOk.laid (x:HOk P w H h) (k:∀ b u,h.get? b = some u->h'.get? b = some u) (hp:h.objs.size <= a) (new:ObjOk P w (upd H a o) h' a o):HOk P w (upd H a o) h':=λb u e=>by
 have hn:=x.fresh hp
 by_cases hb:b = a
 ·subst hb; rw [zR] at e; cases e; exact new
 ·rw [zQ hb] at e
  exact (x b u e).stay (λc v _ q=>k c v q) (λc q=>by rw [zQ (zS q hn)]; exact q) λc xs q=>by rw [zQ (zS q hn)]; exact q
end
def Rd (H:Hp) (a:Addr) (u:HO):Prop:=H a = some u \/ ∃ o,H a = some (.frz o u)
theorem Rd.ok (r:Rd H a u) (x:HOk P w H h):ObjOk P w H h a u:=by
 rcases r with r | ⟨o,r⟩
 ·exact x a u r
 ·obtain ⟨_,q⟩:=x a _ r
  exact q
def Mut:Option HO->Prop
 | some (.lst _)=>True
 | some (.dK _)=>True
 | some (.dT _)=>True
 | some (.set _ _)=>True
 | some (.ins _ _ _)=>True
 | some (.ext _)=>True
 | _=>False
section
variable {P:Program} {w:World} {H:Hp} {h h':Heap} {x e:Addr} {o':HO}
theorem HOk.write (ok:HOk P w H h) (mu:Mut (H x)) (he:e = x \/ H e = some (.own x)) (k:∀ b u,b ≠ e->h.get? b = some u->h'.get? b = some u) (heo:∃ u,h'.get? e = some u)
  (new:ObjOk P w (upd H x o') h' x o'):HOk P w (upd H x o') h':=λb u q=>by
 have nown:∀ c y,H c = some (.own y)->c ≠ x:=λc y r z=>by subst z; rw [r] at mu; exact mu
 have ntup:∀ c xs,H c = some (.tup xs)->c ≠ x:=λc xs r z=>by subst z; rw [r] at mu; exact mu
 by_cases hb:b = x
 ·subst hb; rw [zR] at q; cases q; exact new
 ·rw [zQ hb] at q
  by_cases hbe:b = e
  ·have q':H b = some (.own x):=by
    rcases he with z | z
    ·exact absurd (hbe.trans z) hb
    ·rw [hbe]; exact z
   rw [q] at q'; cases q'
   obtain ⟨v,hv⟩:=heo
   exact ⟨v,by rw [hbe]; exact hv⟩
  ·refine (ok b u q).stay (λc v hc r=>k c v ?_ r) (λc r=>by rw [zQ (nown c b r)]; exact r) λc xs r=>by rw [zQ (ntup c xs r)]; exact r
   rcases hc with rfl | hc
   ·exact hbe
   ·rintro rfl
    rcases he with z | z
    ·exact nown c b hc z
    ·rw [hc] at z; cases z; exact hb rfl
end
structure Un (fs ex:List Addr) (H H':Hp) (h h':Heap):Prop where
 keep:∀ b o,h.get? b = some o->H b = none->b ∉ fs->b ∉ ex->h'.get? b = some o
 slot:∀ b o,h.get? b = some o->H b = none->b ∈ fs->b ∉ ex->∃ sl,h'.get? b = some { o with slots:=sl }
 free:∀ b o,h.get? b = some o->H b = none->b ∉ ex->H' b = none
 there:∀ b o,h.get? b = some o->b ∉ ex->∃ o',h'.get? b = some o'
 tups:∀ b xs,H b = some (.tup xs)->H' b = some (.tup xs)
 frzs:∀ b o u,H b = some (.frz o u)->H' b = some (.frz o u)
 tbls:∀ b ps,H b = some (.tbl ps)->∃ more,H' b = some (.tbl (ps ++ more))
section
variable {fs fs' ex ex':List Addr} {H H1 H2:Hp} {h h1 h2 h':Heap} {a x e:Addr} {o:HO}
theorem Un.any (u:Un fs ex H H1 h h1) (q:h.get? b = some ob) (n:H b = none) (hx:b ∉ ex):∃ sl,h1.get? b = some { ob with slots:=sl }:=by
 by_cases hb:b ∈ fs
 ·exact u.slot b ob q n hb hx
 ·exact ⟨ob.slots,u.keep b ob q n hb hx⟩
theorem Un.kept (k:∀ b u,h.get? b = some u->h'.get? b = some u):Un fs ex H H h h' :=
 ⟨λb ob q _ _ _=>k b ob q,λb ob q _ _ _=>⟨ob.slots,k b ob q⟩,λ_ _ _ n _=>n,λb ob q _=>⟨ob,k b ob q⟩,λ_ _ q=>q,λ_ _ _ q=>q,λ_ ps q=>⟨#[],by rw [q]; simp⟩⟩
theorem Un.refl:Un fs ex H H h h:=Un.kept λ_ _ q=>q
theorem Un.laid (k:∀ b u,h.get? b = some u->h'.get? b = some u) (hp:h.objs.size <= a) (hn:H a = none):Un fs ex H (upd H a o) h h' where
 keep:=λb u q _ _ _=>k b u q
 slot:=λb u q _ _ _=>⟨u.slots,k b u q⟩
 free:=λb u q n _=>by rw [zQ (Nat.ne_of_lt (Nat.lt_of_lt_of_le (lt_size q) hp))]; exact n
 there:=λb u q _=>⟨u,k b u q⟩
 tups:=λb xs q=>by rw [zQ (zS q hn)]; exact q
 frzs:=λb u xs q=>by rw [zQ (zS q hn)]; exact q
 tbls:=λb ps q=>⟨#[],by rw [zQ (zS q hn),q]; simp⟩
theorem Un.write (mu:Mut (H x)) (he:e = x \/ H e = some (.own x)) (k:∀ b u,b ≠ e->h.get? b = some u->h'.get? b = some u) (heo:∃ u,h'.get? e = some u):Un fs ex H (upd H x o) h h':=by
 have hx:∀ b,H b = none->b ≠ x:=λb n z=>by subst z; rw [n] at mu; exact mu
 have hb:∀ b,H b = none->b ≠ e:=λb n z=>by
  subst z
  rcases he with r | r
  ·exact hx b n r
  ·rw [n] at r; cases r
 have hm:∀ b u,H b = some u->¬ Mut (some u)->b ≠ x:=λb u q nm z=>by subst z; rw [q] at mu; exact nm mu
 refine ⟨λb u q n _ _=>k b u (hb b n) q,λb u q n _ _=>⟨u.slots,k b u (hb b n) q⟩,λb u q n _=>by rw [zQ (hx b n)]; exact n,λb u q _=>?_,
  λb xs q=>by rw [zQ (hm b _ q λz=>z)]; exact q,λb u xs q=>by rw [zQ (hm b _ q λz=>z)]; exact q,λb ps q=>⟨#[],by rw [zQ (hm b _ q λz=>z),q]; simp⟩⟩
 by_cases hbe:b = e
 ·subst hbe; exact heo
 ·exact ⟨u,k b u hbe q⟩
end
def trk (h:Heap) (H:Hp):List Addr:=(List.range h.objs.size).filter λa=>(H a).isSome
def hidT (h:Heap) (H:Hp):Heap:=PySem.W.hideAll h (trk h H)
theorem zPp (h:Heap) (H:Hp):(hidT h H).objs.size = h.objs.size:=PySem.W.hideAll_size _ _
theorem zSd {h:Heap} (e:h.get? b = some o) (n:H b = none):(hidT h H).get? b = some o :=
 PySem.W.hideAll_get _ e λhm=>by
  have q:(H b).isSome = true:=(mem_filter.mp hm).2
  rw [n] at q; simp at q
theorem of_hidT (e:(hidT h H).get? b = some o):h.get? b = some o /\ H b = none:=by
 have e':h.get? b = some o:=PySem.W.of_hideAll (trk h H) e
 refine ⟨e',?_⟩
 cases q:H b with
 | none=>rfl
 | some x =>
  have hm:b ∈ trk h H:=mem_filter.mpr ⟨mem_range.mpr (lt_size e'),by simp [q]⟩
  have z:(hidT h H).get? b = none:=PySem.W.hideAll_none (trk h H) hm
  rw [z] at e; cases e
def allNews (g h:Heap) (L:Addr):List (Addr × Obj):=(List.range h.objs.size).filterMap λa=>if a = L \/ (g.get? a).isSome = true then none else (h.get? a).map λo=>(a,o)
def rest (g h:Heap) (L d:Addr):List (Addr × Obj):=(allNews g h L).filter λp=>decide (p.1 ≠ d)
structure Mod (K:PySem.W.Frag) (mg:Str->Option Value) (base:Heap):Prop where
 kin:K.In base
 glob:base.Ns mainGlobals mg
 blt:∃ mb,base.Ns builtinsNs mb /\ ∀ x:Str,x ≠ "__name__"->mb x = bootBuiltins x
 nolimit:base.NoLimit
structure Cx where
 prog:Program
 w:World
 K:PySem.W.Frag
 mg:Str->Option Value
 base:Heap
 A:Around
 N:List Str
 s₀:Shared
 H₀:Hp
 env:Env
 outer:List Env
 stack:List Env
 ex:List Addr
 fn:Str->Bool
 calm:Bool
 pn:List (Addr × Obj)
 xe:Value->Shared->Prop
def frs (l:List Env):List Addr:=l.filterMap (·.frame)
abbrev Cx.fs (X:Cx):List Addr:=frs X.outer
def Vis (sc:Scope) (x:Str):Prop:=sc.names.lookup x = some .local \/ sc.names.lookup x = some .cell \/ sc.names.lookup x = some .free
def Loc (sc:Scope) (x:Str):Prop:=sc.names.lookup x = some .local \/ sc.names.lookup x = some .cell
def Look (env:Env) (h:Heap) (m:Str->Option Value) (x:Str) (u:Value):Prop :=
 (env.kindOf x = some .local /\ m x = some u) \/ ((env.kindOf x = some .cell \/ env.kindOf x = some .free) /\ ∃ c,env.cells.lookup x = some c /\ h.IsCell c (some u))
structure Cx.Ok (X:Cx):Prop where
 mod:Mod X.K X.mg X.base
 kind:X.env.scope.kind = .function
 glob:X.env.globals = mainGlobals
 blt:X.env.builtins = builtinsNs
 above:X.s₀.heap.objs.size <= X.env.locals
 inj:∀ x y c,X.env.cells.lookup x = some c->X.env.cells.lookup y = some c->x = y
 has:∀ x,(X.env.kindOf x = some .cell \/ X.env.kindOf x = some .free)->∃ c,X.env.cells.lookup x = some c
 cab:∀ x c,X.fn x = true->X.env.cells.lookup x = some c->X.s₀.heap.objs.size <= c
 hd:X.calm = true->X.A.handled = none
 frames:X.A.frames = some X.stack
 stk:X.stack = X.outer \/ (X.stack = X.env :: X.outer /\ X.env.frame = some X.env.locals)
 exf:∀ b ∈ X.ex,b ≠ X.env.locals /\ ∀ x c,X.env.cells.lookup x = some c->c ≠ b
 bs:∀ b o,X.base.get? b = some o->X.s₀.heap.get? b = some o /\ X.H₀ b = none
 bsz:X.base.objs.size <= X.s₀.heap.objs.size
 noex:∀ b o,X.base.get? b = some o->b ∉ X.ex
 exfs:∀ b ∈ X.ex,b ∉ X.fs
 funs:X.s₀.heap.FunFrames X.base X.outer
 frf:∀ b ∈ X.fs,X.H₀ b = none
structure Inv (X:Cx) (pins:List (Addr × Obj)) (σ:List (Option V)) (H:Hp) (s:Shared):Prop where
 ok:X.Ok
 os:s.os = X.s₀.os
 bare:AllBare s.gens
 base:Un X.fs X.ex X.H₀ H X.s₀.heap s.heap
 loc:∃ m,s.heap.Ns X.env.locals m /\ ∀ (i:Nat) (x:Str) (v:V),X.N[i]? = some x->σ[i]? = some (some v)->Vis X.env.scope x->∃ u,RelV v u /\ Look X.env s.heap m x u
 cell:∀ x c,X.env.cells.lookup x = some c->∃ v,s.heap.IsCell c v
 free:H X.env.locals = none
 freeC:∀ x c,X.env.cells.lookup x = some c->H c = none
 pin:∀ p ∈ X.pn ++ pins,s.heap.get? p.1 = some p.2 /\ H p.1 = none /\ p.1 ≠ X.env.locals /\ p.1 ∉ X.fs /\ ∀ v,p.2.data ≠ .cell v
 hok:HOk X.prog X.w H s.heap
 len:σ.length = X.N.length
section
variable {X:Cx} {pins:List (Addr × Obj)} {σ:List (Option V)} {H H':Hp} {s:Shared} {h':Heap}
theorem Cx.Ok.nofr (ok:X.Ok) (e:X.base.get? b = some o):b ∉ X.fs:=λhb=>by
 have:=(ok.funs.mem hb).1
 rw [e] at this; cases this
theorem Inv.bs (I:Inv X pins σ H s):∀ b o,X.base.get? b = some o->s.heap.get? b = some o /\ H b = none:=λb o e =>
 ⟨I.base.keep b o (I.ok.bs b o e).1 (I.ok.bs b o e).2 (I.ok.nofr e) (I.ok.noex b o e),I.base.free b o (I.ok.bs b o e).1 (I.ok.bs b o e).2 (I.ok.noex b o e)⟩
theorem Inv.bk (I:Inv X pins σ H s):∀ b o,X.base.get? b = some o->s.heap.get? b = some o:=λb o e=>(I.bs b o e).1
theorem Inv.mod (I:Inv X pins σ H s):Mod X.K X.mg X.base:=I.ok.mod
theorem Inv.kIn (I:Inv X pins σ H s):X.K.In s.heap:=I.ok.mod.kin.keeps I.bk
theorem Inv.nolimit (I:Inv X pins σ H s):s.heap.NoLimit:=I.ok.mod.nolimit.keeps I.bk
theorem Inv.lt (I:Inv X pins σ H s):X.env.locals < s.heap.objs.size:=let ⟨_,hn,_⟩:=I.loc; hn.lt
theorem Inv.sz (I:Inv X pins σ H s):X.s₀.heap.objs.size <= s.heap.objs.size:=Nat.le_trans I.ok.above (Nat.le_of_lt I.lt)
theorem Inv.nofs (I:Inv X pins σ H s) (h:s.heap.objs.size <= a):a ∉ X.fs:=λhb=>by
 obtain ⟨_,o,ho,_⟩:=I.ok.funs.mem hb
 exact absurd (Nat.lt_of_lt_of_le (lt_size ho) (Nat.le_trans I.sz h)) (Nat.lt_irrefl _)
theorem Inv.cne (I:Inv X pins σ H s):∀ x c,X.env.cells.lookup x = some c->c ≠ X.env.locals:=λx c e z=>by
 obtain ⟨v,o,ho,hd⟩:=I.cell x c e
 obtain ⟨m,⟨o',es,ep,ho',hd',_⟩,_⟩:=I.loc
 rw [z,ho'] at ho; cases ho; rw [hd'] at hd; cases hd
theorem Inv.funs (I:Inv X pins σ H s):s.heap.FunFrames X.base X.outer:=by
 have all:∀ (l:List Env),(∀ b ∈ frs l,b ∈ X.fs)->X.s₀.heap.FunFrames X.base l->s.heap.FunFrames X.base l:=by
  intro l
  induction l with
  | nil=>intro _ _; trivial
  | cons env r ih =>
   intro hs hl
   obtain ⟨hk,⟨L,o,hf,hn,ho,hd⟩,hr⟩:=hl
   have hL:L ∈ X.fs:=hs L (by unfold frs; rw [filterMap_cons,hf]; exact mem_cons_self)
   obtain ⟨sl,e⟩:=I.base.slot L o ho (I.ok.frf L hL) hL λz=>I.ok.exfs L z hL
   exact ⟨hk,⟨L,_,hf,hn,e,hd⟩,ih (λb hb=>hs b (by unfold frs; rw [filterMap_cons,hf]; exact mem_cons_of_mem _ hb)) hr⟩
 exact all X.outer (λ_ hb=>hb) I.ok.funs
theorem Inv.stack (I:Inv X pins σ H s):s.heap.FunFrames X.base X.stack:=by
 rcases I.ok.stk with e | ⟨e,hf⟩
 ·rw [e]; exact I.funs
 ·rw [e]
  obtain ⟨m,hn,_⟩:=I.loc
  refine .cons (by rw [I.ok.kind]; decide) hf hn ?_ I.funs
  exact Heap.get?_none_of_le (Nat.le_trans I.ok.bsz I.ok.above)
theorem Inv.stkSub (I:Inv X pins σ H s):∀ b ∈ frs X.stack,b ∈ X.env.locals :: X.fs:=λb hb=>by
 rcases I.ok.stk with e | ⟨e,hf⟩
 ·rw [e] at hb; exact mem_cons_of_mem _ hb
 ·rw [e] at hb
  unfold frs at hb
  rw [filterMap_cons,hf] at hb
  exact hb
theorem Inv.stkFree (I:Inv X pins σ H s):∀ b ∈ frs X.stack,H b = none:=λb hb=>by
 rcases mem_cons.mp (I.stkSub b hb) with e | hb
 ·rw [e]; exact I.free
 ·obtain ⟨_,o,ho,_⟩:=I.ok.funs.mem hb
  exact I.base.free b o ho (I.ok.frf b hb) λz=>I.ok.exfs b z hb
theorem Inv.step {g':Array GenState} {t':Nat} {d':Drawn} {ch:List Addr} (I:Inv X pins σ H s)
  (hch:∀ b ∈ ch,(b ∈ X.ex \/ X.s₀.heap.objs.size <= b) /\ b ≠ X.env.locals /\ (∀ x c,X.env.cells.lookup x = some c->c ≠ b) /\ ∀ p ∈ X.pn ++ pins,p.1 ≠ b)
  (keep:∀ b o,b ≠ X.env.locals->b ∉ X.fs->b ∉ ch->s.heap.get? b = some o->H b = none->h'.get? b = some o)
  (slot:∀ b o,b ≠ X.env.locals->b ∈ X.fs->b ∉ ch->s.heap.get? b = some o->H b = none->∃ sl,h'.get? b = some { o with slots:=sl }) (free:∀ b o,b ∉ ch->s.heap.get? b = some o->H b = none->H' b = none)
  (there:∀ b o,b ∉ ch->s.heap.get? b = some o->∃ o',h'.get? b = some o')
  (tups:∀ b xs,H b = some (.tup xs)->H' b = some (.tup xs)) (frzs:∀ b o u,H b = some (.frz o u)->H' b = some (.frz o u)) (tbls:∀ b ps,H b = some (.tbl ps)->∃ more,H' b = some (.tbl (ps ++ more)))
  (ns:∀ m,s.heap.Ns X.env.locals m->h'.Ns X.env.locals m) (hok:HOk X.prog X.w H' h') (hg:AllBare g') :
  Inv X pins σ H' { s with heap:=h',gens:=g',drawn:=d',toks:=t' }:=by
 have neL:∀ b o,X.s₀.heap.get? b = some o->b ≠ X.env.locals:=λb o e=>Nat.ne_of_lt (Nat.lt_of_lt_of_le (lt_size e) I.ok.above)
 have neC:∀ b o,X.s₀.heap.get? b = some o->b ∉ X.ex->b ∉ ch:=λb o e hx hb=>by
  rcases (hch b hb).1 with z | z
  ·exact hx z
  ·exact absurd (Nat.lt_of_lt_of_le (lt_size e) z) (Nat.lt_irrefl _)
 have cellK:∀ x c,X.env.cells.lookup x = some c->∀ v,s.heap.IsCell c v->h'.IsCell c v:=λx c e v ⟨o,ho,hd⟩=>by
  have nch:c ∉ ch:=λz=>(hch c z).2.2.1 x c e rfl
  by_cases hc:c ∈ X.fs
  ·obtain ⟨sl,q⟩:=slot c o (I.cne x c e) hc nch ho (I.freeC x c e)
   exact ⟨_,q,hd⟩
  ·exact ⟨o,keep c o (I.cne x c e) hc nch ho (I.freeC x c e),hd⟩
 refine ⟨I.ok,I.os,hg,⟨λb o e n hb hx=>?_,λb o e n hb hx=>?_,λb o e n hx=>?_,λb o e hx=>?_,λb xs e=>tups b xs (I.base.tups b xs e),λb o xs e=>frzs b o xs (I.base.frzs b o xs e),λb ps e=>?_⟩,?_,λx c e=>?_,?_,λx c e=>?_,λp hp=>?_,hok,I.len⟩
 ·exact keep b o (neL b o e) hb (neC b o e hx) (I.base.keep b o e n hb hx) (I.base.free b o e n hx)
 ·obtain ⟨sl,e1⟩:=I.base.slot b o e n hb hx
  obtain ⟨sl',e2⟩:=slot b _ (neL b o e) hb (neC b o e hx) e1 (I.base.free b o e n hx)
  exact ⟨sl',e2⟩
 ·obtain ⟨o',e1⟩:=I.base.there b o e hx
  exact free b o' (neC b o e hx) e1 (I.base.free b o e n hx)
 ·obtain ⟨o',e1⟩:=I.base.there b o e hx
  exact there b o' (neC b o e hx) e1
 ·obtain ⟨m1,e1⟩:=I.base.tbls b ps e
  obtain ⟨m2,e2⟩:=tbls b _ e1
  exact ⟨m1 ++ m2,by rw [e2,Array.append_assoc]⟩
 ·obtain ⟨m,hn,hl⟩:=I.loc
  refine ⟨m,ns m hn,λi x v e1 e2 e3=>?_⟩
  obtain ⟨u,r,l⟩:=hl i x v e1 e2 e3
  refine ⟨u,r,?_⟩
  rcases l with l | ⟨k,c,e,z⟩
  ·exact .inl l
  ·exact .inr ⟨k,c,e,cellK x c e _ z⟩
 ·obtain ⟨v,z⟩:=I.cell x c e
  exact ⟨v,cellK x c e v z⟩
 ·obtain ⟨m,⟨o,_,_,ho,_⟩,_⟩:=I.loc
  exact free _ o (λz=>(hch _ z).2.1 rfl) ho I.free
 ·obtain ⟨v,o,ho,hd⟩:=I.cell x c e
  exact free c o (λz=>(hch c z).2.2.1 x c e rfl) ho (I.freeC x c e)
 ·obtain ⟨e,n,ne,nf,d⟩:=I.pin p hp
  have nch:p.1 ∉ ch:=λz=>(hch p.1 z).2.2.2 p hp rfl
  exact ⟨keep p.1 p.2 ne nf nch e n,free p.1 p.2 nch e n,ne,nf,d⟩
theorem Inv.un (I:Inv X pins σ H s) (u:Un X.fs [] H H' s.heap h') (hok:HOk X.prog X.w H' h'):Inv X pins σ H' { s with heap:=h',toks:=t' }:=by
 obtain ⟨m,⟨o,es,ep,ho,r⟩,_⟩:=id I.loc
 obtain ⟨sl,hL⟩:=u.any ho I.free (by simp)
 exact I.step (g':=s.gens) (d':=s.drawn) (ch:=[]) (λ_ z=>nomatch z) (λb o _ hb _ e n=>u.keep b o e n hb (by simp)) (λb o _ hb _ e n=>u.slot b o e n hb (by simp)) (λb o _ e n=>u.free b o e n (by simp)) (λb o _ e=>u.there b o e (by simp)) u.tups u.frzs u.tbls (λm' hm=>by
  obtain ⟨o',es',ep',ho',r'⟩:=hm
  rw [ho] at ho'; cases ho'
  exact ⟨_,es',ep',hL,r'⟩) hok I.bare
theorem Inv.call (I:Inv X pins σ H s) (u:Un (frs X.stack) ch H H' s.heap h') (hok:HOk X.prog X.w H' h') (hg:AllBare g')
  (hch:∀ b ∈ ch,(b ∈ X.ex \/ X.s₀.heap.objs.size <= b) /\ b ≠ X.env.locals /\ (∀ x c,X.env.cells.lookup x = some c->c ≠ b) /\ ∀ p ∈ X.pn ++ pins,p.1 ≠ b) :
  Inv X pins σ H' { s with heap:=h',gens:=g',drawn:=d',toks:=t' }:=by
 obtain ⟨m,⟨o,es,ep,ho,r⟩,_⟩:=id I.loc
 obtain ⟨sl,hL⟩:=u.any ho I.free λz=>(hch _ z).2.1 rfl
 exact I.step (ch:=ch) hch (λb o hL hb hc e n=>u.keep b o e n (λz=>(mem_cons.mp (I.stkSub b z)).elim hL hb) hc) (λb o _ _ hc e n=>u.any e n hc) (λb o hc e n=>u.free b o e n hc) (λb o hc e=>u.there b o e hc) u.tups u.frzs u.tbls (λm' hm=>by
  obtain ⟨o',es',ep',ho',r'⟩:=hm
  rw [ho] at ho'; cases ho'
  exact ⟨_,es',ep',hL,r'⟩) hok hg
theorem Inv.turned (I:Inv X pins σ H s) (k:∀ b o,b ≠ it->s.heap.get? b = some o->h'.get? b = some o) (hn:H it = none) (hL:it ≠ X.env.locals)
  (h1:it ∈ X.ex \/ X.s₀.heap.objs.size <= it) (h2:∀ x c,X.env.cells.lookup x = some c->c ≠ it) (h3:∀ p ∈ X.pn ++ pins,p.1 ≠ it):Inv X pins σ H { s with heap:=h',toks:=t' }:=by
 have nit:∀ b u,H b = some u->b ≠ it:=λb u e z=>by rw [z,hn] at e; cases e
 refine I.step (g':=s.gens) (d':=s.drawn) (ch:=[it]) (λb hb=>?_) (λb o _ _ hc e _=>k b o (λz=>hc (by simp [z])) e) (λb o _ _ hc e _=>⟨o.slots,k b o (λz=>hc (by simp [z])) e⟩) (λ_ _ _ _ n=>n)
  (λb o hc e=>⟨o,k b o (λz=>hc (by simp [z])) e⟩) (λ_ _ e=>e) (λ_ _ _ e=>e) (λb ps e=>⟨#[],by rw [e]; simp⟩) (λm hm=>?_) (λb u e=>?_) I.bare
 ·have e:b = it:=by simpa using hb
  subst e
  exact ⟨h1,hL,h2,h3⟩
 ·obtain ⟨o,es,ep,ho,r⟩:=hm
  exact ⟨o,es,ep,k _ o (Ne.symm hL) ho,r⟩
 ·refine (I.hok b u e).stay (λc v hc q=>k c v ?_ q) (λ_ q=>q) λ_ _ q=>q
  rcases hc with z | z
  ·rw [z]; exact nit b u e
  ·exact nit c _ z
theorem Inv.tok (I:Inv X pins σ H s) (t:Nat):Inv X pins σ H { s with toks:=t }:=I.un (h':=s.heap) (t':=t) Un.refl I.hok
theorem Inv.kept (I:Inv X pins σ H s) (k:∀ b u,s.heap.get? b = some u->h'.get? b = some u):Inv X pins σ H { s with heap:=h',toks:=t' }:=I.un (Un.kept k) (I.hok.kept k)
theorem Inv.laid (I:Inv X pins σ H s) (k:∀ b u,s.heap.get? b = some u->h'.get? b = some u) (hp:s.heap.objs.size <= a) (new:ObjOk X.prog X.w (upd H a o) h' a o) :
  Inv X pins σ (upd H a o) { s with heap:=h',toks:=t' }:=I.un (Un.laid k hp (I.hok.fresh hp)) (I.hok.laid k hp new)
theorem Inv.write (I:Inv X pins σ H s) (mu:Mut (H x)) (he:e = x \/ H e = some (.own x)) (k:∀ b u,b ≠ e->s.heap.get? b = some u->h'.get? b = some u) (heo:∃ u,h'.get? e = some u)
  (new:ObjOk X.prog X.w (upd H x o) h' x o):Inv X pins σ (upd H x o) { s with heap:=h',toks:=t' }:=I.un (Un.write mu he k heo) (I.hok.write mu he k heo new)
theorem Inv.pins_of (I:Inv X pins σ H s) (h:∀ p ∈ pins',s.heap.get? p.1 = some p.2 /\ H p.1 = none /\ p.1 ≠ X.env.locals /\ p.1 ∉ X.fs /\ ∀ v,p.2.data ≠ .cell v):Inv X pins' σ H s :=
 ⟨I.ok,I.os,I.bare,I.base,I.loc,I.cell,I.free,I.freeC,λp hp=>(mem_append.mp hp).elim (λz=>I.pin p (mem_append_left _ z)) (h p),I.hok,I.len⟩
theorem zK7 {N:List Str} (hN:N.Nodup) {i j:Nat} {x:Str} (a:N[i]? = some x) (b:N[j]? = some x):i = j:=by
 obtain ⟨h1,e1⟩:=List.getElem?_eq_some_iff.mp a
 obtain ⟨h2,e2⟩:=List.getElem?_eq_some_iff.mp b
 exact (getElem_inj hN).mp (e1.trans e2.symm)
theorem zHn {Q:Unit->Shared->Prop} (I:Inv X pins σ H s) (hN:X.N.Nodup) (hi:X.N[i]? = some x) (hx:Loc X.env.scope x) (r:RelV v u)
  (h:∀ s',Inv X pins (σ.set i (some v)) H s'->(∃ a,SameBut a s.heap s'.heap /\ (a = X.env.locals \/ X.env.cells.lookup x = some a))->Q () s') (hf:X.fn x = true \/ X.env.scope.names.lookup x = some .local:=by first | exact .inl rfl | exact .inr rfl | assumption):wpAny M A (storeName X.env x u) Q E s:=by
 obtain ⟨m,hn,hl⟩:=id I.loc
 have hcls:(X.env.scope.kind == .class || (X.env.scope.kind == .module && X.env.locals != X.env.globals)) = false:=by rw [I.ok.kind]; rfl
 have hiσ:i < σ.length:=by rw [I.len]; exact (List.getElem?_eq_some_iff.mp hi).1
 have cne:=I.cne
 have tracked:∀ {a:Addr} {h':Heap},(∃ o,s.heap.get? a = some o /\ H a = none)->SameBut a s.heap h'->HOk X.prog X.w H h':=λ{a h'} ha hs b ob e=>by
  obtain ⟨_,_,hfree⟩:=ha
  refine (I.hok b ob e).stay (λc w' hc q=>(hs.2 c ?_).trans q) (λ_ q=>q) λ_ _ q=>q
  rintro rfl
  rcases hc with rfl | hc
  ·rw [hfree] at e; cases e
  ·rw [hfree] at hc; cases hc
 rcases hx with hk | hk
 ·refine wpAny_storeName_local hk hn (λh' hn' hs=>?_) hcls
  obtain ⟨oL,_,_,hoL,_⟩:=id hn
  refine h _ ⟨I.ok,I.os,I.bare,⟨λb o e n hb hx=>?_,λb o e n hb hx=>?_,I.base.free,λb o e hx=>?_,I.base.tups,I.base.frzs,I.base.tbls⟩,⟨_,hn',λj y v' e1 e2 e3=>?_⟩,λy c e=>?_,I.free,I.freeC,λp hp=>?_,tracked ⟨oL,hoL,I.free⟩ hs,by simpa using I.len⟩ ⟨_,hs,.inl rfl⟩
  ·exact (hs.2 b (Nat.ne_of_lt (Nat.lt_of_lt_of_le (lt_size e) I.ok.above))).trans (I.base.keep b o e n hb hx)
  ·obtain ⟨sl,e1⟩:=I.base.slot b o e n hb hx
   exact ⟨sl,(hs.2 b (Nat.ne_of_lt (Nat.lt_of_lt_of_le (lt_size e) I.ok.above))).trans e1⟩
  ·obtain ⟨o',e1⟩:=I.base.there b o e hx
   exact ⟨o',(hs.2 b (Nat.ne_of_lt (Nat.lt_of_lt_of_le (lt_size e) I.ok.above))).trans e1⟩
  ·by_cases hj:j = i
   ·subst hj
    rw [hi] at e1; cases e1
    rw [getElem?_set_self hiσ] at e2
    cases e2
    exact ⟨u,r,.inl ⟨hk,by simp⟩⟩
   ·rw [getElem?_set_ne (Ne.symm hj)] at e2
    obtain ⟨u',r',q⟩:=hl j y v' e1 e2 e3
    refine ⟨u',r',?_⟩
    rcases q with ⟨k,e⟩ | ⟨k,c,e,z⟩
    ·refine .inl ⟨k,?_⟩
     have:y ≠ x:=λe=>hj (zK7 hN e1 (e ▸ hi))
     simp [this,e]
    ·exact .inr ⟨k,c,e,z.sameBut hs (cne y c e)⟩
  ·obtain ⟨w',z⟩:=I.cell y c e
   exact ⟨w',z.sameBut hs (cne y c e)⟩
  ·obtain ⟨e,n,ne,nf,d⟩:=I.pin p hp
   exact ⟨(hs.2 p.1 ne).trans e,n,ne,nf,d⟩
 ·have hfn:X.fn x = true:=by
   rcases hf with z | z
   ·exact z
   ·rw [z] at hk; cases hk
  obtain ⟨c,hc⟩:=I.ok.has x (.inl hk)
  obtain ⟨w',z⟩:=I.cell x c hc
  refine wpAny_storeName_cell I.ok.kind hk hc z (λh' hc' hs=>?_)
  obtain ⟨oc,hoc,hocd⟩:=id z
  refine h { s with heap:=h' } ⟨I.ok,I.os,I.bare,⟨λb o e n hb hx=>?_,λb o e n hb hx=>?_,I.base.free,λb o e hx=>?_,I.base.tups,I.base.frzs,I.base.tbls⟩,⟨m,hn.sameBut hs (Ne.symm (cne x c hc)),λj y v' e1 e2 e3=>?_⟩,λy c' e=>?_,I.free,I.freeC,λp hp=>?_,tracked ⟨oc,hoc,I.freeC x c hc⟩ hs,by simpa using I.len⟩ ⟨c,hs,.inr hc⟩
  ·exact (hs.2 b (Nat.ne_of_lt (Nat.lt_of_lt_of_le (lt_size e) (I.ok.cab x c hfn hc)))).trans (I.base.keep b o e n hb hx)
  ·obtain ⟨sl,e1⟩:=I.base.slot b o e n hb hx
   exact ⟨sl,(hs.2 b (Nat.ne_of_lt (Nat.lt_of_lt_of_le (lt_size e) (I.ok.cab x c hfn hc)))).trans e1⟩
  ·obtain ⟨o',e1⟩:=I.base.there b o e hx
   exact ⟨o',(hs.2 b (Nat.ne_of_lt (Nat.lt_of_lt_of_le (lt_size e) (I.ok.cab x c hfn hc)))).trans e1⟩
  ·by_cases hj:j = i
   ·subst hj
    rw [hi] at e1; cases e1
    rw [getElem?_set_self hiσ] at e2
    cases e2
    exact ⟨u,r,.inr ⟨.inl hk,c,hc,hc'⟩⟩
   ·rw [getElem?_set_ne (Ne.symm hj)] at e2
    obtain ⟨u',r',q⟩:=hl j y v' e1 e2 e3
    refine ⟨u',r',?_⟩
    rcases q with q | ⟨k,c',e,z'⟩
    ·exact .inl q
    ·refine .inr ⟨k,c',e,z'.sameBut hs ?_⟩
     rintro rfl
     exact hj (zK7 hN e1 (I.ok.inj _ _ _ e hc ▸ hi))
  ·by_cases hcc:c' = c
   ·subst hcc; exact ⟨_,hc'⟩
   ·obtain ⟨w2,z2⟩:=I.cell y c' e
    exact ⟨w2,z2.sameBut hs hcc⟩
  ·obtain ⟨e,n,ne,nf,d⟩:=I.pin p hp
   refine ⟨(hs.2 p.1 ?_).trans e,n,ne,nf,d⟩
   intro q
   rw [q,hoc] at e
   have q':oc = p.2:=Option.some.inj e
   exact d w' (by rw [<- q']; exact hocd)
theorem zKo {Q:Unit->Shared->Prop} (I:Inv X pins σ H s) (hN:X.N.Nodup) (hi:X.N[i]? = some x) (hx:Loc X.env.scope x) (r:RelV v u)
  (h:∀ s',Inv X pins (σ.set i (some v)) H s'->Q () s') (hf:X.fn x = true \/ X.env.scope.names.lookup x = some .local:=by first | exact .inl rfl | exact .inr rfl | assumption):wpAny M A (storeName X.env x u) Q E s :=
 zHn I hN hi hx r (λs' I' _=>h s' I') hf
theorem Inv.call' {s':Shared} (I:Inv X pins σ H s) (ho:s'.os = s.os) (u:Un (frs X.stack) ch H H' s.heap s'.heap) (hok:HOk X.prog X.w H' s'.heap) (hg:AllBare s'.gens)
  (hch:∀ b ∈ ch,(b ∈ X.ex \/ X.s₀.heap.objs.size <= b) /\ b ≠ X.env.locals /\ (∀ x c,X.env.cells.lookup x = some c->c ≠ b) /\ ∀ p ∈ X.pn ++ pins,p.1 ≠ b):Inv X pins σ H' s':=by
 obtain ⟨h',g',d',t',o'⟩:=s'
 have e:o' = s.os:=ho
 subst e
 exact I.call (g':=g') (t':=t') (d':=d') u hok hg hch
end
abbrev XK:=Value->Option Addr->Hp->Prop
abbrev St:=List (Option V)
abbrev VK:=V->Hp->Prop
abbrev TE:=St->Hp->VK->Prop
abbrev TT:=St->Hp->(Bool->Hp->Prop)->Prop
abbrev TA:=St->Hp->(List V->Hp->Prop)->Prop
structure Ends where
 nx:St->Hp->Prop
 rt:VK
 bk:St->Hp->Prop:=λ_ _=>False
 ct:St->Hp->Prop:=λ_ _=>False
abbrev TS:=Ends->St->Hp->Prop
def EP (X:Cx) (pins:List (Addr × Obj)) (σ:St) (Q:VK) (u:Value) (s':Shared):Prop:=∃ v H',Inv X pins σ H' s' /\ RelV v u /\ Q v H'
def TP (X:Cx) (pins:List (Addr × Obj)) (σ:St) (Q:Bool->Hp->Prop) (b:Bool) (s':Shared):Prop:=∃ H',Inv X pins σ H' s' /\ Q b H'
def AP (X:Cx) (pins:List (Addr × Obj)) (σ:St) (Q:List V->Hp->Prop) (us:List Value) (s':Shared):Prop:=∃ vs H',Inv X pins σ H' s' /\ Vals vs us /\ Q vs H'
def SP (X:Cx) (pins:List (Addr × Obj)) (D:Ends) (f:Flow) (s':Shared):Prop :=
 match f with
 | .next=>∃ σ' H',Inv X pins σ' H' s' /\ D.nx σ' H'
 | .brk=>∃ σ' H',Inv X pins σ' H' s' /\ D.bk σ' H'
 | .cont=>∃ σ' H',Inv X pins σ' H' s' /\ D.ct σ' H'
 | .ret u=>∃ v σ' H',Inv X pins σ' H' s' /\ RelV v u /\ D.rt v H'
def PE (X:Cx) (e:Expr) (t:TE):Prop :=
 ∀ (pins:List (Addr × Obj)) (s:Shared) (σ:St) (H:Hp) (Q:VK),Inv X pins σ H s->t σ H Q->wpAny (model X.prog X.w) X.A (eval e X.env) (EP X pins σ Q) X.xe s
def PT (X:Cx) (e:Expr) (t:TT):Prop :=
 ∀ (pins:List (Addr × Obj)) (s:Shared) (σ:St) (H:Hp) (Q:Bool->Hp->Prop),Inv X pins σ H s->t σ H Q->wpAny (model X.prog X.w) X.A (isTrue e X.env (eval e X.env)) (TP X pins σ Q) X.xe s
def PW (X:Cx) (e:Expr) (t:TT):Prop :=
 ∀ (whole:Sem Value) (pins:List (Addr × Obj)) (s:Shared) (σ:St) (H:Hp) (Q:Bool->Hp->Prop),Inv X pins σ H s->t σ H Q->wpAny (model X.prog X.w) X.A (isTrue e X.env whole) (TP X pins σ Q) X.xe s
theorem PW.pt (h:PW X e t):PT X e t:=h _
def PA (X:Cx) (es:List Expr) (t:TA):Prop :=
 ∀ (pos:Pos) (pins:List (Addr × Obj)) (s:Shared) (σ:St) (H:Hp) (Q:List V->Hp->Prop),Inv X pins σ H s->t σ H Q->wpAny (model X.prog X.w) X.A (spliced (backTo pos (starEach es X.env))) (AP X pins σ Q) X.xe s
def PS (X:Cx) (st:Stmt) (t:TS):Prop :=
 ∀ (pins:List (Addr × Obj)) (s:Shared) (σ:St) (H:Hp) (D:Ends),Inv X pins σ H s->t D σ H->wpAny (model X.prog X.w) X.A (exec st X.env) (SP X pins D) X.xe s
def PSs (X:Cx) (st:List Stmt) (t:TS):Prop :=
 ∀ (pins:List (Addr × Obj)) (s:Shared) (σ:St) (H:Hp) (D:Ends),Inv X pins σ H s->t D σ H->wpAny (model X.prog X.w) X.A (execs st X.env) (SP X pins D) X.xe s
theorem thn {α:Type} {t:Sem α} {Q Q':α->Shared->Prop} (h:wpAny M A t Q E s) (hQ:∀ a s,Q a s->Q' a s):wpAny M A t Q' E s:=wpAny_mono h hQ λ_ _ x=>x
section
variable {X:Cx}
def tVar (i:Nat):TE:=λσ H Q=>∃ v,σ[i]? = some (some v) /\ Q v H
def tC (v:V):TE:=λ_ H Q=>Q v H
theorem pe_var (hN:X.N[i]? = some x) (hv:Vis X.env.scope x) (hd:(x == ("__debug__":Str)) = false:=by decide) (hcd:(x == ("__classdict__":Str)) = false:=by decide):PE X (.Name x pos) (tVar i):=by
 intro pins s σ H Q I h
 obtain ⟨v,e,h⟩:=h
 obtain ⟨m,hn,hl⟩:=I.loc
 obtain ⟨u,r,l⟩:=hl i x v hN e hv
 have fin:EP X pins σ Q u s:=⟨v,H,I,r,h⟩
 rcases l with ⟨hk,hm⟩ | ⟨hk,c,hc,hcell⟩
 ·exact wpAny_Name (wpAny_loadName_local I.ok.kind hk hn hm fin) hd
 ·rcases hk with hk | hk
  ·exact wpAny_Name (wpAny_loadName_cell I.ok.kind hk hc hcell fin) hd
  ·exact wpAny_Name (wpAny_loadName_free I.ok.kind hk hc hcell fin hcd) hd
theorem zJ {i j pos}:PE X (.Constant (.int i) j pos) (tC (.int i)):=λ_ _ _ H _ I h=>wpAny_Constant_int ⟨.int i,H,I.tok _,⟨_,rfl⟩,h⟩
theorem zAs {b j pos}:PE X (.Constant (.bool b) j pos) (tC (.bl b)):=λ_ _ _ H _ I h=>Constant_bool ⟨.bl b,H,I,rfl,h⟩
theorem zOl {j pos}:PE X (.Constant .none j pos) (tC .non):=λ_ _ _ H _ I h=>Constant_none ⟨.non,H,I,rfl,h⟩
theorem wQ {x j pos}:PE X (.Constant (.str x) j pos) (tC (.str x)):=λ_ _ _ H _ I h=>Calls.Constant_str ⟨.str x,H,I.tok _,⟨_,rfl⟩,h⟩
def Gl (X:Cx) (x:Str):Prop:=X.env.kindOf x = some .globalImplicit
theorem zJ2 {Q:Value->Shared->Prop} (I:Inv X pins σ H s) (hg:Gl X x) (hm:X.mg x = some u) (h:Q u s)
  (hd:(x == ("__debug__":Str)) = false:=by decide):wpAny (model X.prog X.w) X.A (eval (.Name x pos) X.env) Q E s :=
 Calls.Name_function_global I.ok.kind hg (Calls.loadGlobal_global (by rw [I.ok.glob]; exact I.mod.glob.keeps I.bk) hm h) hd
theorem zA9 {Q:Value->Shared->Prop} (I:Inv X pins σ H s) (hg:Gl X x) (hm:X.mg x = none) (hv:bootBuiltins x = some u) (h:Q u s)
  (hn:x ≠ "__name__":=by decide) (hd:(x == ("__debug__":Str)) = false:=by decide):wpAny (model X.prog X.w) X.A (eval (.Name x pos) X.env) Q E s:=by
 obtain ⟨mb,h1,h2⟩:=I.mod.blt
 exact Calls.Name_function_global I.ok.kind hg (Calls.loadGlobal_builtin (by rw [I.ok.glob]; exact I.mod.glob.keeps I.bk) hm (by rw [I.ok.blt]; exact h1.keeps I.bk) ((h2 x hn).trans hv) h) hd
theorem zGm (hg:Gl X x) (hm:X.mg x = some u) (r:RelV v u) (hd:(x == ("__debug__":Str)) = false:=by decide):PE X (.Name x pos) (tC v) :=
 λ_ _ _ H _ I h=>zJ2 I hg hm ⟨v,H,I,r,h⟩ hd
theorem uK (hg:Gl X x) (hm:X.mg x = none) (hv:bootBuiltins x = some u) (r:RelV v u) (hn:x ≠ "__name__":=by decide) (hd:(x == ("__debug__":Str)) = false:=by decide):PE X (.Name x pos) (tC v) :=
 λ_ _ _ H _ I h=>zA9 I hg hm hv ⟨v,H,I,r,h⟩ hn hd
variable {a b:Expr} {ta tb:TE} {pos:Pos}
def PC (X:Cx) (op:CmpOp) (a b:Expr) (t:TE):Prop :=
 ∀ (pins:List (Addr × Obj)) (s:Shared) (σ:St) (H:Hp) (Q:VK),Inv X pins σ H s->t σ H Q ->
  wpAny (model X.prog X.w) X.A (eval a X.env) (λv s₁=>wpAny (model X.prog X.w) X.A (eval b X.env) (λu s₂=>wpAny (model X.prog X.w) X.A (compareOp op v u) (EP X pins σ Q) X.xe s₂) X.xe s₁) X.xe s
theorem zK8 (b:Expr) (h:op ≠ .In) (h2:op ≠ .NotIn):behindInMarks op b = false:=by
 have e1:(op == CmpOp.In) = false:=by cases op <;> first | rfl | exact absurd rfl h
 have e2:(op == CmpOp.NotIn) = false:=by cases op <;> first | rfl | exact absurd rfl h2
 cases b <;> simp [behindInMarks,e1,e2]
def tIsN (ta:TE):TE:=λσ H Q=>ta σ H λx H1=>Q (.bl (decide (x = .non))) H1
def tNotN (ta:TE):TE:=λσ H Q=>ta σ H λx H1=>Q (.bl (!decide (x = .non))) H1
theorem RelV.none_iff (r:RelV x v):(v == Value.none) = decide (x = .non):=by
 cases x with
 | non=>cases r; rfl
 | bl _=>cases r; rfl
 | int _=>obtain ⟨t,rfl⟩:=r; rfl
 | str _=>obtain ⟨t,rfl⟩:=r; rfl
 | byt _=>obtain ⟨t,rfl⟩:=r; rfl
 | flt _=>obtain ⟨t,rfl⟩:=r; rfl
 | ref _=>cases r; rfl
 | ty _=>cases r; rfl
theorem zK6 {j pos'} (ha:PE X a ta):PC X .Is a (.Constant .none j pos') (tIsN ta):=by
 intro pins s σ H Q I h
 refine thn (ha pins s σ H _ I h) λv s1 ⟨x,H1,I1,r1,q1⟩=>?_
 exact Constant_none (is_none_gen ⟨.bl _,H1,I1,by rw [r1.none_iff]; rfl,q1⟩)
theorem zJn {j pos'} (ha:PE X a ta):PC X .IsNot a (.Constant .none j pos') (tNotN ta):=by
 intro pins s σ H Q I h
 refine thn (ha pins s σ H _ I h) λv s1 ⟨x,H1,I1,r1,q1⟩=>?_
 exact Constant_none (isnot_none_gen ⟨.bl _,H1,I1,by rw [r1.none_iff]; rfl,q1⟩)
def tB (t:TE):TT:=λσ H Q=>t σ H λx H1=>∃ c,x = .bl c /\ Q c H1
theorem zTk (h:PC X op a b t) (h1:behindInMarks op b = false:=by first | exact zK8 _ (by decide) (by decide) | rfl):PE X (.Compare a [op] [b] pos) t:=λpins s σ H Q I hw=>wpAny_Compare1 (h pins s σ H Q I hw) h1
theorem zD6 (h:PC X op a b t) (h1:behindInMarks op b = false:=by first | exact zK8 _ (by decide) (by decide) | rfl):PT X (.Compare a [op] [b] pos) (tB t):=by
 intro pins s σ H Q I hw
 refine wpAny_isTrue_Compare1 (thn (h pins s σ H _ I hw) λv s1 h1=>thn h1 λu s2 h2=>thn h2 λc s3 ⟨x,H1,I1,r1,q1⟩=>?_) h1
 obtain ⟨d,rfl,q⟩:=q1
 cases r1
 exact wpAny_truthy_bool ⟨H1,I1,q⟩
theorem zAf (h:PE X e t) (he:∀ whole,isTrue e X.env whole = (do let v <- whole; standAt e.pos; holding [v] (truthy v)):=by intro _; rfl):PT X e (tB t):=by
 intro pins s σ H Q I hw
 refine isTrue_plain (thn (h pins s σ H _ I hw) λv s1 ⟨x,H1,I1,r1,q1⟩=>?_) (he _)
 obtain ⟨d,rfl,q⟩:=q1
 cases r1
 exact wpAny_truthy_bool ⟨H1,I1,q⟩
variable {tA tB':TT} {rest:List Expr}
def tAnd (t u:TT):TT:=λσ H Q=>t σ H λc H1=>if c = true then u σ H1 Q else Q false H1
def tOr (t u:TT):TT:=λσ H Q=>t σ H λc H1=>if c = true then Q true H1 else u σ H1 Q
def tNot (t:TT):TT:=λσ H Q=>t σ H λc H1=>Q (!c) H1
theorem pw_and1 (ha:PT X a tA):PW X (.BoolOp .And [a] pos) tA:=by
 intro wh pins s σ H Q I h
 refine isTrue_and (thn (ha pins s σ H Q I h) λc s1 e=>?_)
 cases c with
 | true=>exact isTrue_and_nil e
 | false=>exact e
theorem pw_or1 (ha:PT X a tA):PW X (.BoolOp .Or [a] pos) tA:=by
 intro wh pins s σ H Q I h
 refine isTrue_or (thn (ha pins s σ H Q I h) λc s1 e=>?_)
 cases c with
 | false=>exact isTrue_or_nil e
 | true=>exact e
theorem pw_and (ha:PT X a tA) (hb:PW X (.BoolOp .And (b :: rest) pos) tB'):PW X (.BoolOp .And (a :: b :: rest) pos) (tAnd tA tB'):=by
 intro wh pins s σ H Q I h
 refine isTrue_and (thn (ha pins s σ H _ I h) λc s1 ⟨H1,I1,q1⟩=>?_)
 cases c with
 | true=>exact hb wh pins s1 σ H1 Q I1 q1
 | false=>exact ⟨H1,I1,q1⟩
theorem pw_or (ha:PT X a tA) (hb:PW X (.BoolOp .Or (b :: rest) pos) tB'):PW X (.BoolOp .Or (a :: b :: rest) pos) (tOr tA tB'):=by
 intro wh pins s σ H Q I h
 refine isTrue_or (thn (ha pins s σ H _ I h) λc s1 ⟨H1,I1,q1⟩=>?_)
 cases c with
 | true=>exact ⟨H1,I1,q1⟩
 | false=>exact hb wh pins s1 σ H1 Q I1 q1
theorem zAg (ha:PT X a tA):PT X (.UnaryOp .Not a pos) (tNot tA):=by
 intro pins s σ H Q I h
 exact isTrue_not (ha pins s σ H (λc H1=>Q (!c) H1) I h)
def tAndV (ta tb:TE):TE:=λσ H Q=>ta σ H λx H1=>∃ c,x = .bl c /\ if c = true then tb σ H1 Q else Q (.bl false) H1
def tNotV (ta:TE):TE:=λσ H Q=>ta σ H λx H1=>∃ c,x = .bl c /\ Q (.bl (!c)) H1
theorem zFt {op} (h:PE X a t):PE X (.BoolOp op [a] pos) t:=λpins s σ H Q I hw=>BoolOp_one (h pins s σ H Q I hw)
theorem zEa (ha:PE X a ta) (hb:PE X (.BoolOp .And (b :: rest) pos) tb):PE X (.BoolOp .And (a :: b :: rest) pos) (tAndV ta tb):=by
 intro pins s σ H Q I h
 refine BoolOp_and (thn (ha pins s σ H _ I h) λv s1 ⟨x,H1,I1,r1,q1⟩=>?_)
 obtain ⟨c,rfl,q1⟩:=q1
 cases r1
 refine wpAny_truthy_bool ?_
 cases c with
 | true=>exact hb pins s1 σ H1 Q I1 q1
 | false=>exact ⟨.bl false,H1,I1,rfl,q1⟩
theorem zTh (ha:PE X a ta):PE X (.UnaryOp .Not a pos) (tNotV ta):=by
 intro pins s σ H Q I h
 refine UnaryOp_ (thn (ha pins s σ H _ I h) λv s1 ⟨x,H1,I1,r1,q1⟩=>?_)
 obtain ⟨c,rfl,q1⟩:=q1
 cases r1
 exact not_of (wpAny_truthy_bool ⟨.bl (!c),H1,I1,rfl,q1⟩)
def tIf (t:TT) (ta tb:TE):TE:=λσ H Q=>t σ H λc H1=>if c = true then ta σ H1 Q else tb σ H1 Q
theorem zK4 (hc:PT X c tA) (ha:PE X a ta) (hb:PE X b tb):PE X (.IfExp c a b pos) (tIf tA ta tb):=by
 intro pins s σ H Q I h
 refine wpAny_IfExp (thn (hc pins s σ H _ I h) λd s1 ⟨H1,I1,q1⟩=>?_)
 cases d with
 | true=>exact ha pins s1 σ H1 Q I1 q1
 | false=>exact hb pins s1 σ H1 Q I1 q1
end
def SqL (K:PySem.W.Frag) (H:Hp) (a:Addr) (xs:List V):Prop :=
 Rd H a (.lst xs) \/
  ∃ (o:Obj) (its:Array Value) (n:Nat),K.lookup a = some o /\ o.cls = .type "list" /\ o.dict = none /\ o.data = .seq its n /\ its.size <= sizeLine /\ Vals xs its.toList
def SqT (K:PySem.W.Frag) (H:Hp) (a:Addr) (xs:List V):Prop :=
 Rd H a (.tup xs) \/
  ∃ (o:Obj) (its:Array Value) (n:Nat),K.lookup a = some o /\ o.cls = .type "tuple" /\ o.data = .seq its n /\ its.size <= sizeLine /\ Vals xs its.toList
def absV:Value->Option V
 | .none=>some .non
 | .bool b=>some (.bl b)
 | .int i _=>some (.int i)
 | .str x _=>some (.str x)
 | .bytes b _=>some (.byt b)
 | .float b _=>some (.flt b)
 | .ref a=>some (.ref a)
 | .type n=>some (.ty n)
 | _=>none
theorem RelV.abs (r:RelV x u):absV u = some x:=by
 cases x with
 | non=>cases r; rfl
 | bl _=>cases r; rfl
 | int _=>obtain ⟨t,rfl⟩:=r; rfl
 | str _=>obtain ⟨t,rfl⟩:=r; rfl
 | byt _=>obtain ⟨t,rfl⟩:=r; rfl
 | flt _=>obtain ⟨t,rfl⟩:=r; rfl
 | ref _=>cases r; rfl
 | ty _=>cases r; rfl
theorem RelV.inj (r:RelV x u) (q:RelV y u):x = y:=Option.some.inj (r.abs.symm.trans q.abs)
theorem Vals.inj:∀ {xs ys:List V} {us:List Value},Vals xs us->Vals ys us->xs = ys
 | _,_,_,.nil,.nil=>rfl
 | _,_,_,.cons r t,.cons r' t'=>by rw [r.inj r',Vals.inj t t']
section
variable {X:Cx} {pins:List (Addr × Obj)} {σ:St} {H:Hp} {s:Shared} {a:Addr} {xs ys:List V}
theorem SqL.of {K:PySem.W.Frag} (h:H a = some (.lst xs)):SqL K H a xs:=.inl (.inl h)
theorem SqT.of {K:PySem.W.Frag} (h:H a = some (.tup xs)):SqT K H a xs:=.inl (.inl h)
theorem Inv.list (I:Inv X pins σ H s) (h:SqL X.K H a xs):∃ its:List Value,Vals xs its /\ PlainL s.heap a its.toArray /\ xs.length <= sizeLine:=by
 rcases h with h | ⟨o,its,n,hk,hc,hd,hs,hz,r⟩
 ·obtain ⟨z,its,n,r,e⟩:=h.ok I.hok
  exact ⟨its,r,⟨_,n,e,rfl,rfl,rfl⟩,z⟩
 ·refine ⟨its.toList,r,⟨o,n,I.kIn a o hk,hc,hd,by simpa using hs⟩,?_⟩
  have e:=r.length
  simp only [length_toList] at e
  omega
theorem Inv.tuple (I:Inv X pins σ H s) (h:SqT X.K H a xs):∃ its:List Value,Vals xs its /\ IsTup s.heap a its.toArray /\ xs.length <= sizeLine:=by
 rcases h with h | ⟨o,its,n,hk,hc,hs,hz,r⟩
 ·obtain ⟨z,its,r,p⟩:=h.ok I.hok
  exact ⟨its,r,p,z⟩
 ·refine ⟨its.toList,r,⟨o,I.kIn a o hk,hc,n,by simpa using hs⟩,?_⟩
  have e:=r.length
  simp only [length_toList] at e
  omega
theorem Inv.list_inj (I:Inv X pins σ H s) (h:SqL X.K H a xs) (h':SqL X.K H a ys):xs = ys:=by
 obtain ⟨its,r,⟨o,n,e,_,_,d⟩,_⟩:=I.list h
 obtain ⟨its',r',⟨o',n',e',_,_,d'⟩,_⟩:=I.list h'
 rw [e] at e'; cases e'
 rw [d] at d'
 injection d' with d1 _
 have:its = its':=by simpa using congrArg Array.toList d1
 subst this
 exact r.inj r'
end
abbrev Cx.wish (X:Cx) (E:Value->Shared->Prop):Cx:={ X with xe:=E }
abbrev Cx.nox (X:Cx):Cx:=X.wish λ_ _=>False
theorem Cx.Ok.wish {X:Cx} (ok:X.Ok) (E:Value->Shared->Prop):(X.wish E).Ok :=
 ⟨ok.mod,ok.kind,ok.glob,ok.blt,ok.above,ok.inj,ok.has,ok.cab,ok.hd,ok.frames,ok.stk,ok.exf,ok.bs,ok.bsz,ok.noex,ok.exfs,ok.funs,ok.frf⟩
theorem Cx.Ok.unwish {X:Cx} (ok:(X.wish E).Ok):X.Ok :=
 ⟨ok.mod,ok.kind,ok.glob,ok.blt,ok.above,ok.inj,ok.has,ok.cab,ok.hd,ok.frames,ok.stk,ok.exf,ok.bs,ok.bsz,ok.noex,ok.exfs,ok.funs,ok.frf⟩
section
variable {X:Cx} {pins:List (Addr × Obj)} {σ:St} {H:Hp} {s:Shared} {E:Value->Shared->Prop}
theorem Inv.wish (I:Inv X pins σ H s) (E:Value->Shared->Prop):Inv (X.wish E) pins σ H s:=⟨I.ok.wish E,I.os,I.bare,I.base,I.loc,I.cell,I.free,I.freeC,I.pin,I.hok,I.len⟩
theorem Inv.unwish (I:Inv (X.wish E) pins σ H s):Inv X pins σ H s:=⟨I.ok.unwish,I.os,I.bare,I.base,I.loc,I.cell,I.free,I.freeC,I.pin,I.hok,I.len⟩
theorem SP.unwish (h:SP (X.wish E) pins D f s'):SP X pins D f s':=by
 cases f with
 | next=>obtain ⟨σ',H',I,q⟩:=h; exact ⟨σ',H',I.unwish,q⟩
 | brk=>obtain ⟨σ',H',I,q⟩:=h; exact ⟨σ',H',I.unwish,q⟩
 | cont=>obtain ⟨σ',H',I,q⟩:=h; exact ⟨σ',H',I.unwish,q⟩
 | ret u=>obtain ⟨v,σ',H',I,r,q⟩:=h; exact ⟨v,σ',H',I.unwish,r,q⟩
theorem PSs.nox {st:List Stmt} {t:TS} (h:PSs X.nox st t):PSs X st t:=λpins s σ H D I hw =>
 wpAny_mono (h pins s σ H D (I.wish _) hw) (λ_ _ q=>q.unwish) λ_ _ z=>False.elim z
end
section
variable {X:Cx} {st:Stmt} {rest:List Stmt} {t u:TS} {e:Expr} {te:TE} {pos:Pos}
def zNu:TS:=λD σ H=>D.nx σ H
def tSeq (t u:TS):TS:=λD σ H=>t { D with nx:=u D } σ H
theorem zH:PSs X [] zNu:=λ_ _ σ H _ I h=>wpAny_execs_nil ⟨σ,H,I,h⟩
theorem zC (h1:PS X st t) (h2:PSs X rest u):PSs X (st :: rest) (tSeq t u):=by
 intro pins s σ H D I h
 refine wpAny_execs_cons (thn (h1 pins s σ H { D with nx:=u D } I h) λf s1 q=>?_)
 cases f with
 | next =>
  obtain ⟨σ',H',I',q⟩:=q
  exact h2 pins s1 σ' H' D I' q
 | ret v=>exact q
 | brk=>exact q
 | cont=>exact q
theorem zCx (h1:PS X st t):PSs X [st] t:=by
 intro pins s σ H D I h
 refine wpAny_execs_cons (thn (h1 pins s σ H D I h) λf s1 q=>?_)
 cases f with
 | next=>exact wpAny_execs_nil q
 | ret v=>exact q
 | brk=>exact q
 | cont=>exact q
theorem Inv.quiet (I:Inv X pins σ H s):interactive X.env = false:=by simp [interactive,I.ok.kind]
def zHm (te:TE):TS:=λD σ H=>te σ H λ_ H1=>D.nx σ H1
theorem yN (he:PE X e te) (hs:swapsWith e none pos.line X.env = pure false:=by rfl):PS X (.Expr e pos) (zHm te):=by
 intro pins s σ H D I h
 exact wpAny_Expr_any (thn (he pins s σ H _ I h) λv s1 ⟨x,H1,I1,r1,q1⟩=>⟨σ,H1,I1,q1⟩) I.quiet hs
def tRet (te:TE):TS:=λD σ H=>te σ H D.rt
theorem zT (he:PE X e te):PS X (.Return (some e) pos) (tRet te):=by
 intro pins s σ H D I h
 exact wpAny_Return_some (thn (he pins s σ H _ I h) λv s1 ⟨x,H1,I1,r1,q1⟩=>⟨x,σ,H1,I1,r1,q1⟩)
def tIfS (c:TT) (t u:TS):TS:=λD σ H=>c σ H λb H1=>if b = true then t D σ H1 else u D σ H1
theorem xL (hc:PT X c tc) (ha:PSs X a t) (hb:PSs X b u):PS X (.If c a b pos) (tIfS tc t u):=by
 intro pins s σ H D I h
 refine wpAny_If (thn (hc pins s σ H _ I h) λd s1 ⟨H1,I1,q1⟩=>?_)
 cases d with
 | true=>exact ha pins s1 σ H1 D I1 q1
 | false=>exact hb pins s1 σ H1 D I1 q1
def zS4:TS:=λ_ _ _=>False
theorem zAh:PSs X sts zS4:=λ_ _ _ _ _ _ h=>h.elim
end
abbrev TG:=V->St->Hp->(St->Hp->Prop)->Prop
abbrev TGs:=List V->St->Hp->(St->Hp->Prop)->Prop
def PG (X:Cx) (target:Expr) (t:TG):Prop :=
 ∀ (pins:List (Addr × Obj)) (s:Shared) (σ:St) (H:Hp) (v:V) (u:Value) (Q:St->Hp->Prop),Inv X pins σ H s->RelV v u->t v σ H Q ->
  wpAny (model X.prog X.w) X.A (assign target X.env u) (λ_ s'=>∃ σ' H',Inv X pins σ' H' s' /\ Q σ' H') X.xe s
def PGs (X:Cx) (ts:List Expr) (t:TGs):Prop :=
 ∀ (pins:List (Addr × Obj)) (s:Shared) (σ:St) (H:Hp) (vs:List V) (us:List Value) (Q:St->Hp->Prop),Inv X pins σ H s->Vals vs us->t vs σ H Q ->
  wpAny (model X.prog X.w) X.A (assignInOrder ((assignEach ts X.env).map (·.2)) us) (λ_ s'=>∃ σ' H',Inv X pins σ' H' s' /\ Q σ' H') X.xe s
section
variable {X:Cx} {pos:Pos}
def zBc (i:Nat):TG:=λv σ H Q=>Q (σ.set i (some v)) H
theorem yK (hN:X.N.Nodup) (hi:X.N[i]? = some x) (hx:Loc X.env.scope x) (hf:X.fn x = true \/ X.env.scope.names.lookup x = some .local:=by first | exact .inl rfl | exact .inr rfl | assumption):PG X (.Name x pos) (zBc i):=by
 intro pins s σ H v u Q I r h
 exact wpAny_assign_Name (zKo I hN hi hx r (λs' I'=>⟨_,H,I',h⟩) hf)
def gNil:TGs:=λvs σ H Q=>vs = [] /\ Q σ H
def zMv (t:TG) (u:TGs):TGs:=λvs σ H Q=>∃ v r,vs = v :: r /\ t v σ H λσ' H'=>u r σ' H' Q
theorem wO:PGs X [] gNil:=by
 intro pins s σ H vs us Q I r h
 obtain ⟨e,h⟩:=h
 subst e
 cases r
 exact assignInOrder_nil ⟨σ,H,I,h⟩
theorem zY (h1:PG X e t) (h2:PGs X es u)
  (hs:(assignEach (e :: es) X.env).map (·.2) = assign e X.env :: (assignEach es X.env).map (·.2):=by rfl):PGs X (e :: es) (zMv t u):=by
 intro pins s σ H vs us Q I r h
 obtain ⟨v,vr,e1,h⟩:=h
 subst e1
 cases r with
 | cons r rr =>
  rw [hs]
  refine assignInOrder_cons (thn (h1 pins s σ H _ _ _ I r h) λ_ s1 ⟨σ1,H1,I1,q1⟩=>?_)
  exact h2 pins s1 σ1 H1 _ _ Q I1 rr q1
def gTup (K:PySem.W.Frag) (n:Nat) (t:TGs):TG:=λv σ H Q=>∃ a xs,v = .ref a /\ SqT K H a xs /\ xs.length = n /\ t xs σ H Q
theorem zAz (hc:X.calm = true) (h:PGs X es t)
  (hn:(assignEach es X.env).length = n:=by rfl) (hst:(assignEach es X.env).findIdx? (·.1) = none:=by rfl):PG X (.Tuple es k pos) (gTup X.K n t):=by
 intro pins s σ H v u Q I r hw
 obtain ⟨a,xs,e1,hq,hl,hw⟩:=hw
 subst e1
 cases r
 obtain ⟨its,rv,ht,hz⟩:=I.tuple hq
 refine assign_Tuple_tuple (I.ok.hd hc) ht (by simp [hn,<- hl,rv.length]) hst λh' hx=>?_
 have I1:Inv X pins σ H { s with heap:=h' }:=I.kept (t':=s.toks) λb o e=>hx b o (Nat.ne_of_lt (lt_size e)) e
 exact h pins _ σ H xs _ Q I1 (by simpa using rv) hw
def tAsg (te:TE) (g:TG):TS:=λD σ H=>te σ H λx H1=>g x σ H1 D.nx
theorem zK2 (he:PE X e te) (hg:PG X tg g) (hs:swapsWithSole [tg] e pos.line X.env = pure false:=by rfl) (hw:swappedStores [tg] e X.env = pure none:=by rfl)
  (h1:(assignEach [tg] X.env).map (·.2) = [assign tg X.env]:=by rfl):PS X (.Assign [tg] e pos) (tAsg te g):=by
 intro pins s σ H D I h
 refine wpAny_Assign_stores (thn (he pins s σ H _ I h) λv s1 ⟨x,H1,I1,r1,q1⟩=>?_) hs hw
 rw [h1]
 exact thn (hg pins s1 σ H1 x v _ I1 r1 q1) λ_ s2 q=>q
theorem zKz (hN:X.N.Nodup) (hi:X.N[i]? = some x) (hx:Loc X.env.scope x) (he:PE X e te) (hs:swapsWith e (some (.Name x pos')) pos.line X.env = pure false:=by rfl) (hf:X.fn x = true \/ X.env.scope.names.lookup x = some .local:=by first | exact .inl rfl | exact .inr rfl | assumption) :
  PS X (.Assign [.Name x pos'] e pos) (tAsg te (zBc i)):=by
 intro pins s σ H D I h
 refine wpAny_Assign_Name (thn (he pins s σ H _ I h) λv s1 ⟨y,H1,I1,r1,q1⟩=>?_) hs
 exact zKo I1 hN hi hx r1 (λs2 I2=>⟨_,H1,I2,q1⟩) hf
end
section
variable {X:Cx} {pos:Pos}
def zS2 (c:TT) (tb:TS):TS:=λD σ H=>∃ W:Nat->St->Hp->Prop,(∃ m,W m σ H) /\ ∀ m σ H,W m σ H ->
 c σ H λb H1=>if b = true then ∃ N:St->Hp->Prop,(∀ σ' H',N σ' H'->∃ m',m' < m /\ W m' σ' H') /\ tb { D with nx:=N,ct:=N,bk:=D.nx } σ H1 else D.nx σ H1
theorem zRp (hp:PassesOwn (model X.prog X.w) X.A X.env X.xe) (hc:PT X c tc) (hb:PSs X body tb):PS X (.While c body [] pos) (zS2 tc tb):=by
 intro pins s σ H D I h
 obtain ⟨W,⟨m0,w0⟩,turn⟩:=h
 refine wpAny_While (codeAny_whileLoop (λn s'=>∃ σ' H',Inv X pins σ' H' s' /\ W n σ' H') ?_ m0 ⟨σ,H,I,w0⟩)
 rintro n s1 ⟨σ1,H1,I1,w1⟩
 refine wpAny_passesOwn hp (thn (hc pins s1 σ1 H1 _ I1 (turn n σ1 H1 w1)) λb s2 ⟨H2,I2,q2⟩=>?_)
 cases b with
 | true =>
  obtain ⟨N,hN,q2⟩:=q2
  rw [if_pos rfl]
  refine wpAny_passesOwn hp (thn (hb pins s2 σ1 H2 _ I2 q2) λf s3 q3=>?_)
  cases f with
  | next =>
   obtain ⟨σ3,H3,I3,n3⟩:=q3
   obtain ⟨m',hm,w3⟩:=hN σ3 H3 n3
   exact ⟨m',hm,σ3,H3,I3,w3⟩
  | cont =>
   obtain ⟨σ3,H3,I3,n3⟩:=q3
   obtain ⟨m',hm,w3⟩:=hN σ3 H3 n3
   exact ⟨m',hm,σ3,H3,I3,w3⟩
  | brk=>exact q3
  | ret v=>exact q3
 | false =>
  rw [if_neg Bool.false_ne_true]
  exact wpAny_execs_nil ⟨σ1,H2,I2,q2⟩
end
structure It where
 go:Nat->Hp->Prop
 yld:Nat->Hp->V->Hp->Prop
 stop:Nat->Hp->Prop
def FpOk (X:Cx) (pins:List (Addr × Obj)) (H:Hp) (b:Addr):Prop :=
 H b = none /\ b ≠ X.env.locals /\ b ∉ X.fs /\ (b ∈ X.ex \/ X.s₀.heap.objs.size <= b) /\ (∀ x c,X.env.cells.lookup x = some c->c ≠ b) /\ ∀ p ∈ X.pn ++ pins,p.1 ≠ b
theorem Inv.fpOk (I:Inv X pins σ H s) (hb:s.heap.objs.size <= b) (hn:H' b = none):FpOk X pins H' b:=by
 refine ⟨hn,Nat.ne_of_gt (Nat.lt_of_lt_of_le I.lt hb),I.nofs hb,.inr (Nat.le_trans I.sz hb),λx c e z=>?_,λp hp z=>?_⟩
 ·obtain ⟨v,q⟩:=I.cell x c e
  exact absurd (Nat.lt_of_lt_of_le q.lt (by rw [z]; exact hb)) (Nat.lt_irrefl _)
 ·exact absurd (Nat.lt_of_lt_of_le (lt_size (I.pin p hp).1) (by rw [z]; exact hb)) (Nat.lt_irrefl _)
structure Turn (P:Program) (w:World) (K:PySem.W.Frag) (tg:Expr) (J:It) (fp:List Addr) (it:Addr) (tn:Nat->Heap->Prop):Prop where
 mem:it ∈ fp
 obj:∀ i h,tn i h->∀ b ∈ fp,∃ o,h.get? b = some o /\ ∀ v,o.data ≠ .cell v
 keep:∀ i h h',tn i h->(∀ b ∈ fp,∀ o,h.get? b = some o->h'.get? b = some o)->tn i h'
 item:∀ (X:Cx),X.prog = P->X.w = w->X.K = K->X.calm = true->∀ (i:Nat) (pins:List (Addr × Obj)) (s:Shared) (σ:St) (H:Hp) (E:Value->Shared->Prop),Inv X pins σ H s->(∀ b ∈ fp,FpOk X pins H b)->tn i s.heap->J.go i H ->
  wpAny (model P w) X.A (pyNext (.ref it)) (λr s1=>∃ u,r = some u /\
   wpAny (model P w) X.A (letOwnedTupleGo tg (.ref it) u) (λ_ s2=>∃ x H',Inv X pins σ H' s2 /\ RelV x u /\ J.yld i H x H' /\ tn (i + 1) s2.heap /\ ∀ b ∈ fp,H' b = none) E s1) E s
 done:∀ (X:Cx),X.prog = P->X.w = w->X.K = K->X.calm = true->∀ (i:Nat) (pins:List (Addr × Obj)) (s:Shared) (σ:St) (H:Hp) (E:Value->Shared->Prop),Inv X pins σ H s->(∀ b ∈ fp,FpOk X pins H b)->tn i s.heap->J.stop i H ->
  wpAny (model P w) X.A (pyNext (.ref it)) (λr s1=>r = none /\ Inv X pins σ H s1) E s
 self:∀ (A:Around) (i:Nat) (s:Shared) (Q:Value->Shared->Prop) (E:Value->Shared->Prop),tn i s.heap->Q (.ref it) s->wpAny (model P w) A (pyIter (.ref it)) Q E s
abbrev TI:=St->Hp->(It->Hp->Prop)->Prop
def PIE (X:Cx) (pins:List (Addr × Obj)) (σ:St) (tg:Expr) (R:It->Hp->Prop) (itv:Value) (s2:Shared):Prop :=
 ∃ (it:Addr) (fp:List Addr) (tn:Nat->Heap->Prop) (J:It) (H':Hp),itv = .ref it /\ Inv X pins σ H' s2 /\ Turn X.prog X.w X.K tg J fp it tn /\ tn 0 s2.heap /\ (∀ b ∈ fp,FpOk X pins H' b) /\ R J H'
def PI (X:Cx) (tg iter:Expr) (wi:TI):Prop :=
 ∀ (pins:List (Addr × Obj)) (s:Shared) (σ:St) (H:Hp) (R:It->Hp->Prop),Inv X pins σ H s->wi σ H R ->
  wpAny (model X.prog X.w) X.A (eval iter X.env) (λv s1=>wpAny (model X.prog X.w) X.A (pyIter v) (PIE X pins σ tg R) X.xe s1) X.xe s
theorem zPr {s:Shared} {Q:Unit->Shared->Prop} (ho:s.heap.get? it = some o) (hc:o.cls = .type n) (hd:o.data = .fields vs)
  (hn:["enumerate","zip","dict_itemiterator","dict_reverseitemiterator","odict_iterator","itertools.zip_longest","itertools.pairwise"].contains n = false) (hQ:Q () s):wpAny M A (letOwnedTupleGo tg (.ref it) u) Q E s:=by
 unfold letOwnedTupleGo
 cases tg <;> first
  | exact wpAny_pure hQ
  | (cases u <;> first
    | exact wpAny_pure hQ
    | (refine wpAny_bind (wpAny_load ho ?_)
       rw [hc,hd]
       show wpAny M A (if (["enumerate","zip","dict_itemiterator","dict_reverseitemiterator","odict_iterator","itertools.zip_longest","itertools.pairwise"].contains n && vs[0]? == some (rawInt _)) = true then _ else _) Q E s
       rw [if_neg (by intro h; rw [hn,Bool.false_and] at h; cases h)]
       exact wpAny_pure hQ))
def Itl (K:PySem.W.Frag) (a:Addr):It :=
 ⟨λi H=>∃ xs x,SqL K H a xs /\ xs[i]? = some x,λi H x H'=>H' = H /\ ∀ xs,SqL K H a xs->xs[i]? = some x,λi H=>∃ xs,SqL K H a xs /\ xs.length <= i⟩
def Itr (lo:Int) (n:Nat):It:=⟨λi _=>i < n,λi H x H'=>H' = H /\ x = .int (lo + i),λi _=>n <= i⟩
theorem zNo {P:Program} {w:World} {K:PySem.W.Frag} {tg:Expr} (a it:Addr):Turn P w K tg (Itl K a) [it] it (λi h=>h.IsListIter it a i) where
 mem:=by simp
 obj:=λi h st b hb=>by
  have e:b = it:=by simpa using hb
  subst e
  obtain ⟨o,e,c,d⟩:=st
  exact ⟨o,e,λv z=>by rw [d] at z; cases z⟩
 keep:=λi h h' st k=>st.at λo e=>k it (by simp) o e
 item:=by
  intro X hP hw hK hc i pins s σ H E I hf st hg
  subst hP hw hK
  obtain ⟨xs,x,hq,hx⟩:=hg
  obtain ⟨its,rv,p,hz⟩:=I.list hq
  obtain ⟨u,hu,ru⟩:=rv.get hx
  obtain ⟨f0,f1,f2,f3,f4,f5⟩:=hf it (by simp)
  refine wpAny_pyNext_list_item st p.isList (x:=u) (by simpa using hu) λh' st' sb=>?_
  have I1:Inv X pins σ H { s with heap:=h' }:=I.turned (t':=s.toks) (λb o hb e=>(sb.2 b hb).trans e) f0 f1 f3 f4 f5
  obtain ⟨o,e,c,d⟩:=id st'
  exact ⟨u,rfl,zPr (s:={ s with heap:=h' }) e c d (by decide) ⟨x,H,I1,ru,⟨rfl,λys hy=>by rw [I.list_inj hy hq]; exact hx⟩,st',λb hb=>(hf b hb).1⟩⟩
 done:=by
  intro X hP hw hK hc i pins s σ H E I hf st hg
  subst hP hw hK
  obtain ⟨xs,hq,hx⟩:=hg
  obtain ⟨its,rv,p,hz⟩:=I.list hq
  obtain ⟨f0,f1,f2,f3,f4,f5⟩:=hf it (by simp)
  have hl:=rv.length
  exact wpAny_pyNext_list_end (I.ok.hd hc) st p.isList (by simp; omega) λh' eb=>⟨rfl,I.turned (t':=s.toks) (λb o hb e=>eb b o hb e) f0 f1 f3 f4 f5⟩
 self:=λ_ _ _ _ _ st h=>wpAny_pyIter_listiter st h
theorem zL7 {P:Program} {w:World} {K:PySem.W.Frag} {tg:Expr} (it:Addr) (lo:Int) (n:Nat):Turn P w K tg (Itr lo n) [it] it (λi h=>IsRangeIter h it (lo + (i:Nat) * 1) ((n:Int) - (i:Nat)) 1) where
 mem:=by simp
 obj:=λi h st b hb=>by
  have e:b = it:=by simpa using hb
  subst e
  exact ⟨_,st,λv z=>by
   have z':Data.fields _ = Data.cell v:=z
   cases z'⟩
 keep:=λi h h' st k=>k it (by simp) _ st
 item:=by
  intro X hP hw hK hc i pins s σ H E I hf st hg
  subst hP hw hK
  obtain ⟨f0,f1,f2,f3,f4,f5⟩:=hf it (by simp)
  have W:=Walks.range (prog:=X.prog) (w:=X.w) (I.ok.hd hc) it lo 1 n
  refine W.item i s _ _ hg st λv h' tk hv st' kk=>?_
  obtain ⟨t,rfl⟩:=hv
  have I1:Inv X pins σ H { s with heap:=h',toks:=tk }:=I.turned (λb o hb e=>kk b o (by simpa using hb) e) f0 f1 f3 f4 f5
  refine ⟨_,rfl,zPr (s:={ s with heap:=h',toks:=tk }) (n:="range_iterator") st' rfl rfl (by decide) ⟨.int (lo + i),H,I1,⟨t,?_⟩,⟨rfl,rfl⟩,st',λb hb=>(hf b hb).1⟩⟩
  rw [Int.mul_one]
 done:=by
  intro X hP hw hK hc i pins s σ H E I hf st hg
  subst hP hw hK
  obtain ⟨f0,f1,f2,f3,f4,f5⟩:=hf it (by simp)
  exact wpAny_pyNext_range_end (I.ok.hd hc) st (by have:n <= i:=hg; omega) λh' eb=>⟨rfl,I.turned (t':=s.toks) (λb o hb e=>eb b o hb e) f0 f1 f3 f4 f5⟩
 self:=λ_ _ _ _ _ st h=>wpAny_pyIter_rangeiter st h
section
variable {X:Cx} {tg:Expr}
def iList (K:PySem.W.Frag) (tl:TE):TI:=λσ H R=>tl σ H λx H1=>∃ a,x = .ref a /\ (∃ xs,SqL K H1 a xs) /\ R (Itl K a) H1
theorem zJl (hl:PE X l tl):PI X tg l (iList X.K tl):=by
 intro pins s σ H R I h
 refine thn (hl pins s σ H _ I h) λv s1 ⟨x,H1,I1,r1,q1⟩=>?_
 obtain ⟨a,e,⟨xs,hq⟩,q⟩:=q1
 subst e
 cases r1
 obtain ⟨its,rv,p,hz⟩:=I1.list hq
 refine wpAny_pyIter_list p.isList ?_
 refine ⟨s1.heap.objs.size,[s1.heap.objs.size],_,_,H1,rfl,I1.kept (t':=s1.toks) λb o e=>get?_push_of_some _ e,zNo a _,⟨_,get?_push_size _ rfl,rfl,rfl⟩,λb hb=>?_,q⟩
 have e:b = s1.heap.objs.size:=by simpa using hb
 subst e
 exact I1.fpOk (Nat.le_refl _) (I1.hok.fresh (Nat.le_refl _))
theorem zRm {pins:List (Addr × Obj)} {σ:St} {H:Hp} {s:Shared} {R:It->Hp->Prop} {E:Value->Shared->Prop} {lo hi:Int} {t u v:Tok} {tk:Nat} (I:Inv X pins σ H s) (h1:-(2 ^ 62) <= lo) (h2:lo < 2 ^ 62) (h3:-(2 ^ 62) <= hi) (h4:hi < 2 ^ 62)
  (q:R (Itr lo (hi - lo).toNat) H):wpAny (model X.prog X.w) X.A (pyIter (.ref s.heap.objs.size)) (PIE X pins σ tg R) E { s with heap:=s.heap.push { cls:=.type "range",data:=.fields #[.int lo t,.int hi u,.int 1 v] },toks:=tk }:=by
 refine wpAny_pyIter_range (IsRange.new ..) (small_one h1 h2 h3 h4) ?_
 have I1:Inv X pins σ H { s with heap:=s.heap.push { cls:=.type "range",data:=.fields #[.int lo t,.int hi u,.int 1 v] },toks:=tk }:=I.kept λb o e=>get?_push_of_some _ e
 refine ⟨(s.heap.push { cls:=.type "range",data:=.fields #[.int lo t,.int hi u,.int 1 v] }).objs.size,[(s.heap.push { cls:=.type "range",data:=.fields #[.int lo t,.int hi u,.int 1 v] }).objs.size],_,_,H,rfl,
  I1.kept (t':=tk) λb o e=>get?_push_of_some _ e,zL7 _ lo (hi - lo).toNat,?_,λb hb=>?_,q⟩
 ·have e1:lo + ((0:Nat):Int) * 1 = lo:=by simp
  have e2:(((hi - lo).toNat:Nat):Int) - ((0:Nat):Int) = Builtin.Range.rangeSize lo hi 1:=by rw [rangeSize_one]; split <;> omega
  show IsRangeIter _ _ (lo + ((0:Nat):Int) * 1) ((((hi - lo).toNat:Nat):Int) - ((0:Nat):Int)) 1
  rw [e1,e2]
  exact get?_push_size _ rfl
 ·have e:b = (s.heap.push { cls:=.type "range",data:=.fields #[.int lo t,.int hi u,.int 1 v] }).objs.size:=by simpa using hb
  subst e
  exact I1.fpOk (Nat.le_refl _) (I1.hok.fresh (Nat.le_refl _))
def iRng1 (ta:TA):TI:=λσ H R=>ta σ H λvs H1=>∃ j:Int,vs = [.int j] /\ -(2 ^ 62) <= j /\ j < 2 ^ 62 /\ R (Itr 0 j.toNat) H1
theorem yX (hg:Gl X "range") (hm:X.mg "range" = none) (ha:PA X [a] ta) (hs:starEach [a] X.env = [(false,eval a X.env)]:=by rfl):PI X tg (.Call (.Name "range" p) [a] [] pos) (iRng1 ta):=by
 intro pins s σ H R I h
 refine Call_ (zA9 I hg hm boot_range (PyProof.Rows.callWith_type1 (thn (ha pos pins s σ H _ I h) λus s1 ⟨vs,H1,I1,r1,q1⟩=>?_) hs rfl))
 obtain ⟨j,e,q1,q2,q⟩:=q1
 subst e
 cases r1 with
 | cons r rr =>
  cases rr
  obtain ⟨t,rfl⟩:=r
  exact call_range_1 (zRm I1 (by omega) (by omega) q1 q2 (by simpa using q))
def tFor (wi:TI) (g:TG) (tb:TS):TS:=λD σ H=>wi σ H λJ H1=>∃ W:Nat->Nat->St->Hp->Prop,(∃ m,W 0 m σ H1) /\ ∀ i m σ H,W i m σ H ->
 (J.stop i H /\ D.nx σ H) \/ (J.go i H /\ ∃ N:St->Hp->Prop,(∀ σ' H',N σ' H'->∃ m',m' < m /\ W (i + 1) m' σ' H') /\ ∀ x H',J.yld i H x H'->g x σ H' λσ2 H2=>tb { D with nx:=N,ct:=N,bk:=D.nx } σ2 H2)
def zD8 (fp:List Addr) (h:Heap):List (Addr × Obj):=fp.filterMap λb=>(h.get? b).map λo=>(b,o)
theorem uH {h:Heap} (hb:b ∈ fp) (e:h.get? b = some o):(b,o) ∈ zD8 fp h:=List.mem_filterMap.mpr ⟨b,hb,by rw [e]; rfl⟩
theorem zOw (hp:p ∈ zD8 fp h):p.1 ∈ fp /\ h.get? p.1 = some p.2:=by
 obtain ⟨b,hb,e⟩:=List.mem_filterMap.mp hp
 cases q:h.get? b with
 | none=>rw [q] at e; cases e
 | some o =>
  rw [q] at e
  have e':(b,o) = p:=Option.some.inj e
  subst e'
  exact ⟨hb,q⟩
theorem Inv.pinned (I:Inv X pins σ H s) (hf:∀ b ∈ fp,FpOk X pins H b) (ho:∀ b ∈ fp,∃ o,s.heap.get? b = some o /\ ∀ v,o.data ≠ .cell v):Inv X (pins ++ zD8 fp s.heap) σ H s :=
 I.pins_of λp hp=>(mem_append.mp hp).elim (λz=>I.pin p (mem_append_right _ z)) λz=>by
  obtain ⟨hb,e⟩:=zOw z
  obtain ⟨f0,f1,f2,_⟩:=hf p.1 hb
  obtain ⟨o,e',d⟩:=ho p.1 hb
  rw [e] at e'; cases e'
  exact ⟨e,f0,f1,f2,d⟩
theorem Inv.unpinned (I:Inv X (pins ++ pl) σ H s):Inv X pins σ H s:=I.pins_of λp hp=>I.pin p (mem_append_right _ (mem_append_left _ hp))
theorem xH (hp:PassesOwn (model X.prog X.w) X.A X.env X.xe) (hc:X.calm = true) (hi:PI X tg iter wi) (hg:PG X tg g) (hb:PSs X body tb)
  (hs:∀ x,foldedSetIterable iter X.env x = pure x:=by intro _; rfl):PS X (.For tg iter body [] pos) (tFor wi g tb):=by
 intro pins s σ H D I h
 refine wpAny_For (thn (hi pins s σ H _ I h) λv s1 h1=>thn h1 λitv s2 h2=>?_) hs
 obtain ⟨it,fp,tn,J,H2,e,I2,T,st2,f2,W,⟨m0,w0⟩,turn⟩:=h2
 subst e
 have stat:∀ {H':Hp},(∀ b ∈ fp,H' b = none)->∀ b ∈ fp,FpOk X pins H' b:=λhn b hb=>⟨hn b hb,(f2 b hb).2⟩
 refine codeAny_forLoop_any (λn s'=>∃ i σ' H',Inv X pins σ' H' s' /\ tn i s'.heap /\ (∀ b ∈ fp,H' b = none) /\ W i n σ' H') ?_ m0 ⟨0,σ,H2,I2,st2,λb hb=>(f2 b hb).1,w0⟩
 rintro n s3 ⟨i,σ3,H3,I3,st3,fr3,w3⟩
 rcases turn i n σ3 H3 w3 with ⟨stop,qn⟩ | ⟨go,N,hN,step⟩
 ·refine wpAny_passesOwn hp (thn (T.done X rfl rfl rfl hc i pins s3 σ3 H3 X.xe I3 (stat fr3) st3 stop) λr s4 ⟨hr,I4⟩=>?_)
  subst hr
  exact wpAny_execs_nil ⟨σ3,H3,I4,qn⟩
 ·refine wpAny_passesOwn hp (thn (T.item X rfl rfl rfl hc i pins s3 σ3 H3 X.xe I3 (stat fr3) st3 go) λr s4 ⟨u,hr,h4⟩=>?_)
  subst hr
  refine wpAny_passesOwn hp (thn h4 λ_ s5 ⟨x,H5,I5,r5,y5,st5,fr5⟩=>?_)
  have I5':=I5.pinned (stat fr5) (T.obj _ _ st5)
  refine wpAny_passesOwn hp (thn (hg _ s5 σ3 H5 x u _ I5' r5 (step x H5 y5)) λ_ s6 ⟨σ6,H6,I6,q6⟩=>?_)
  refine wpAny_passesOwn hp (thn (hb _ s6 σ6 H6 _ I6 q6) λf s7 q7=>?_)
  have again:∀ {σ7:St} {H7:Hp},Inv X (pins ++ zD8 fp s5.heap) σ7 H7 s7->N σ7 H7->∃ m,m < n /\ ∃ i σ' H',Inv X pins σ' H' s7 /\ tn i s7.heap /\ (∀ b ∈ fp,H' b = none) /\ W i m σ' H':=λ{σ7 H7} I7 n7=>by
   obtain ⟨m',hm,w7⟩:=hN σ7 H7 n7
   refine ⟨m',hm,i + 1,σ7,H7,I7.unpinned,T.keep _ _ _ st5 λb hb o e=>(I7.pin (b,o) (mem_append_right _ (mem_append_right _ (uH hb e)))).1,λb hb=>?_,w7⟩
   obtain ⟨o,e,d⟩:=T.obj _ _ st5 b hb
   exact (I7.pin (b,o) (mem_append_right _ (mem_append_right _ (uH hb e)))).2.1
  cases f with
  | next=>obtain ⟨σ7,H7,I7,n7⟩:=q7; exact again I7 n7
  | cont=>obtain ⟨σ7,H7,I7,n7⟩:=q7; exact again I7 n7
  | brk=>obtain ⟨σ7,H7,I7,q7⟩:=q7; exact ⟨σ7,H7,I7.unpinned,q7⟩
  | ret v=>obtain ⟨x7,σ7,H7,I7,r7,q7⟩:=q7; exact ⟨x7,σ7,H7,I7.unpinned,r7,q7⟩
end
theorem zLj {K:PySem.W.Frag} {a:Addr} {xs:List V} {g:TG} {tb:TS} {D:Ends} {σ:St} {H:Hp} (Pv:Nat->St->Hp->Prop) (h0:Pv 0 σ H) (hl:∀ i σ H,i <= xs.length->Pv i σ H->SqL K H a xs)
  (hs:∀ i x σ H,xs[i]? = some x->Pv i σ H->g x σ H λσ2 H2=>tb { D with nx:=Pv (i + 1),ct:=Pv (i + 1),bk:=D.nx } σ2 H2) (hd:∀ σ H,Pv xs.length σ H->D.nx σ H) :
  ∃ W:Nat->Nat->St->Hp->Prop,(∃ m,W 0 m σ H) /\ ∀ i m σ H,W i m σ H ->
   ((Itl K a).stop i H /\ D.nx σ H) \/ ((Itl K a).go i H /\ ∃ N:St->Hp->Prop,(∀ σ' H',N σ' H'->∃ m',m' < m /\ W (i + 1) m' σ' H') /\ ∀ x H',(Itl K a).yld i H x H'->g x σ H' λσ2 H2=>tb { D with nx:=N,ct:=N,bk:=D.nx } σ2 H2):=by
 refine ⟨λi m σ H=>m = xs.length - i /\ i <= xs.length /\ Pv i σ H,⟨xs.length,by simp,Nat.zero_le _,h0⟩,?_⟩
 rintro i m σ H ⟨rfl,hi,p⟩
 have q:=hl i σ H hi p
 by_cases hlt:i < xs.length
 ·refine .inr ⟨⟨xs,xs[i],q,by simp [hlt]⟩,Pv (i + 1),λσ' H' p'=>⟨xs.length - (i + 1),by omega,rfl,hlt,p'⟩,λx H' y=>?_⟩
  obtain ⟨e,y⟩:=y
  subst e
  exact hs i x σ _ (y xs q) p
 ·have e:i = xs.length:=by omega
  subst e
  exact .inl ⟨⟨xs,q,Nat.le_refl _⟩,hd σ H p⟩
abbrev R2:=V->V->Hp->VK->Prop
def OpR (X:Cx) (f:Value->Value->Sem Value) (r:R2):Prop :=
 ∀ (pins:List (Addr × Obj)) (s:Shared) (σ:St) (H:Hp) (x y:V) (v u:Value) (Q:VK),Inv X pins σ H s->RelV x v->RelV y u->r x y H Q ->
  wpAny (model X.prog X.w) X.A (f v u) (EP X pins σ Q) X.xe s
def UnR (X:Cx) (f:Value->Sem Value) (r:V->Hp->VK->Prop):Prop :=
 ∀ (pins:List (Addr × Obj)) (s:Shared) (σ:St) (H:Hp) (x:V) (v:Value) (Q:VK),Inv X pins σ H s->RelV x v->r x H Q ->
  wpAny (model X.prog X.w) X.A (f v) (EP X pins σ Q) X.xe s
def zAx (X:Cx) (f:Value) (r:List V->Hp->VK->Prop):Prop :=
 ∀ (pins:List (Addr × Obj)) (s:Shared) (σ:St) (H:Hp) (xs:List V) (us:List Value) (Q:VK),Inv X pins σ H s->Vals xs us->r xs H Q ->
  wpAny (model X.prog X.w) X.A (call f us) (EP X pins σ Q) X.xe s
def tOp (r:R2) (ta tb:TE):TE:=λσ H Q=>ta σ H λx H1=>tb σ H1 λy H2=>r x y H2 Q
def tUn (r:V->Hp->VK->Prop) (ta:TE):TE:=λσ H Q=>ta σ H λx H1=>r x H1 Q
def rI (C:Int->Int->Prop) (g:Int->Int->V):R2:=λx y H Q=>∃ i j,x = .int i /\ y = .int j /\ C i j /\ Q (g i j) H
def rI0 (g:Int->Int->V):R2:=λx y H Q=>∃ i j,x = .int i /\ y = .int j /\ Q (g i j) H
def rU (g:Int->V):V->Hp->VK->Prop:=λx H Q=>∃ i,x = .int i /\ Q (g i) H
section
variable {X:Cx} {a b c:Expr} {ta tb tc:TE} {pos:Pos}
theorem binT (ha:PE X a ta) (hb:PE X b tb) {R:V->V->Hp->Prop} (I:Inv X pins σ H s)
  (h:ta σ H λx H1=>tb σ H1 λy H2=>R x y H2) {f:Value->Value->Sem Value}
  (hf:∀ v u s2 x y H2,Inv X pins σ H2 s2->RelV x v->RelV y u->R x y H2->wpAny (model X.prog X.w) X.A (f v u) Q X.xe s2) :
  wpAny (model X.prog X.w) X.A (eval a X.env) (λv s₁=>wpAny (model X.prog X.w) X.A (eval b X.env) (λu s₂=>wpAny (model X.prog X.w) X.A (f v u) Q X.xe s₂) X.xe s₁) X.xe s:=by
 refine thn (ha pins s σ H _ I h) λv s1 ⟨x,H1,I1,r1,q1⟩=>?_
 refine thn (hb pins s1 σ H1 _ I1 q1) λu s2 ⟨y,H2,I2,r2,q2⟩=>?_
 exact hf v u s2 x y H2 I2 r1 r2 q2
theorem yC (ho:OpR X (binaryOp op) r) (ha:PE X a ta) (hb:PE X b tb):PE X (.BinOp a op b pos) (tOp r ta tb):=by
 intro pins s σ H Q I h
 exact wpAny_BinOp (binT ha hb I h λv u s2 x y H2 I2 rx ry q=>ho pins s2 σ H2 x y v u Q I2 rx ry q)
theorem pe_un (ho:UnR X (unaryOp op) r) (ha:PE X a ta):PE X (.UnaryOp op a pos) (tUn r ta):=by
 intro pins s σ H Q I h
 exact UnaryOp_ (thn (ha pins s σ H _ I h) λv s1 ⟨x,H1,I1,r1,q1⟩=>ho pins s1 σ H1 x v Q I1 r1 q1)
theorem opI {f:Value->Value->Sem Value} {C:Int->Int->Prop} {g:Int->Int->Int}
  (rule:∀ (i j:Int) (t u:Tok) (s:Shared) (Q:Value->Shared->Prop) (E:Value->Shared->Prop),C i j->Q (.int (g i j) s.toks) { s with toks:=s.toks + 1 }->wpAny (model X.prog X.w) X.A (f (.int i t) (.int j u)) Q E s) :
  OpR X f (rI C λi j=>.int (g i j)):=by
 intro pins s σ H x y v u Q I rx ry h
 obtain ⟨i,j,rfl,rfl,hc,q⟩:=h
 obtain ⟨t,rfl⟩:=rx
 obtain ⟨t',rfl⟩:=ry
 exact rule i j t t' s _ _ hc ⟨.int (g i j),H,I.tok _,⟨_,rfl⟩,q⟩
theorem opI0 {f:Value->Value->Sem Value} {g:Int->Int->Int}
  (rule:∀ (i j:Int) (t u:Tok) (s:Shared) (Q:Value->Shared->Prop) (E:Value->Shared->Prop),Q (.int (g i j) s.toks) { s with toks:=s.toks + 1 }->wpAny (model X.prog X.w) X.A (f (.int i t) (.int j u)) Q E s) :
  OpR X f (rI0 λi j=>.int (g i j)):=by
 intro pins s σ H x y v u Q I rx ry h
 obtain ⟨i,j,rfl,rfl,q⟩:=h
 obtain ⟨t,rfl⟩:=rx
 obtain ⟨t',rfl⟩:=ry
 exact rule i j t t' s _ _ ⟨.int (g i j),H,I.tok _,⟨_,rfl⟩,q⟩
theorem opB0 {f:Value->Value->Sem Value} {g:Int->Int->Bool}
  (rule:∀ (i j:Int) (t u:Tok) (s:Shared) (Q:Value->Shared->Prop) (E:Value->Shared->Prop),Q (.bool (g i j)) s->wpAny (model X.prog X.w) X.A (f (.int i t) (.int j u)) Q E s) :
  OpR X f (rI0 λi j=>.bl (g i j)):=by
 intro pins s σ H x y v u Q I rx ry h
 obtain ⟨i,j,rfl,rfl,q⟩:=h
 obtain ⟨t,rfl⟩:=rx
 obtain ⟨t',rfl⟩:=ry
 exact rule i j t t' s _ _ ⟨.bl (g i j),H,I,rfl,q⟩
def CDiv (i j:Int):Prop:=0 < j /\ j < 1073741824
def CPow (i j:Int):Prop:=0 <= j /\ j <= 1000000 /\ i.natAbs < 2 ^ 64
def CMul (i j:Int):Prop:=(-(2 ^ 64) < i /\ i < 2 ^ 64) \/ (-(2 ^ 64) < j /\ j < 2 ^ 64)
theorem CMul.ok (h:CMul i j):IntMulOk i j:=by
 rcases h with ⟨h1,h2⟩ | ⟨h1,h2⟩
 ·exact .of_left (intBits_le_64 h1 h2)
 ·exact .of_right (intBits_le_64 h1 h2)
theorem uA:OpR X (binaryOp .Add) (rI0 λi j=>.int (i + j)):=opI0 λ_ _ _ _ _ _ _ q=>add_int q
theorem zOq:OpR X (binaryOp .Sub) (rI0 λi j=>.int (i - j)):=opI0 λ_ _ _ _ _ _ _ q=>sub_int q
theorem zOr:OpR X (binaryOp .Mult) (rI CMul λi j=>.int (i * j)):=opI λ_ _ _ _ _ _ _ hc q=>mul_int q hc.ok
theorem xI:OpR X (binaryOp .FloorDiv) (rI CDiv λi j=>.int (i / j)):=opI λi j _ _ _ _ _ hc q=>by
 have h1:(0:Int) < j:=hc.1
 have h2:j < 1073741824:=hc.2
 exact floordiv_int (by omega) (by rw [Int.fdiv_eq_ediv_of_nonneg i (by omega)]; exact q) (.inl (PyProof.noPylong_small (by omega)))
theorem xD:OpR X (binaryOp .Mod) (rI (λ_ j=>0 < j) λi j=>.int (i % j)):=opI λi j _ _ _ _ _ hc q=>by
 have h1:(0:Int) < j:=hc
 exact mod_int' (by omega) (by rw [Int.fmod_eq_emod_of_nonneg i (by omega)]; exact q)
theorem op_pow:OpR X (binaryOp .Pow) (rI CPow λi j=>.int (i ^ j.toNat)):=opI λ_ _ _ _ _ _ _ hc q=>pow_int_small hc.1 hc.2.1 hc.2.2 q
theorem unI {f:Value->Sem Value} {g:Int->Int}
  (rule:∀ (i:Int) (t:Tok) (s:Shared) (Q:Value->Shared->Prop) (E:Value->Shared->Prop),Q (.int (g i) s.toks) { s with toks:=s.toks + 1 }->wpAny (model X.prog X.w) X.A (f (.int i t)) Q E s) :
  UnR X f (rU λi=>.int (g i)):=by
 intro pins s σ H x v Q I rx h
 obtain ⟨i,rfl,q⟩:=h
 obtain ⟨t,rfl⟩:=rx
 exact rule i t s _ _ ⟨.int (g i),H,I.tok _,⟨_,rfl⟩,q⟩
theorem zNm:UnR X (unaryOp .USub) (rU λi=>.int (-i)):=unI λ_ _ _ _ _ q=>neg_int q
end
section
variable {X:Cx} {a b c:Expr} {ta tb tc:TE} {pos:Pos}
theorem fin_bl (I:Inv X pins σ H s) (q:Q (.bl k) H) (e:k = k'):EP X pins σ Q (.bool k') s:=by
 subst e
 exact ⟨.bl k,H,I,rfl,q⟩
theorem zH2:OpR X (compareOp .Lt) (rI0 λi j=>.bl (decide (i < j))):=opB0 λ_ _ _ _ _ _ _ q=>lt_int q
theorem op_le:OpR X (compareOp .LtE) (rI0 λi j=>.bl (decide (i <= j))):=opB0 λ_ _ _ _ _ _ _ q=>le_int q
theorem zRy:OpR X (compareOp .Gt) (rI0 λi j=>.bl (decide (j < i))):=opB0 λ_ _ _ _ _ _ _ q=>gt_int q
theorem zOs:OpR X (compareOp .In) (λx y H Q=>∃ i j,x = .str i /\ y = .str j /\ Q (.bl (!(Builtin.Str.occurrences j i 0 j.length 1).isEmpty)) H):=by
 intro pins s σ H x y v u Q I rx ry h
 obtain ⟨i,j,rfl,rfl,q⟩:=h
 obtain ⟨t,rfl⟩:=rx
 obtain ⟨t',rfl⟩:=ry
 exact in_str (fin_bl I q rfl)
theorem yI (b:Expr) (h:op ≠ .In:=by decide) (h2:op ≠ .NotIn:=by decide):behindInMarks op b = false:=by
 have e1:(op == CmpOp.In) = false:=by cases op <;> first | rfl | exact absurd rfl h
 have e2:(op == CmpOp.NotIn) = false:=by cases op <;> first | rfl | exact absurd rfl h2
 cases b <;> simp [behindInMarks,e1,e2]
theorem vE (ho:OpR X (compareOp op) r) (ha:PE X a ta) (hb:PE X b tb) (hm:behindInMarks op b = false):PE X (.Compare a [op] [b] pos) (tOp r ta tb):=by
 intro pins s σ H Q I h
 exact wpAny_Compare1 (binT ha hb I h λv u s2 x y H2 I2 rx ry q=>ho pins s2 σ H2 x y v u Q I2 rx ry q) hm
def tTest (t:TE):TT:=λσ H Q=>t σ H λx H'=>∃ k,x = .bl k /\ Q k H'
theorem zU (ho:OpR X (compareOp op) r) (ha:PE X a ta) (hb:PE X b tb) (hm:behindInMarks op b = false):PT X (.Compare a [op] [b] pos) (tTest (tOp r ta tb)):=by
 intro pins s σ H Q I h
 refine wpAny_isTrue_Compare1 (thn (ha pins s σ H _ I h) λv s1 ⟨x,H1,I1,r1,q1⟩=>thn (hb pins s1 σ H1 _ I1 q1) λu s2 ⟨y,H2,I2,r2,q2⟩ =>
  thn (ho pins s2 σ H2 x y v u _ I2 r1 r2 q2) λc s3 ⟨z,H3,I3,r3,k,e,q3⟩=>?_) hm
 subst e
 cases r3
 exact wpAny_truthy_bool ⟨H3,I3,q3⟩
def zS7 (r r':R2) (ta tb tc:TE):TE:=λσ H Q=>ta σ H λx H1=>tb σ H1 λy H2=>r x y H2 λz H3=>∃ k,z = .bl k /\
 (if k = true then tc σ H3 λw' H4=>r' y w' H4 Q else Q (.bl false) H3)
theorem zK5 (ho:OpR X (compareOp op) r) (ho':OpR X (compareOp op') r') (ha:PE X a ta) (hb:PE X b tb) (hc:PE X c tc)
  (hm:lastMarks [op,op'] [b,c] = false:=by with_unfolding_all rfl):PE X (.Compare a [op,op'] [b,c] pos) (zS7 r r' ta tb tc):=by
 intro pins s σ H Q I h
 refine Compare_chain (thn (ha pins s σ H _ I h) λv s1 ⟨x,H1,I1,r1,q1⟩=>chain_link (thn (hb pins s1 σ H1 _ I1 q1) λu s2 ⟨y,H2,I2,r2,q2⟩ =>
  thn (ho pins s2 σ H2 x y v u _ I2 r1 r2 q2) λd s3 ⟨z,H3,I3,r3,k,e,q3⟩=>?_)) hm
 subst e
 cases r3
 refine wpAny_truthy_bool ?_
 cases k with
 | false=>exact ite_ff ⟨.bl false,H3,I3,rfl,q3⟩
 | true=>exact ite_tt (chain_last (thn (hc pins s3 σ H3 _ I3 q3) λw' s4 ⟨z',H4,I4,r4,q4⟩=>ho' pins s4 σ H4 y z' u w' Q I4 r2 r4 q4))
theorem zLc:(sizeLine:Nat) < 2 ^ 63:=by rw [sizeLine_eq]; decide
theorem zMg:OpR X (binaryOp .Add) (λx y H Q=>∃ i j,x = .str i /\ y = .str j /\ i.length + j.length <= sizeLine /\ Q (.str (i ++ j)) H):=by
 intro pins s σ H x y v u Q I rx ry h
 obtain ⟨i,j,rfl,rfl,hz,q⟩:=h
 obtain ⟨t,rfl⟩:=rx
 obtain ⟨t',rfl⟩:=ry
 exact add_str (λt' tk=>⟨.str (i ++ j),H,I.tok _,⟨_,rfl⟩,q⟩) hz
def zL0 (b:Expr):Prop:=∀ o i,subscripted b false o i = operate [o,i] (getItem o i)
theorem zJm (ha:PE X a ta) (hb:PE X b tb) (hs:zL0 b) :
  PE X (.Subscript a b pos) (tOp (λx y H Q=>∃ z i c,x = .str z /\ y = .int i /\ 0 <= i /\ i < 2 ^ 63 /\ i < z.length /\ z.cps[i.toNat]? = some c /\ Q (.str ⟨#[c]⟩) H) ta tb):=by
 intro pins s σ H Q I h
 refine Subscript_ (binT ha hb I h λv u s2 x y H2 I2 rx ry q=>?_)
 obtain ⟨z,i,c,rfl,rfl,h0,h63,h1,hc,q⟩:=q
 obtain ⟨t,rfl⟩:=rx
 obtain ⟨t',rfl⟩:=ry
 have e:seqIndex? i z.length = some i.toNat:=PySem.StrLaws.seqIndex_nonneg h0 h1
 exact tail_any (typeIs_str s2 z t) slot_str_getitem.lookup (getItem_str (c:=c) (by
  have e1:decide (i < -(2 ^ 63:Int)) = false:=decide_eq_false (by omega)
  have e2:decide (i ≥ 2 ^ 63) = false:=decide_eq_false (by omega)
  rw [e1,e2] <;> rfl) (by rw [e]; exact hc) ⟨.str ⟨#[c]⟩,H2,I2.tok _,⟨_,rfl⟩,q⟩) (hs _ _)
theorem zFe (r:Vals [x] us):∃ u,us = [u] /\ RelV x u:=by
 cases r with
 | cons r1 r2=>cases r2; exact ⟨_,rfl,r1⟩
theorem vals2 (r:Vals [x,y] us):∃ u w',us = [u,w'] /\ RelV x u /\ RelV y w':=by
 cases r with
 | cons r1 r2 =>
  cases r2 with
  | cons r3 r4=>cases r4; exact ⟨_,_,rfl,r1,r3⟩
theorem zIv (hc:X.calm = true):zAx X (.builtin "min") (λxs H Q=>∃ i j,xs = [.int i,.int j] /\ Q (.int (if j < i then j else i)) H):=by
 intro pins s σ H xs us Q I r h
 obtain ⟨i,j,rfl,q⟩:=h
 obtain ⟨u,w',rfl,⟨t,rfl⟩,⟨t',rfl⟩⟩:=vals2 r
 refine min_two_ints (I.ok.hd hc) λh' tk k=>⟨_,H,I.kept k,?_,q⟩
 by_cases hj:j < i
 ·rw [if_pos hj,if_pos hj]; exact ⟨_,rfl⟩
 ·rw [if_neg hj,if_neg hj]; exact ⟨_,rfl⟩
theorem zQm:zAx X (.type "int") (λxs H Q=>(∃ i,xs = [.int i] /\ Q (.int i) H) \/ ∃ k,xs = [.bl k] /\ Q (.int (if k then 1 else 0)) H):=by
 intro pins s σ H xs us Q I r h
 rcases h with ⟨i,rfl,q⟩ | ⟨k,rfl,q⟩
 ·obtain ⟨u,rfl,t,rfl⟩:=zFe r
  exact call_int_int ⟨.int i,H,I,⟨_,rfl⟩,q⟩
 ·obtain ⟨u,rfl,r1⟩:=zFe r
  cases r1
  exact call_int_bool ⟨.int (if k then 1 else 0),H,I.tok _,⟨_,rfl⟩,q⟩
def LenV (K:PySem.W.Frag) (x:V) (H:Hp) (n:Nat):Prop :=
 match x with
 | .str y=>y.length <= sizeLine /\ n = y.length
 | .byt y=>y.size <= sizeLine /\ n = y.size
 | .ref p=>(∃ xs,SqL K H p xs /\ n = xs.length) \/ ∃ xs,SqT K H p xs /\ n = xs.length
 | _=>False
theorem zSs:zAx X (.builtin "len") (λxs H Q=>∃ x n,xs = [x] /\ LenV X.K x H n /\ Q (.int n) H):=by
 intro pins s σ H xs us Q I r h
 obtain ⟨x,n,rfl,e,q⟩:=h
 obtain ⟨u,rfl,rx⟩:=zFe r
 have hl:=zLc
 have hs:sizeLine = 16777216:=sizeLine_eq
 cases x with
 | str y =>
  obtain ⟨t,rfl⟩:=rx
  obtain ⟨hy,e'⟩:y.length <= sizeLine /\ n = y.length:=e
  subst e'
  exact len_str (by omega) ⟨.int _,H,I.tok _,⟨_,rfl⟩,q⟩
 | byt y =>
  obtain ⟨t,rfl⟩:=rx
  obtain ⟨hy,e'⟩:y.size <= sizeLine /\ n = y.size:=e
  subst e'
  exact PySem.W.len_bytes (by omega) ⟨.int _,H,I.tok _,⟨_,rfl⟩,q⟩
 | ref p =>
  cases rx
  have e':(∃ xs,SqL X.K H p xs /\ n = xs.length) \/ ∃ xs,SqT X.K H p xs /\ n = xs.length:=e
  rcases e' with ⟨xs,hx,e'⟩ | ⟨xs,hx,e'⟩
  ·subst e'
   obtain ⟨its,r',pl,hz⟩:=I.list hx
   have hlen:=r'.length
   exact Calls.call_len_list pl.isList (by simp only [size_toArray]; omega) ⟨.int xs.length,H,I.tok _,⟨_,by simp only [size_toArray]; rw [hlen]⟩,q⟩
  ·subst e'
   obtain ⟨its,r',pl,hz⟩:=I.tuple hx
   have hlen:=r'.length
   exact len_tuple pl (by simp only [size_toArray]; omega) ⟨.int xs.length,H,I.tok _,⟨_,by simp only [size_toArray]; rw [hlen]⟩,q⟩
 | _=>exact (show False from e).elim
end
structure ObjM (h:Heap) (x dx C:Addr) (mA:Str->Option Value):Prop where
 obj:h.get? x = some (instObj C dx)
 ns:h.Ns1 dx mA
 ne:dx ≠ x
theorem zO9 {h:Heap} (n:h.Ns1 dx mA):∃ od,h.get? dx = some od /\ ∀ name,lookIn name od = some (mA name):=by
 obtain ⟨o,es,ep,ho,hd,hk,_,hm⟩:=n
 refine ⟨o,ho,λname=>?_⟩
 have e:=hm name
 unfold nsFind findBy at e
 rw [<- Array.find?_toList] at e
 unfold lookIn
 rw [hd]
 dsimp only
 split
 ·rename_i y q
  rw [q] at e
  exact congrArg some e
 ·rename_i q
  rw [q] at e
  have a:es.toList.any (·.refKey) = false:=by
   rw [List.any_eq_false]
   intro y hy
   obtain ⟨z,t,hkey⟩:=hk y (Array.mem_toList_iff.mp hy)
   simp [DictEntry.refKey,hkey]
  have a':¬ es.toList.any (·.refKey) = true:=by rw [a]; exact Bool.false_ne_true
  rw [if_neg a']
  exact congrArg some e
theorem ObjM.look (I:ObjM h x dx C mA):∃ od,PySem.W.InstAt h x (instObj C dx) C (some od) /\ ∀ name,lookIn name od = some (mA name) :=
 let ⟨od,ho,hl⟩:=zO9 I.ns
 ⟨od,⟨I.obj,rfl,rfl,ho⟩,hl⟩
section
variable {prog:Program} {w:World} {A:Around} {E:Value->Shared->Prop} {s:Shared} {K:PySem.W.Frag} {x dx C f:Addr} {mA:Str->Option Value} {name:Str} {v:Value}
theorem get_map {Q:Value->Shared->Prop} (X:K.In s.heap) (I:ObjM s.heap x dx C mA) (hg:plainGet K C name = true) (hh:hasDictIn K C = true)
  (ha:findIn K (.ref C) name = some none) (hv:mA name = some v) (hv':PySem.W.handedIn v = true) (h:Q v { s with toks:=s.toks + 1 }) :
  wpAny (model prog w) A (getAttr (.ref x) name expr) Q E s:=by
 obtain ⟨od,J,hl⟩:=I.look
 exact PySem.W.get_value X J (plainGet_of hg).1 (PySem.W.findObj_own hh ha rfl (by rw [hl,hv])) hv' h
theorem zSe {Q:Value × List Value->Shared->Prop} (X:K.In s.heap) (I:ObjM s.heap x dx C mA) (hg:plainGet K C name = true)
  (hf:findIn K (.ref C) name = some (some (.ref f))) (ht:isFn K (.ref f) = true) (hv:mA name = none) (h:Q (.ref f,[.ref x]) s) :
  wpAny (model prog w) A (getMethod (.ref x) name pl) Q E s:=by
 obtain ⟨od,J,hl⟩:=I.look
 exact PySem.W.method_fn X J (plainGet_of hg).1 (plainGet_of hg).2 hf (beq_iff_eq.mp ht) (by show (lookIn name od).map (·.isSome) = some false; rw [hl,hv]; rfl) h
theorem set_map {Q:Unit->Shared->Prop} (X:K.In s.heap) (I:ObjM s.heap x dx C mA)
  (hs:findIn K (.ref C) "__setattr__" = some (some (.builtin "object.__setattr__"))) (hp:PySem.W.plainOver K C = true) (ht:takerIn K C name = some none) (hh:hasDictIn K C = true)
  (hw:PySem.Within mA ns) (hsz:ns.length <= sizeLine)
  (h:∀ h',ObjM h' x dx C (λy=>if y = name then some v else mA y)->SameBut dx s.heap h'->Q () { s with heap:=h',toks:=s.toks + 2 }) :
  wpAny (model prog w) A (setAttr (.ref x) name v) Q E s:=by
 obtain ⟨od,J,hl⟩:=I.look
 refine PySem.W.set_plain X J hs (PySem.W.osa_open (s:={ s with toks:=s.toks + 1 }) (r:=none) X J hp ht λb=>?_)
 obtain ⟨cd,hc,hd'⟩:=PySem.W.any_some hh
 have hx:s.heap.get? x = some ⟨.ref C,some dx,.plain,#[]⟩:=I.obj
 refine wpAny_bind (wpAny_pure (wpAny_bind (wpAny_bind (wpAny_loadPart hx (wpAny_bind (PySem.W.Looks.here (s:={ s with toks:=s.toks + 1 }) (PySem.W.looks_clsIn X hc) ?_))))))
 rw [hd']
 refine wpAny_pure (a:=some dx) (wpAny_bind (wpAny_pure (wpAny_bind ?_)))
 refine wpAny_nsSet1 (s:={ s with toks:=s.toks + 1 }) I.ns λh' hn2 hs2=>?_
 obtain ⟨oD,esD,epD,hoD,hdD,hcD⟩:=hn2.count (PySem.Within.cons name v hw)
 refine wpAny_bind (wpAny_lookBehind hoD (by rw [hdD]; exact pastItsLine_dict (Nat.le_trans hcD (by rw [length_cons]; omega))) ?_)
 exact wpAny_pure (h _ ⟨(hs2.2 _ (Ne.symm I.ne)).trans I.obj,hn2,I.ne⟩ hs2)
theorem zR4 (X:K.In s.heap) (hm:PySem.W.makesIn K C = true)
  (hi:findIn K (.ref C) "__init__" = some (some (.ref f))) (hf:PySem.W.typeIn K (.ref f) = some (.type "function"))
  (h:codeAny (model prog w) (A.under (.builtin "type.__call__" ⟨.ref C :: vs,kw⟩)) (.call (.ref f) ⟨.ref (s.heap.objs.size + 1) :: vs,kw⟩) (PySem.W.InitBack (s.heap.objs.size + 1) R)
   { s with heap:=(s.heap.push emptyDict).push (instObj C s.heap.objs.size) }) :
  codeAny (model prog w) A (.call (.ref C) ⟨vs,kw⟩) R s:=by
 obtain ⟨hh,g,d,t,os⟩:=s
 exact PySem.W.make_core (PySem.W.makes_of X hm) (PySem.W.looks_findIn X hi) (λself=>PySem.W.bind_fn X self hf) (.inl rfl) h
end
def putF (f:Str) (v:V):List (Str × V)->List (Str × V)
 | []=>[(f,v)]
 | (g,x) :: r=>if g = f then (g,v) :: r else (g,x) :: putF f v r
theorem yE (f g:Str) (v:V):∀ fs:List (Str × V),(putF f v fs).lookup g = if g = f then some v else fs.lookup g
 | []=>by
  show List.lookup g [(f,v)] = _
  by_cases h:g = f
  ·have hb:(g == f) = true:=beq_iff_eq.mpr h
   simp only [List.lookup,hb,if_pos h]
  ·have hb:(g == f) = false:=beq_eq_false_iff_ne.mpr h
   simp only [List.lookup,hb,if_neg h]
 | (k,x) :: r=>by
  have ih:=yE f g v r
  rw [show putF f v ((k,x) :: r) = (if k = f then (k,v) :: r else (k,x) :: putF f v r) from rfl]
  by_cases hk:k = f
  ·rw [if_pos hk]
   by_cases h:g = k
   ·have hb:(g == k) = true:=beq_iff_eq.mpr h
    simp only [List.lookup,hb,if_pos (h.trans hk)]
   ·have hb:(g == k) = false:=beq_eq_false_iff_ne.mpr h
    simp only [List.lookup,hb,if_neg (λe:g = f=>h (e.trans hk.symm))]
  ·rw [if_neg hk]
   by_cases h:g = k
   ·have hb:(g == k) = true:=beq_iff_eq.mpr h
    simp only [List.lookup,hb,if_neg (λe:g = f=>hk (h.symm.trans e))]
   ·have hb:(g == k) = false:=beq_eq_false_iff_ne.mpr h
    simp only [List.lookup,hb]
    exact ih
theorem zEl (f:Str) (v:V):∀ fs:List (Str × V),f ∈ (putF f v fs).map (·.1) /\ ∀ g,g ∈ fs.map (·.1)->g ∈ (putF f v fs).map (·.1)
 | []=>⟨by simp [putF],λg h=>by simp at h⟩
 | (k,x) :: r=>by
  obtain ⟨i1,i2⟩:=zEl f v r
  rw [show putF f v ((k,x) :: r) = (if k = f then (k,v) :: r else (k,x) :: putF f v r) from rfl]
  by_cases hk:k = f
  ·rw [if_pos hk]
   subst hk
   exact ⟨by simp,λg h=>by simpa using h⟩
  ·rw [if_neg hk]
   refine ⟨?_,λg h=>?_⟩
   ·rw [map_cons]
    exact mem_cons_of_mem _ i1
   ·rw [map_cons] at h ⊢
    rcases mem_cons.mp h with e | e
    ·exact mem_cons.mpr (.inl e)
    ·exact mem_cons_of_mem _ (i2 g e)
theorem zEk (f:Str) (v:V):∀ fs:List (Str × V),(putF f v fs).length <= fs.length + 1
 | []=>by simp [putF]
 | (k,x) :: r=>by
  have ih:=zEk f v r
  rw [show putF f v ((k,x) :: r) = (if k = f then (k,v) :: r else (k,x) :: putF f v r) from rfl]
  by_cases hk:k = f
  ·rw [if_pos hk,length_cons,length_cons]; omega
  ·rw [if_neg hk,length_cons,length_cons]; omega
theorem RelO.some_of (r:RelO (some v) o):∃ u,o = some u /\ RelV v u:=by
 cases o with
 | none=>exact (show False from r).elim
 | some u=>exact ⟨u,rfl,r⟩
theorem RelO.none_of (r:RelO none o):o = none:=by
 cases o with
 | none=>rfl
 | some u=>exact (show False from r).elim
theorem zPq (r:RelV v u):PySem.W.handedIn u = true:=by
 cases v with
 | non=>cases (show u = Value.none from r); rfl
 | bl b=>cases (show u = Value.bool b from r); rfl
 | int i=>obtain ⟨t,e⟩:=(show ∃ t,u = Value.int i t from r); cases e; rfl
 | str x=>obtain ⟨t,e⟩:=(show ∃ t,u = Value.str x t from r); cases e; rfl
 | byt b=>obtain ⟨t,e⟩:=(show ∃ t,u = Value.bytes b t from r); cases e; rfl
 | flt b=>obtain ⟨t,e⟩:=(show ∃ t,u = Value.float b t from r); cases e; rfl
 | ref a=>cases (show u = Value.ref a from r); rfl
 | ty n=>cases (show u = Value.type n from r); rfl
section
variable {P:Program} {w:World} {H H':Hp} {h h':Heap} {a C dx:Addr} {fs fs':List (Str × V)}
theorem zG2 (hok:HOk P w H h) (e:H a = some (.ins C dx fs)):∃ mA,ObjM h a dx C mA /\ (∀ f,RelO (fs.lookup f) (mA f)) /\ PySem.Within mA (fs.map (·.1)) /\ fs.length <= 1000 /\ H dx = some (.own a):=by
 obtain ⟨d,z,ne,ob,mA,n,r,q⟩:=(show ObjOk P w H h a (.ins C dx fs) from hok a _ e)
 exact ⟨mA,⟨ob,n,ne⟩,r,q,z,d⟩
end
structure Cls (K:PySem.W.Frag) (C:Addr):Prop where
 pg:plainGet K C Str.empty = true
 hd:hasDictIn K C = true
 po:PySem.W.plainOver K C = true
 sa:findIn K (.ref C) "__setattr__" = some (some (.builtin "object.__setattr__"))
theorem Cls.get {K:PySem.W.Frag} {C:Addr} (c:Cls K C) (f:Str):plainGet K C f = true:=c.pg
def NoAttr (K:PySem.W.Frag) (C:Addr) (f:Str):Prop:=findIn K (.ref C) f = some none
theorem NoAttr.taker {K:PySem.W.Frag} {C:Addr} {f:Str} (n:NoAttr K C f):takerIn K C f = some none:=by
 unfold takerIn
 rw [show findIn K (.ref C) f = some none from n]
 rfl
structure Con (K:PySem.W.Frag) (C:Addr) (f:Str) (v:V) (u:Value):Prop where
 at_:findIn K (.ref C) f = some (some u)
 rel:RelV v u
 get:specialIn K u "__get__" = some none
 cp:PySem.W.copiedNames.contains f = false
structure Meth (K:PySem.W.Frag) (C:Addr) (m:Str) (f:Addr):Prop where
 at_:findIn K (.ref C) m = some (some (.ref f))
 fn:isFn K (.ref f) = true
 kp:keepIn K (.ref f) = true
section
variable {X:Cx} {pins:List (Addr × Obj)} {σ:St} {H:Hp} {s:Shared} {a C dx:Addr} {fs:List (Str × V)} {f:Str} {v:V} {A:Around} {E:Value->Shared->Prop}
theorem zMu {Q:Value->Shared->Prop} (I:Inv X pins σ H s) (e:H a = some (.ins C dx fs)) (c:Cls X.K C) (n:NoAttr X.K C f) (l:fs.lookup f = some v)
  (h:∀ u s',Inv X pins σ H s'->RelV v u->Q u s'):wpAny (model X.prog X.w) A (getAttr (.ref a) f b) Q E s:=by
 obtain ⟨mA,O,r,_,_,_⟩:=zG2 I.hok e
 obtain ⟨u,hu,ru⟩:=RelO.some_of (v:=v) (o:=mA f) (by rw [<- l]; exact r f)
 exact get_map I.kIn O (c.get f) c.hd n hu (zPq ru) (h u _ (I.tok _) ru)
theorem zF0 {Q:Value × List Value->Shared->Prop} (I:Inv X pins σ H s) (e:H a = some (.ins C dx fs)) (c:Cls X.K C) (k:Meth X.K C m g) (l:fs.lookup m = none)
  (h:Q (.ref g,[.ref a]) s):wpAny (model X.prog X.w) A (getMethod (.ref a) m pl) Q E s:=by
 obtain ⟨mA,O,r,_,_,_⟩:=zG2 I.hok e
 have hn:mA m = none:=RelO.none_of (by rw [<- l]; exact r m)
 exact zSe I.kIn O (c.get m) k.at_ k.fn hn h
theorem zMb {Q:Unit->Shared->Prop} (I:Inv X pins σ H s) (e:H a = some (.ins C dx fs)) (c:Cls X.K C) (n:NoAttr X.K C f) (hl:fs.length < 1000) (ry:RelV y u)
  (h:∀ s',Inv X pins σ (upd H a (.ins C dx (putF f y fs))) s'->Q () s'):wpAny (model X.prog X.w) A (setAttr (.ref a) f u) Q E s:=by
 obtain ⟨mA,O,r,wi,_,ho⟩:=zG2 I.hok e
 have hz:(fs.map (·.1)).length <= sizeLine:=by rw [length_map,sizeLine_eq]; omega
 refine set_map I.kIn O c.sa c.po n.taker c.hd wi hz λh' O' sb=>h _ ?_
 have hd:∃ o,h'.get? dx = some o:=let ⟨o,_,_,e',_⟩:=O'.ns; ⟨o,e'⟩
 refine I.write (x:=a) (e:=dx) (by rw [e]; exact True.intro) (.inr ho) (λb q hb z=>(sb.2 b hb).trans z) hd ?_
 refine ⟨by rw [zQ O.ne]; exact ho,?_,O.ne,O'.obj,_,O'.ns,λg=>?_,λg hg=>?_⟩
 ·have:=zEk f y fs; omega
 ·show RelO ((putF f y fs).lookup g) (if g = f then some u else mA g)
  rw [yE]
  by_cases q:g = f
  ·rw [if_pos q,if_pos q]; exact ry
  ·rw [if_neg q,if_neg q]; exact r g
 ·by_cases q:g = f
  ·rw [q]; exact (zEl f y fs).1
  ·refine (zEl f y fs).2 g (wi g λz=>hg ?_)
   show (if g = f then some u else mA g) = none
   rw [if_neg q]; exact z
theorem Inv.made (I:Inv X pins σ H s):Inv X pins σ (upd (upd H s.heap.objs.size (.own (s.heap.objs.size + 1))) (s.heap.objs.size + 1) (.ins C s.heap.objs.size []))
  { s with heap:=(s.heap.push emptyDict).push (instObj C s.heap.objs.size) }:=by
 have e1:(s.heap.push emptyDict).get? s.heap.objs.size = some emptyDict:=get?_push_size s.heap rfl
 have e2:((s.heap.push emptyDict).push (instObj C s.heap.objs.size)).get? (s.heap.objs.size + 1) = some (instObj C s.heap.objs.size):=by
  have:=get?_push_size (s.heap.push emptyDict) (o:=instObj C s.heap.objs.size) rfl
  rwa [size_push] at this
 have e3:(s.heap.push emptyDict).Ns s.heap.objs.size (λ_=>none):=⟨emptyDict,#[],_,e1,rfl,(λe he=>absurd he (by simp)),λ_=>rfl⟩
 have I1:=I.laid (a:=s.heap.objs.size) (o:=.own (s.heap.objs.size + 1)) (h':=s.heap.push emptyDict) (t':=s.toks) (λb u q=>get?_push_of_some _ q) (Nat.le_refl _) ⟨_,e1⟩
 refine I1.laid (a:=s.heap.objs.size + 1) (o:=.ins C s.heap.objs.size []) (t':=s.toks) (λb u q=>get?_push_of_some _ q) (Nat.le_of_eq (size_push _ _)) ?_
 have ne:s.heap.objs.size ≠ s.heap.objs.size + 1:=Nat.ne_of_lt (Nat.lt_succ_self _)
 refine ⟨by rw [zQ ne,zR],Nat.zero_le _,ne,e2,λ_=>none,(Heap.Ns1.of_empty e3).at λo q=>get?_push_of_some _ q,λ_=>True.intro,λy hy=>absurd rfl hy⟩
theorem attr_of (hb:attributeBase e f env (eval e env) = eval e env)
  (h:wpAny (model prog w) A (eval e env) (λo s₁=>wpAny (model prog w) A (getAttr o f true) Q E s₁) E s):wpAny (model prog w) A (eval (.Attribute e f pos) env) Q E s :=
 Attribute_any_ h (by rw [arm_eval_Attribute,hb])
end
def tFld (K:PySem.W.Frag) (ta:TE) (f:Str):TE:=λσ H Q=>ta σ H λx H1=>∃ a C dx fs v,x = .ref a /\ H1 a = some (.ins C dx fs) /\ Cls K C /\ NoAttr K C f /\ fs.lookup f = some v /\ Q v H1
def sFld (K:PySem.W.Frag) (ta tv:TE) (f:Str):TS:=λD σ H=>tv σ H λy H1=>ta σ H1 λx H2=>∃ a C dx fs,x = .ref a /\ H2 a = some (.ins C dx fs) /\ Cls K C /\ NoAttr K C f /\ fs.length < 1000 /\
 D.nx σ (upd H2 a (.ins C dx (putF f y fs)))
section
variable {X:Cx} {o e value:Expr} {f:Str} {pos pos' tpos:Pos} {ta tv:TE}
theorem zTj (he:PE X e ta) (hb:attributeBase e f X.env (eval e X.env) = eval e X.env):PE X (.Attribute e f pos) (tFld X.K ta f):=by
 intro pins s σ H Q I h
 refine attr_of hb (thn (he pins s σ H _ I h) λu s1 ⟨x,H1,I1,rx,a,C,dx,fs,v,ex,ea,c,n,l,q⟩=>?_)
 subst ex
 obtain rfl:u = Value.ref a:=rx
 exact zMu I1 ea c n l λu' s2 I2 ru=>⟨v,H1,I2,ru,q⟩
theorem zK1 (ha:PE X o ta) (hv:PE X value tv) (hs:swapsWith value (some (.Attribute o f pos')) pos.line X.env = pure false):PS X (.Assign [.Attribute o f pos'] value pos) (sFld X.K ta tv f):=by
 intro pins s σ H D I h
 refine plainObj_wpAny_Assign_Attribute (thn (hv pins s σ H _ I h) λu s1 ⟨y,H1,I1,ry,q⟩=>thn (ha pins s1 σ H1 _ I1 q) λov s2 ⟨x,H2,I2,rx,a,C,dx,fs,ex,ea,c,n,l,q2⟩=>?_) hs
 subst ex
 obtain rfl:ov = Value.ref a:=rx
 exact zMb I2 ea c n l ry λs3 I3=>⟨σ,_,I3,q2⟩
end
section
variable {X:Cx} {pins:List (Addr × Obj)} {σ:St} {H:Hp} {s:Shared} {A:Around} {E:Value->Shared->Prop} {Q:Value->Shared->Prop} {c:Value} {b:Bool}
inductive TyOf (K:PySem.W.Frag) (H:Hp):V->Value->Prop where
 | non:TyOf K H .non (.type "NoneType")
 | bl (x:Bool):TyOf K H (.bl x) (.type "bool")
 | int (i:Int):TyOf K H (.int i) (.type "int")
 | str (x:Str):TyOf K H (.str x) (.type "str")
 | flt (x:UInt64):TyOf K H (.flt x) (.type "float")
 | lst {a:Addr} {xs:List V} (e:H a = some (.lst xs)):TyOf K H (.ref a) (.type "list")
 | frz {a:Addr} {o:Obj} {xs:List V} (e:H a = some (.frz o (.lst xs))):TyOf K H (.ref a) (.type "list")
 | tup {a:Addr} {xs:List V} (e:H a = some (.tup xs)):TyOf K H (.ref a) (.type "tuple")
 | dK {a:Addr} {kvs:List (Key × V)} (e:H a = some (.dK kvs)):TyOf K H (.ref a) (.type "dict")
 | dT {a:Addr} {kvs:List (List Key × V)} (e:H a = some (.dT kvs)):TyOf K H (.ref a) (.type "dict")
 | ins {a C dx:Addr} {fs:List (Str × V)} (e:H a = some (.ins C dx fs)) (cl:Cls K C) (ha:findIn K (.ref C) "__class__" = some (some (.builtin "object.__class__")))
   (hn:specialIn K (.builtin "object.__class__") "__get__" = some (some (.builtin "getset_descriptor.__get__"))) (htk:PySem.W.takesIn K (.builtin "object.__class__") = some true)
   (hm:PySem.W.mroIn K C (.type "object") = some true):TyOf K H (.ref a) (.ref C)
theorem zPk (I:Inv X pins σ H s) (rx:RelV x u) (ty:TyOf X.K H x t) (e:kitOne X.K t c = some b) (h:∀ tk,Q (.bool b) { s with toks:=tk }) :
  wpAny (model X.prog X.w) A (call (.builtin "isinstance") [u,c]) Q E s:=by
 cases ty with
 | non=>cases (show u = Value.none from rx); exact kia_one PySem.W.kitx_none I.kIn True.intro e (λz=>nomatch z) h
 | bl y=>cases (show u = Value.bool y from rx); exact kia_one PySem.W.kitx_bool I.kIn True.intro e (λz=>nomatch z) h
 | int i=>obtain ⟨t,q⟩:=(show ∃ t,u = Value.int i t from rx); cases q; exact kia_one PySem.W.kitx_int I.kIn True.intro e (λz=>nomatch z) h
 | str y=>obtain ⟨t,q⟩:=(show ∃ t,u = Value.str y t from rx); cases q; exact kia_one PySem.W.kitx_str I.kIn True.intro e (λz=>nomatch z) h
 | flt y=>obtain ⟨t,q⟩:=(show ∃ t,u = Value.float y t from rx); cases q; exact kia_one PySem.W.kitx_float I.kIn True.intro e (λz=>nomatch z) h
 | @lst a xs ea =>
  cases (show u = Value.ref a from rx)
  obtain ⟨_,_,n,_,h1⟩:=(show ObjOk X.prog X.w H s.heap a (.lst xs) from I.hok a _ ea)
  exact kia_one PySem.W.kitx_list I.kIn ⟨_,h1,rfl⟩ e (λz=>nomatch z) h
 | @frz a ob xs ea =>
  cases (show u = Value.ref a from rx)
  obtain ⟨_,_,_,n,_,h1⟩:=(show ObjOk X.prog X.w H s.heap a (.frz ob (.lst xs)) from I.hok a _ ea)
  exact kia_one PySem.W.kitx_list I.kIn ⟨_,h1,rfl⟩ e (λz=>nomatch z) h
 | @tup a xs ea =>
  cases (show u = Value.ref a from rx)
  obtain ⟨_,_,_,p⟩:=(show ObjOk X.prog X.w H s.heap a (.tup xs) from I.hok a _ ea)
  obtain ⟨o,h1,h2,_⟩:=p
  exact kia_one PySem.W.kitx_tuple I.kIn ⟨o,h1,h2⟩ e (λz=>nomatch z) h
 | @dK a kvs ea =>
  cases (show u = Value.ref a from rx)
  obtain ⟨_,_,vs,_,p⟩:=(show ObjOk X.prog X.w H s.heap a (.dK kvs) from I.hok a _ ea)
  obtain ⟨o,es,ep,h1,h2,_⟩:=p
  exact kia_one PySem.W.kitx_dict I.kIn ⟨o,h1,h2.1⟩ e (λz=>nomatch z) h
 | @dT a kvs ea =>
  cases (show u = Value.ref a from rx)
  obtain ⟨_,_,xs,_,o,es,ep,h1,h2,_⟩:=(show ObjOk X.prog X.w H s.heap a (.dT kvs) from I.hok a _ ea)
  exact kia_one PySem.W.kitx_dict I.kIn ⟨o,h1,h2.1⟩ e (λz=>nomatch z) h
 | @ins a C dx fs ea cl ha hn htk hm =>
  cases (show u = Value.ref a from rx)
  obtain ⟨mA,O,_⟩:=zG2 I.hok ea
  obtain ⟨od,J,_⟩:=O.look
  exact kia_one (PySem.W.kitx_own (cl.get _) cl.hd ha hn htk hm) I.kIn J e (λz=>nomatch z) h
end
structure Room (k:Nat) (A:Around):Prop where
 hd:A.handled = none
 dp:A.depth + 3 * k + 5 < recursionLimit
 un:A.units + 16 * k + 200 < cLine
theorem Room.mono (r:Room k A) (h:j <= k):Room j A:=⟨r.hd,by have:=r.dp; omega,by have:=r.un; omega⟩
theorem Room.deeper (r:Room (k + 1) A) (env:Env):Room k (A.deeper env) :=
 ⟨r.hd,by have:=r.dp; show A.depth + 1 + 3 * k + 5 < _; omega,by have:=r.un; show A.units + 3 + 16 * k + 200 < _; omega⟩
theorem zMr {A:Around}:(A.under (.builtin "type.__call__" ⟨.ref C :: us,kw⟩)).depth = A.depth + 1:=by
 first | rfl | simp [Around.under,Code.weight,Code.isCreation,Code.isGuard,Code.isCaller,Code.frames,Code.isFrame,guardIds]
theorem zMq {A:Around}:(A.under (.builtin "type.__call__" ⟨.ref C :: us,kw⟩)).units = A.units + 1:=by
 first | rfl | simp [Around.under,Code.cUnits,Code.frames,Code.isFrame]
theorem Room.make (r:Room (k + 1) A) (C:Addr) (us:List Value) (kw:List (Str × Value)):Room k (A.under (.builtin "type.__call__" ⟨.ref C :: us,kw⟩)) :=
 ⟨r.hd,by have:=r.dp; rw [zMr]; omega,by have:=r.un; rw [zMq]; omega⟩
theorem Room.depth (r:Room k A):A.depth < recursionLimit:=by have:=r.dp; omega
theorem Room.units (r:Room k A):A.units + 64 < cLine:=by have:=r.un; omega
def tNil:TA:=λ_ H Q=>Q [] H
def xK (ta:TE) (tr:TA):TA:=λσ H Q=>ta σ H λx H1=>tr σ H1 λxs H2=>Q (x :: xs) H2
section
variable {X:Cx} {e:Expr} {es:List Expr} {te:TE} {t:TA} {pos:Pos}
theorem zF:PA X [] tNil:=λ_ _ _ _ H Q I h=>Calls.spliced_nil ⟨[],H,I,.nil,h⟩
theorem zA (ha:PE X e te) (hr:PA X es t) (hs:starEach (e :: es) X.env = (false,eval e X.env) :: starEach es X.env:=by rfl):PA X (e :: es) (xK te t):=by
 intro pos pins s σ H Q I h
 rw [hs]
 show wpAny _ _ (spliced ((false,eval e X.env) :: backTo pos (starEach es X.env))) _ _ s
 refine Calls.spliced_cons (thn (ha pins s σ H _ I h) λu s1 ⟨x,H1,I1,r1,q1⟩=>?_)
 exact thn (hr pos pins s1 σ H1 _ I1 q1) λus s2 ⟨xs,H2,I2,r2,q2⟩=>⟨x :: xs,H2,I2,.cons r1 r2,q2⟩
def tTup (t:TA):TE:=λσ H Q=>t σ H λxs H1=>xs.length <= sizeLine /\ ∀ p,H1 p = none->Q (.ref p) (upd H1 p (.tup xs))
def tLst (t:TA):TE:=λσ H Q=>t σ H λxs H1=>xs.length <= sizeLine /\ ∀ p,H1 p = none->Q (.ref p) (upd H1 p (.lst xs))
theorem uJ {x1} (h:PA X es t):PE X (.Tuple es x1 pos) (tTup t):=by
 intro pins s σ H Q I hq
 refine wpAny_Tuple_spliced (thn (h pos pins s σ H _ I hq) λus s1 ⟨xs,H1,I1,r,z,q⟩=>⟨by rw [<- r.length]; exact z,?_⟩)
 have hf:H1 s1.heap.objs.size = none:=I1.hok.fresh (Nat.le_refl _)
 refine ⟨.ref s1.heap.objs.size,upd H1 s1.heap.objs.size (.tup xs),I1.laid (t':=s1.toks) (λb u e=>get?_push_of_some _ e) (Nat.le_refl _) ?_,rfl,q _ hf⟩
 exact ⟨z,us,r,⟨_,get?_push_size _ rfl,rfl,_,rfl⟩⟩
theorem wG (h:PA X es t):PE X (.List es pos) (tLst t):=by
 intro pins s σ H Q I hq
 refine wpAny_List_spliced (thn (h pos pins s σ H _ I hq) λus s1 ⟨xs,H1,I1,r,z,q⟩=>⟨by rw [<- r.length]; exact z,?_⟩)
 have hf:H1 s1.heap.objs.size = none:=I1.hok.fresh (Nat.le_refl _)
 refine ⟨.ref s1.heap.objs.size,upd H1 s1.heap.objs.size (.lst xs),I1.laid (t':=s1.toks) (λb u e=>get?_push_of_some _ e) (Nat.le_refl _) ?_,rfl,q _ hf⟩
 exact ⟨z,us,0,r,get?_push_size _ rfl⟩
end
abbrev Sp:=List V->Hp->VK->XK->Prop
abbrev CXT:=List Env->Hp->Shared->XK->Value->Shared->Prop
structure Env0 (P:Program) (w:World) (K:PySem.W.Frag) (mg:Str->Option Value) (base:Heap) (A:Around) (outer:List Env) (s:Shared) (H:Hp):Prop where
 frames:A.frames = some outer
 mod:Mod K mg base
 bs:∀ b o,base.get? b = some o->s.heap.get? b = some o /\ H b = none
 bsz:base.objs.size <= s.heap.objs.size
 funs:s.heap.FunFrames base outer
 frf:∀ b ∈ frs outer,H b = none
 hok:HOk P w H s.heap
 bare:AllBare s.gens
def CE (outer:List Env) (P:Program) (w:World) (H:Hp) (s:Shared) (Q:VK) (u:Value) (s':Shared):Prop :=
 ∃ v H',s'.os = s.os /\ AllBare s'.gens /\ Un (frs outer) [] H H' s.heap s'.heap /\ HOk P w H' s'.heap /\ RelV v u /\ Q v H'
def CR (CX:CXT) (outer:List Env) (P:Program) (w:World) (H:Hp) (s:Shared) (Q:VK) (E:XK) (r:Result) (s':Shared):Prop :=
 match r with
 | .ok (.ret u)=>CE outer P w H s Q u s'
 | .ok _=>False
 | .error e=>CX outer H s E e s'
structure FnOk (P:Program) (w:World) (K:PySem.W.Frag) (mg:Str->Option Value) (base:Heap) (CX:CXT) (k:Nat) (f:Addr) (fd:FuncData) (ps:List Str) (sp:Sp):Prop where
 len:∀ vs H Q E,sp vs H Q E->vs.length = ps.length
 run:∀ (A:Around) (outer:List Env) (s:Shared) (H:Hp) (args:Args) (us:List Value) (vs:List V) (Q:VK) (E:XK),Room k A->Env0 P w K mg base A outer s H->BindsTo s fd args (ps.zip us)->Vals vs us->sp vs H Q E ->
  codeAny (model P w) A (.call (.ref f) args) (CR CX outer P w H s Q E) s
theorem FnOk.mono {P:Program} {w:World} {K:PySem.W.Frag} {mg:Str->Option Value} {base:Heap} {CX:CXT} {j k:Nat} {f:Addr} {fd:FuncData} {ps:List Str} {sp:Sp} (F:FnOk P w K mg base CX j f fd ps sp) (h:j <= k) :
  FnOk P w K mg base CX k f fd ps sp:=⟨F.len,λA outer s H args us vs Q E hr=>F.run A outer s H args us vs Q E (hr.mono h)⟩
theorem FnOk.imp {P:Program} {w:World} {K:PySem.W.Frag} {mg:Str->Option Value} {base:Heap} {CX:CXT} {k:Nat} {f:Addr} {fd:FuncData} {ps:List Str} {sp sp':Sp} (F:FnOk P w K mg base CX k f fd ps sp)
  (h:∀ vs H Q E,sp' vs H Q E->sp vs H Q E):FnOk P w K mg base CX k f fd ps sp' :=
 ⟨λvs H Q E q=>F.len vs H Q E (h _ _ _ _ q),λA outer s H args us vs Q E hr he hb hv hs=>F.run A outer s H args us vs Q E hr he hb hv (h _ _ _ _ hs)⟩
theorem Env0.make {P:Program} {w:World} {K:PySem.W.Frag} {mg:Str->Option Value} {base:Heap} {A:Around} {outer:List Env} {s:Shared} {H:Hp} (e:Env0 P w K mg base A outer s H) (C:Addr) (us:List Value) (kw:List (Str × Value)) :
  Env0 P w K mg base (A.under (.builtin "type.__call__" ⟨.ref C :: us,kw⟩)) outer s H:=⟨by first | exact e.frames | (simpa [Around.under,Code.envs,Code.isFrame,pushEnvs] using e.frames),e.mod,e.bs,e.bsz,e.funs,e.frf,e.hok,e.bare⟩
section
variable {X:Cx} {pins:List (Addr × Obj)} {σ:St} {H:Hp} {s s':Shared}
theorem Inv.env0 (I:Inv X pins σ H s):Env0 X.prog X.w X.K X.mg X.base X.A X.stack s H :=
 ⟨I.ok.frames,I.ok.mod,I.bs,Nat.le_trans I.ok.bsz I.sz,I.stack,I.stkFree,I.hok,I.bare⟩
theorem Inv.after (I:Inv X pins σ H s) (h:CE X.stack X.prog X.w H s Q u s'):EP X pins σ Q u s':=by
 obtain ⟨v,H',os,bare,un,hok,r,q⟩:=h
 obtain ⟨hh,g,d,t,os'⟩:=s'
 obtain rfl:os' = s.os:=os
 exact ⟨v,H',I.call (h':=hh) (g':=g) (d':=d) (t':=t) (ch:=[]) un hok bare (λb z=>absurd z (by simp)),r,q⟩
end
def zQ5 (sp:Sp) (dvs:List V) (E:XK) (t:TA):TE:=λσ H Q=>t σ H λvs H1=>sp (vs ++ dvs) H1 Q E
def zNv (C:Addr) (m:Str) (sp:Sp) (dvs:List V) (E:XK) (ta:TE) (t:TA):TE:=λσ H Q=>ta σ H λx H1=>∃ a dx fs,x = .ref a /\ H1 a = some (.ins C dx fs) /\ fs.lookup m = none /\
 t σ H1 λvs H2=>sp (x :: (vs ++ dvs)) H2 Q E
def tMake (C:Addr) (sp:Sp) (dvs:List V) (E:XK) (t:TA):TE:=λσ H Q=>t σ H λvs H1=>∀ x dx,H1 x = none->H1 dx = none->dx ≠ x ->
 sp (.ref x :: (vs ++ dvs)) (upd (upd H1 dx (.own x)) x (.ins C dx [])) (λv H2=>v = .non /\ Q (.ref x) H2) E
def Binds (K:PySem.W.Frag) (fd:FuncData) (ps:List Str) (ds:List Value):Prop :=
 ∀ (s:Shared) (us:List Value),K.In s.heap->(us ++ ds).length = ps.length->BindsTo s fd ⟨us,[]⟩ (ps.zip (us ++ ds))
theorem Binds.all {K:PySem.W.Frag} {fd:FuncData} {ps:List Str} (h:∀ us:List Value,us.length = ps.length->bindArgs fd ⟨us,[]⟩ = pure (ps.zip us)):Binds K fd ps []:=λs us _ hl=>by
 rw [append_nil] at hl ⊢
 exact .of_eq (h us hl)
def zFc (CX:CXT) (X:Cx) (E:XK):Prop:=∀ (pins:List (Addr × Obj)) (σ:St) (H:Hp) (s:Shared) (e:Value) (s':Shared),Inv X pins σ H s->CX X.stack H s E e s'->X.xe e s'
section
variable {X:Cx} {CX:CXT} {k:Nat} {f C:Addr} {fd:FuncData} {ps:List Str} {sp:Sp} {dvs:List V} {ds:List Value} {E:XK} {x m:Str} {p pos apos:Pos} {e o:Expr} {es:List Expr} {ta:TE} {t:TA}
theorem zN7 (F:FnOk X.prog X.w X.K X.mg X.base CX k f fd ps sp) (hr:Room k X.A) (hb:Binds X.K fd ps ds) (hd:Vals dvs ds) (hx:zFc CX X E)
  (I:Inv X pins σ H s) (r:Vals vs us) (h:sp (vs ++ dvs) H Q E):wpAny (model X.prog X.w) X.A (call (.ref f) us) (EP X pins σ Q) X.xe s:=by
 have r2:Vals (vs ++ dvs) (us ++ ds):=r.append hd
 have hl:(us ++ ds).length = ps.length:=by rw [<- r2.length]; exact F.len _ _ _ _ h
 refine wpAny_call (codeAny_mono (F.run X.A X.stack s H ⟨us,[]⟩ (us ++ ds) (vs ++ dvs) Q E hr I.env0 (hb s us I.kIn hl) r2 h) λr s' hq=>?_)
 cases r with
 | error e=>exact hx pins σ H s e s' I hq
 | ok fl =>
  cases fl with
  | ret u=>exact I.after hq
  | next=>exact False.elim hq
  | brk=>exact False.elim hq
  | cont=>exact False.elim hq
theorem pe_call (F:FnOk X.prog X.w X.K X.mg X.base CX k f fd ps sp) (hr:Room k X.A) (hg:Gl X x) (hm:X.mg x = some (.ref f)) (hk:keepIn X.K (.ref f) = true) (hb:Binds X.K fd ps ds) (hd:Vals dvs ds) (hx:zFc CX X E)
  (ha:PA X (e :: es) t) (hdb:(x == ("__debug__":Str)) = false:=by decide) (he:starEach (e :: es) X.env = (false,eval e X.env) :: starEach es X.env:=by rfl) (hpl:(backTo pos (starEach es X.env)).any (·.1) = false:=by rfl) :
  PE X (.Call (.Name x p) (e :: es) [] pos) (zQ5 sp dvs E t):=by
 intro pins s σ H Q I h
 refine wpAny_Call_Name_kw (zJ2 I hg hm ?_ hdb)
 refine callWith_K (h₀:=X.base) I.ok.mod.kin hk (thn (ha pos pins s σ H _ I h) λus s1 ⟨vs,H1,I1,r,q⟩=>⟨I1.kIn,?_⟩) he hpl
 exact zN7 F hr hb hd hx I1 r q
theorem pe_meth (he:PE X o ta) (c:Cls X.K C) (hm:Meth X.K C m f) (F:FnOk X.prog X.w X.K X.mg X.base CX k f fd ps sp) (hr:Room k X.A) (hb:Binds X.K fd ps ds) (hd:Vals dvs ds) (hx:zFc CX X E) (ha:PA X (e :: es) t)
  (hst:starEach (e :: es) X.env = (false,eval e X.env) :: starEach es X.env:=by rfl) (hpl:(backTo pos (starEach es X.env)).any (·.1) = false:=by rfl)
  (ht:eval (.Call (.Attribute o m apos) (e :: es) [] pos) X.env = (do
   let ov <- eval o X.env
   standAt apos.atName
   let (f,first) <- holding [ov] (getMethod ov m pl)
   callWith pos f first (backTo pos (starEach (e :: es) X.env)) (backToKw pos (keywordEach [] X.env))):=by rfl) :
  PE X (.Call (.Attribute o m apos) (e :: es) [] pos) (zNv C m sp dvs E ta t):=by
 intro pins s σ H Q I h
 refine PySem.W.methodCall_KW (pl:=pl) (thn (he pins s σ H _ I h) λu s1 ⟨x,H1,I1,rx,a,dx,fs,ex,ea,l,q⟩=>?_) ht
 subst ex
 obtain rfl:u = Value.ref a:=rx
 refine zF0 I1 ea c hm l ?_
 refine callWith_K (first:=[.ref a]) (h₀:=X.base) I.ok.mod.kin hm.kp (thn (ha pos pins s1 σ H1 _ I1 q) λus s2 ⟨vs,H2,I2,r,q2⟩=>⟨I2.kIn,?_⟩) hst hpl
 exact zN7 (us:=.ref a :: us) (vs:=.ref a :: vs) F hr hb hd hx I2 (.cons rfl r) q2
theorem zRs (he:PE X o ta) (c:Cls X.K C) (hm:Meth X.K C m f) (F:FnOk X.prog X.w X.K X.mg X.base CX k f fd ps sp) (hr:Room k X.A) (hb:Binds X.K fd ps ds) (hd:Vals dvs ds) (hx:zFc CX X E)
  (ht:eval (.Call (.Attribute o m apos) [] [] pos) X.env = (do
   let ov <- eval o X.env
   standAt apos.atName
   let (f,first) <- holding [ov] (getMethod ov m pl)
   callWith pos f first (backTo pos (starEach [] X.env)) (backToKw pos (keywordEach [] X.env))):=by rfl) :
  PE X (.Call (.Attribute o m apos) [] [] pos) (zNv C m sp dvs E ta tNil):=by
 intro pins s σ H Q I h
 refine PySem.W.methodCall_KW (pl:=pl) (thn (he pins s σ H _ I h) λu s1 ⟨x,H1,I1,rx,a,dx,fs,ex,ea,l,q⟩=>?_) ht
 subst ex
 obtain rfl:u = Value.ref a:=rx
 refine zF0 I1 ea c hm l ?_
 exact PySem.W.callWith_K0 (first:=[.ref a]) I1.kIn hm.kp (zN7 (us:=[.ref a]) (vs:=[.ref a]) F hr hb hd hx I1 (.cons rfl .nil) q)
structure Mk (K:PySem.W.Frag) (C f:Addr):Prop where
 makes:PySem.W.makesIn K C = true
 init:findIn K (.ref C) "__init__" = some (some (.ref f))
 fn:isFn K (.ref f) = true
 kp:keepIn K (.ref C) = true
theorem zRg (M:Mk X.K C f) (F:FnOk X.prog X.w X.K X.mg X.base CX k f fd ps sp) (hr:Room (k + 1) X.A) (hb:Binds X.K fd ps ds) (hd:Vals dvs ds)
  (hx:zFc CX X E) (I:Inv X pins σ H s) (r:Vals vs us)
  (h:∀ x dx,H x = none->H dx = none->dx ≠ x->sp (.ref x :: (vs ++ dvs)) (upd (upd H dx (.own x)) x (.ins C dx [])) (λv H2=>v = .non /\ Q (.ref x) H2) E) :
  wpAny (model X.prog X.w) X.A (call (.ref C) us) (EP X pins σ Q) X.xe s:=by
 have hq:=h (s.heap.objs.size + 1) s.heap.objs.size (I.hok.fresh (Nat.le_succ _)) (I.hok.fresh (Nat.le_refl _)) (Nat.ne_of_lt (Nat.lt_succ_self _))
 have I2:=Inv.made (C:=C) I
 have r2:Vals (V.ref (s.heap.objs.size + 1) :: (vs ++ dvs)) (Value.ref (s.heap.objs.size + 1) :: (us ++ ds)):=.cons rfl (r.append hd)
 have hl:(Value.ref (s.heap.objs.size + 1) :: us ++ ds).length = ps.length:=by
  have e:=r2.length
  rw [F.len _ _ _ _ hq] at e
  exact e.symm
 refine wpAny_call (zR4 (f:=f) I.kIn M.makes M.init (beq_iff_eq.mp M.fn) (codeAny_mono (F.run _ X.stack _ _ ⟨Value.ref (s.heap.objs.size + 1) :: us,[]⟩ (Value.ref (s.heap.objs.size + 1) :: (us ++ ds)) _ _ E (hr.make C us [])
  (I2.env0.make C us []) (hb _ (Value.ref (s.heap.objs.size + 1) :: us) I2.kIn hl) r2 hq) λr s' hq'=>?_))
 cases r with
 | error e=>exact hx pins σ _ _ e s' I2 hq'
 | ok fl =>
  cases fl with
  | ret u =>
   obtain ⟨v,H',I3,rv,ev,q3⟩:=I2.after hq'
   subst ev
   exact ⟨rv,⟨V.ref (s.heap.objs.size + 1),H',I3,rfl,q3⟩⟩
  | next=>exact False.elim hq'
  | brk=>exact False.elim hq'
  | cont=>exact False.elim hq'
theorem pe_make (M:Mk X.K C f) (F:FnOk X.prog X.w X.K X.mg X.base CX k f fd ps sp) (hr:Room (k + 1) X.A) (hg:Gl X x) (hm:X.mg x = some (.ref C)) (hb:Binds X.K fd ps ds) (hd:Vals dvs ds) (hx:zFc CX X E)
  (ha:PA X (e :: es) t) (hdb:(x == ("__debug__":Str)) = false:=by decide) (he:starEach (e :: es) X.env = (false,eval e X.env) :: starEach es X.env:=by rfl) (hpl:(backTo pos (starEach es X.env)).any (·.1) = false:=by rfl) :
  PE X (.Call (.Name x p) (e :: es) [] pos) (tMake C sp dvs E t):=by
 intro pins s σ H Q I h
 refine wpAny_Call_Name_kw (zJ2 I hg hm ?_ hdb)
 refine callWith_K (h₀:=X.base) I.ok.mod.kin M.kp (thn (ha pos pins s σ H _ I h) λus s1 ⟨vs,H1,I1,r,q⟩=>⟨I1.kIn,?_⟩) he hpl
 exact zRg M F hr hb hd hx I1 r q
end
section
variable {X:Cx} {CX:CXT} {k:Nat} {f C:Addr} {fd:FuncData} {ps ks:List Str} {sp:Sp} {E:XK} {x m:Str} {p pos apos kpos:Pos} {e o:Expr} {es:List Expr} {kws:List Keyword} {te ta:TE} {t tk:TA} {nm:Option Str}
structure KBinds (K:PySem.W.Frag) (fd:FuncData) (ps ks:List Str) (g:List Value->List Value->List Value) (gV:List V->List V->List V):Prop where
 to:∀ (s:Shared) (us ws:List Value),K.In s.heap->(g us ws).length = ps.length->BindsTo s fd ⟨us,ks.zip ws⟩ (ps.zip (g us ws))
 rel:∀ {vs:List V} {us:List Value} {zs:List V} {ws:List Value},Vals vs us->Vals zs ws->Vals (gV vs zs) (g us ws)
variable {g:List Value->List Value->List Value} {gV:List V->List V->List V}
end
structure FnScope (N P:List Str) (sc:Scope):Prop where
 kind:sc.kind = .function
 co:sc.isCoroutine = false
 gen:sc.isGenerator = false
 nd:N.Nodup
 pre:N.take P.length = P
 par:∀ x ∈ P,sc.names.lookup x = some .local \/ sc.names.lookup x = some .cell
 nofree:∀ y ∈ sc.names,y.2 ≠ .free
theorem zIy {kindOf:Str->Option NameKind} {x:Str}:∀ {binds:List (Str × Value)} {m:Str->Option Value},(∀ v,(x,v) ∉ binds)->bindL kindOf binds m x = m x
 | [],_,_=>rfl
 | (n,v) :: r,m,h=>by
  unfold bindL
  rw [zIy λw hw=>h w (mem_cons_of_mem _ hw)]
  split
  ·have:x ≠ n:=by rintro rfl; exact h v mem_cons_self
   simp [this]
  ·rfl
theorem zI0 {kindOf:Str->Option NameKind} {x:Str}:∀ {binds:List (Str × Value)} {m:Str->Option Value},(∀ v,(x,v) ∉ binds)->bindC kindOf binds m x = m x
 | [],_,_=>rfl
 | (n,v) :: r,m,h=>by
  unfold bindC
  rw [zI0 λw hw=>h w (mem_cons_of_mem _ hw)]
  split
  ·rfl
  ·have:x ≠ n:=by rintro rfl; exact h v mem_cons_self
   simp [this]
theorem zIz {kindOf:Str->Option NameKind}:∀ {P:List Str} {vs:List Value} {i:Nat} {m:Str->Option Value},P.Nodup->P[i]? = some x->vs[i]? = some v->kindOf x = some .local ->
  bindL kindOf (P.zip vs) m x = some v
 | [],_,_,_,_,h,_,_=>by simp at h
 | _ :: _,[],_,_,_,_,h,_=>by simp at h
 | p :: P,w :: vs,0,m,nd,h1,h2,hk=>by
  simp at h1 h2; subst h1; subst h2
  show bindL kindOf ((p,w) :: P.zip vs) m p = _
  unfold bindL
  rw [zIy λv hv=>(nodup_cons.mp nd).1 (of_mem_zip hv).1,if_pos hk]
  simp
 | p :: P,w :: vs,i + 1,m,nd,h1,h2,hk=>by
  show bindL kindOf ((p,w) :: P.zip vs) m x = _
  unfold bindL
  exact zIz (i:=i) (nodup_cons.mp nd).2 (by simpa using h1) (by simpa using h2) hk
theorem zI1 {kindOf:Str->Option NameKind}:∀ {P:List Str} {vs:List Value} {i:Nat} {m:Str->Option Value},P.Nodup->P[i]? = some x->vs[i]? = some v->kindOf x ≠ some .local ->
  bindC kindOf (P.zip vs) m x = some v
 | [],_,_,_,_,h,_,_=>by simp at h
 | _ :: _,[],_,_,_,_,h,_=>by simp at h
 | p :: P,w :: vs,0,m,nd,h1,h2,hk=>by
  simp at h1 h2; subst h1; subst h2
  show bindC kindOf ((p,w) :: P.zip vs) m p = _
  unfold bindC
  rw [zI0 λv hv=>(nodup_cons.mp nd).1 (of_mem_zip hv).1,if_neg hk]
  simp
 | p :: P,w :: vs,i + 1,m,nd,h1,h2,hk=>by
  show bindC kindOf ((p,w) :: P.zip vs) m x = _
  unfold bindC
  exact zI1 (i:=i) (nodup_cons.mp nd).2 (by simpa using h1) (by simpa using h2) hk
def start (N:List Str) (vs:List V):St:=vs.map some ++ replicate (N.length - vs.length) none
def cxOf (CX:CXT) (P:Program) (w:World) (K:PySem.W.Frag) (mg:Str->Option Value) (base:Heap) (N:List Str) (qual:Str) (scope:Scope) (f:Addr) (cd:Value) (A:Around) (outer:List Env) (s:Shared) (H:Hp) (E:XK):Cx where
 prog:=P
 w:=w
 K:=K
 mg:=mg
 base:=base
 A:=A.deeper (envOfC qual scope s.heap.objs.size f cd)
 N:=N
 s₀:=s
 H₀:=H
 env:=envOfC qual scope s.heap.objs.size f cd
 outer:=outer
 stack:=envOfC qual scope s.heap.objs.size f cd :: outer
 ex:=[]
 calm:=true
 fn:=λ_=>true
 pn:=[]
 xe:=λe s'=>wpAny (model P w) (A.deeper (envOfC qual scope s.heap.objs.size f cd)) (leaving (envOfC qual scope s.heap.objs.size f cd) e) (λ_ s''=>CX outer H s E e s'') (λe' s''=>CX outer H s E e' s'') s'
theorem zLv {sc:Scope} (h:sc.names.lookup x = some .cell):∃ c,(cellsFrom n sc.names []).lookup x = some c:=by
 have q:=cellsFrom_some sc.names n [] (.inl h)
 exact Option.isSome_iff_exists.mp q
theorem zPm {CX:CXT} {P:Program} {w:World} {K:PySem.W.Frag} {mg:Str->Option Value} {base:Heap} {N ps:List Str} {qual:Str} {scope:Scope} {f:Addr} {cd:Value} {A:Around} {outer:List Env} {s s1:Shared} {H:Hp} {E:XK} {us:List Value} {vs:List V}
  (S:FnScope N ps scope) (hd:A.handled = none) (e0:Env0 P w K mg base A outer s H) (hl:vs.length = ps.length) (r:Vals vs us)
  (x:InCallC s s.heap.objs.size (bindL (envOfC qual scope s.heap.objs.size f cd).kindOf (ps.zip us) λ_=>none) (cellsFrom (s.heap.objs.size + 1) scope.names []) (bindC (envOfC qual scope s.heap.objs.size f cd).kindOf (ps.zip us) λ_=>none) s1) :
  Inv (cxOf CX P w K mg base N qual scope f cd A outer s H E) [] (start N vs) H s1:=by
 have hpl:ps.length <= N.length:=by have:=congrArg length S.pre; rw [length_take] at this; omega
 obtain ⟨h1,tk,rfl,hk⟩:=x.done
 have noA:∀ b:Addr,b ∉ (cxOf CX P w K mg base N qual scope f cd A outer s H E).ex:=λb z=>absurd (show b ∈ ([]:List Addr) from z) (by simp)
 refine ⟨⟨e0.mod,S.kind,rfl,rfl,Nat.le_refl _,λy z c h1 h2=>?_,λy hy=>?_,λy c _ h=>?_,λ_=>hd,Around.frames_deeper e0.frames,.inr ⟨rfl,rfl⟩,λb z=>absurd z (noA b),e0.bs,e0.bsz,λb _ _=>noA b,λb z=>absurd z (noA b),e0.funs,e0.frf⟩,
  rfl,e0.bare,Un.kept hk,⟨_,x.toInCall.ns,λi y v h1 h2 h3=>?_⟩,λy c h=>⟨_,x.cell y c h⟩,e0.hok.fresh (Nat.le_refl _),λy c h=>?_,λp hp=>absurd (show p ∈ ([]:List (Addr × Obj)) from hp) (by simp),e0.hok.kept hk,?_⟩
 ·exact name_of_addr x.apart (PySem.mem_of_lookup h1) (PySem.mem_of_lookup h2)
 ·have hy:scope.names.lookup y = some .cell \/ scope.names.lookup y = some .free:=hy
  rcases hy with hy | hy
  ·exact zLv hy
  ·exact absurd rfl (S.nofree _ (PySem.mem_of_lookup hy))
 ·exact Nat.le_of_lt (x.above y c (PySem.mem_of_lookup h))
 ·have hi:i < vs.length:=by
   unfold start at h2
   by_cases hi:i < vs.length
   ·exact hi
   ·rw [getElem?_append_right (by simpa using hi)] at h2
    rw [getElem?_replicate] at h2
    split at h2 <;> cases h2
  have ha:vs[i]? = some v:=by
   unfold start at h2
   rw [getElem?_append_left (by simpa using hi),getElem?_map] at h2
   cases e:vs[i]? with
   | none=>rw [e] at h2; cases h2
   | some a=>rw [e] at h2; cases h2; rfl
  obtain ⟨u,hu,rv⟩:=r.get ha
  have hp:ps[i]? = some y:=by
   rw [<- S.pre,getElem?_take_of_lt (by omega)]; exact h1
  have ndP:ps.Nodup:=by rw [<- S.pre]; exact S.nd.sublist (List.take_sublist _ _)
  refine ⟨u,rv,?_⟩
  rcases S.par y (mem_of_getElem? hp) with k | k
  ·exact .inl ⟨k,zIz ndP hp hu k⟩
  ·obtain ⟨c,e⟩:=zLv (n:=s.heap.objs.size + 1) k
   refine .inr ⟨.inl k,c,e,?_⟩
   have q:=x.cell y c e
   rw [zI1 ndP hp hu (by show scope.names.lookup y ≠ _; rw [k]; decide)] at q
   exact q
 ·exact e0.hok.fresh (Nat.le_of_lt (x.above y c (PySem.mem_of_lookup h)))
 ·unfold start
  show _ = N.length
  rw [length_append,length_map,List.length_replicate]
  omega
theorem fn_of {CX:CXT} {P:Program} {w:World} {K:PySem.W.Frag} {mg:Str->Option Value} {base:Heap} {k:Nat} {f:Addr} {name qual:Str} {params:Arguments} {body:List Stmt} {scope:Scope} {dV kV doc pm cdv ct oc:Value} {an od:Option Addr}
  {osl:Array (Option Value)} {N ps:List Str} {sp:Sp} (lk:K.lookup f = some ⟨oc,od,.func (fnOf name qual params body scope dV kV doc pm an cdv ct),osl⟩) (hcd:codeIn K cdv qual = true) (S:FnScope N ps scope)
  (len:∀ vs H Q E,sp vs H Q E->vs.length = ps.length)
  (hbody:∀ (A:Around) (outer:List Env) (s:Shared) (H:Hp) (vs:List V) (Q:VK) (E:XK),Room k (A.deeper (envOfC qual scope s.heap.objs.size f cdv))->sp vs H Q E ->
   ∃ t,PSs (cxOf CX P w K mg base N qual scope f cdv A outer s H E) body t /\ t { nx:=λ_ H'=>Q .non H',rt:=Q } (start N vs) H) :
  FnOk P w K mg base CX (k + 1) f (fnOf name qual params body scope dV kV doc pm an cdv ct) ps sp:=by
 refine ⟨len,λA outer s H args us vs Q E hr e0 hb r hsp=>?_⟩
 have hl:=len _ _ _ _ hsp
 have KX:K.In s.heap:=e0.mod.kin.keeps λb o e=>(e0.bs b o e).1
 have lim:s.heap.NoLimit:=e0.mod.nolimit.keeps λb o e=>(e0.bs b o e).1
 have hkind:∀ y ∈ ps.zip us,scope.names.lookup y.1 = some .local \/ (scope.names.lookup y.1 = some .cell /\ ((cellsFrom (s.heap.objs.size + 1) scope.names []).lookup y.1).isSome = true):=λ⟨n,v⟩ hy=>by
  rcases S.par n (of_mem_zip hy).1 with q | q
  ·exact .inl q
  ·exact .inr ⟨q,cellsFrom_some _ _ _ (.inl q)⟩
 refine codeAny_call_function hr.depth (KX _ _ lk) rfl S.co S.gen rfl (PySem.W.codeRec_of KX hcd) (hb _ _ _ _ ?_)
 refine wpAny_newFunctionEnv_cells S.kind hkind λenv he s1 x=>?_
 subst he
 refine ⟨lim.keeps x.toInCall.keep,codeAny_func ?_⟩
 obtain ⟨t,ht,hq⟩:=hbody A outer s H vs Q E (hr.deeper _) hsp
 have I:Inv (cxOf CX P w K mg base N qual scope f cdv A outer s H E) [] (start N vs) H s1:=zPm S hr.hd e0 hl r x
 refine wpAny_mono (ht [] s1 (start N vs) H _ I hq) (λfl s' hs=>?_) λe s' hs=>hs
 have fin:∀ {σ':St} {H':Hp} {v:V} {u:Value},Inv (cxOf CX P w K mg base N qual scope f cdv A outer s H E) [] σ' H' s'->RelV v u->Q v H'->CE outer P w H s Q u s' :=
  λ{σ' H' v u} J rv q=>⟨v,H',J.os,J.bare,J.base,J.hok,rv,q⟩
 cases fl with
 | ret u =>
  obtain ⟨v,σ',H',J,rv,q⟩:=hs
  exact fin J rv q
 | next =>
  obtain ⟨σ',H',J,q⟩:=hs
  exact fin (v:=V.non) (u:=Value.none) J rfl q
 | brk =>
  obtain ⟨_,_,_,q⟩:=hs
  exact False.elim q
 | cont =>
  obtain ⟨_,_,_,q⟩:=hs
  exact False.elim q
section
variable {X:Cx} {x:Str} {p pos:Pos} {e:Expr} {es:List Expr} {t:TA} {id T:String} {r:List V->Hp->VK->Prop}
def tCB (r:List V->Hp->VK->Prop) (t:TA):TE:=λσ H Q=>t σ H λvs H1=>r vs H1 Q
theorem zO (hc:zAx X (.builtin id) r) (hg:Gl X x) (hm:X.mg x = none) (hv:bootBuiltins x = some (.builtin id)) (ha:PA X (e :: es) t) (hn:x ≠ "__name__":=by decide) (hdb:(x == ("__debug__":Str)) = false:=by decide)
  (he:starEach (e :: es) X.env = (false,eval e X.env) :: starEach es X.env:=by rfl) (hpl:(backTo pos (starEach es X.env)).any (·.1) = false:=by rfl):PE X (.Call (.Name x p) (e :: es) [] pos) (tCB r t):=by
 intro pins s σ H Q I h
 refine wpAny_Call_Name_kw (zA9 I hg hm hv ?_ hn hdb)
 exact PyProof.Rows.callWith_builtin1 (thn (ha pos pins s σ H _ I h) λus s1 ⟨vs,H1,I1,r1,q1⟩=>hc pins s1 σ H1 vs us Q I1 r1 q1) he hpl
theorem wT (hc:zAx X (.type T) r) (hg:Gl X x) (hm:X.mg x = none) (hv:bootBuiltins x = some (.type T)) (ha:PA X (e :: es) t) (hn:x ≠ "__name__":=by decide) (hdb:(x == ("__debug__":Str)) = false:=by decide)
  (he:starEach (e :: es) X.env = (false,eval e X.env) :: starEach es X.env:=by rfl) (hpl:(backTo pos (starEach es X.env)).any (·.1) = false:=by rfl):PE X (.Call (.Name x p) (e :: es) [] pos) (tCB r t):=by
 intro pins s σ H Q I h
 refine wpAny_Call_Name_kw (zA9 I hg hm hv ?_ hn hdb)
 exact PyProof.Rows.callWith_type1 (thn (ha pos pins s σ H _ I h) λus s1 ⟨vs,H1,I1,r1,q1⟩=>hc pins s1 σ H1 vs us Q I1 r1 q1) he hpl
end
section
variable {κ:Type} [DecidableEq κ]
def valV (kvs:List (κ × V)) (k:κ):Option V:=(kvs.find? λkv=>decide (kv.1 = k)).map (·.2)
def putK (kvs:List (κ × V)) (k:κ) (v:V):List (κ × V) :=
 if (kvs.any λkv=>decide (kv.1 = k)) = true then kvs.map (λkv=>if kv.1 = k then (kv.1,v) else kv) else kvs ++ [(k,v)]
theorem zF9 {p:κ × V} {r:List (κ × V)} {k:κ} (e:p.1 = k):valV (p :: r) k = some p.2:=by simp [valV,find?_cons,e]
theorem zGa {p:κ × V} {r:List (κ × V)} {k:κ} (e:¬ p.1 = k):valV (p :: r) k = valV r k:=by simp [valV,find?_cons,e]
theorem zKl (k:κ):∀ kvs:List (κ × V),(kvs.any λkv=>decide (kv.1 = k)) = (valV kvs k).isSome
 | []=>rfl
 | p :: r=>by
  rw [any_cons]
  by_cases e:p.1 = k
  ·simp only [zF9 e,decide_eq_true e,Bool.true_or,Option.isSome_some]
  ·rw [zGa e,decide_eq_false e,Bool.false_or]; exact zKl k r
theorem zEj (kvs:List (κ × V)) (k:κ) (v:V):(putK kvs k v).length <= kvs.length + 1:=by
 unfold putK
 split
 ·rw [length_map]; omega
 ·rw [length_append,length_cons,length_nil]; omega
theorem RelO.isSome_eq (r:RelO o u):o.isSome = u.isSome:=by
 cases o with
 | none=>cases u with
  | none=>rfl
  | some _=>exact (show False from r).elim
 | some _=>cases u with
  | none=>exact (show False from r).elim
  | some _=>rfl
theorem RelO.getD (r:RelO o u) (rd:RelV d d'):RelV (o.getD d) (u.getD d'):=by
 cases o with
 | none=>cases u with
  | none=>exact rd
  | some _=>exact (show False from r).elim
 | some _=>cases u with
  | none=>exact (show False from r).elim
  | some _=>exact r
theorem KV.val (r:KV kvs vs) (k:κ):RelO (valV kvs k) (valueAt vs k):=by
 unfold KV at r
 induction r with
 | nil=>exact True.intro
 | @cons p q ps qs h t ih =>
  obtain ⟨h1,h2⟩:=h
  by_cases e:p.1 = k
  ·have e':q.1 = k:=h1.symm.trans e
   have b:valueAt (q :: qs) k = some q.2:=by simp [valueAt,find?_cons,e']
   rw [zF9 e,b]; exact h2
  ·have e':¬ q.1 = k:=λz=>e (h1.trans z)
   have b:valueAt (q :: qs) k = valueAt qs k:=by simp [valueAt,find?_cons,e']
   rw [zGa e,b]; exact ih
theorem KV.any (r:KV kvs vs) (k:κ):(kvs.any λkv=>decide (kv.1 = k)) = vs.any λkv=>decide (kv.1 = k):=by
 unfold KV at r
 induction r with
 | nil=>rfl
 | cons h t ih=>rw [any_cons,any_cons,ih,h.1]
theorem KV.repl (r:KV kvs vs) (k:κ) (ry:RelV y u) :
  KV (kvs.map λkv=>if kv.1 = k then (kv.1,y) else kv) (vs.map λkv=>if kv.1 = k then (kv.1,u) else kv):=by
 unfold KV at r ⊢
 induction r with
 | nil=>exact .nil
 | @cons p q ps qs h t ih =>
  rw [map_cons,map_cons]
  refine .cons ?_ ih
  obtain ⟨h1,h2⟩:=h
  by_cases e:p.1 = k
  ·rw [if_pos e,if_pos (h1.symm.trans e)]; exact ⟨h1,ry⟩
  ·rw [if_neg e,if_neg (λz=>e (h1.trans z))]; exact ⟨h1,h2⟩
theorem KV.put (r:KV kvs vs) (k:κ) (ry:RelV y u):KV (putK kvs k y) (stored vs k u):=by
 unfold putK stored
 rw [r.any k]
 by_cases e:(vs.any λkv=>decide (kv.1 = k)) = true
 ·rw [if_pos e,if_pos e]; exact r.repl k ry
 ·rw [if_neg e,if_neg e]; exact Paired.snoc r ⟨rfl,ry⟩
theorem KV.length (r:KV kvs vs):kvs.length = vs.length:=Paired.length r
end
theorem zPi (r:RelV (kV k) u):(xZ P w).is k u = true:=by
 cases k with
 | inl i=>obtain ⟨t,e⟩:=(show ∃ t,u = Value.int i t from r); subst e; exact zJw P w i t
 | inr x=>obtain ⟨t,e⟩:=(show ∃ t,u = Value.str x t from r); subst e; exact zJv P w x t
theorem zIh:∀ {ks:List Key} {us:List Value},Vals (ks.map kV) us->ItemsAre (xZ P w) ks us
 | [],_,r=>by rw [map_nil] at r; cases r; exact .nil
 | k :: ks,_,r=>by
  rw [map_cons] at r
  cases r with
  | cons h t=>exact .cons (zPi h) (zIh t)
abbrev KT (H:Hp):List (List Key × V)->List (List Key × Addr × Value)->Prop:=Paired λp q=>p.1 = q.1 /\ H q.2.1 = some (.tup (p.1.map kV)) /\ RelV p.2 q.2.2
theorem KT.val (r:KT H kvs xs) (k:List Key):RelO (valV kvs k) ((atKey xs k).map (·.2)):=by
 induction r with
 | nil=>exact True.intro
 | @cons p q ps qs h t ih =>
  obtain ⟨h1,_,h2⟩:=h
  by_cases e:p.1 = k
  ·have e':q.1 = k:=h1.symm.trans e
   have b:atKey (q :: qs) k = some q.2:=by simp [atKey,find?_cons,e']
   rw [zF9 e,b]; exact h2
  ·have e':¬ q.1 = k:=λz=>e (h1.trans z)
   have b:atKey (q :: qs) k = atKey qs k:=by simp [atKey,find?_cons,e']
   rw [zGa e,b]; exact ih
theorem KT.repl (r:KT H kvs xs) (k:List Key) (ry:RelV y u) :
  KT H (kvs.map λkv=>if kv.1 = k then (kv.1,y) else kv) (xs.map (putAt k u)):=by
 induction r with
 | nil=>exact .nil
 | @cons p q ps qs h t ih =>
  rw [map_cons,map_cons]
  refine .cons ?_ ih
  obtain ⟨h1,h2,h3⟩:=h
  unfold putAt
  by_cases e:p.1 = k
  ·rw [if_pos e,if_pos (h1.symm.trans e)]; exact ⟨h1,h2,ry⟩
  ·rw [if_neg e,if_neg (λz=>e (h1.trans z))]; exact ⟨h1,h2,h3⟩
theorem KT.put (r:KT H kvs xs) (k:List Key) (hb:H b = some (.tup (k.map kV))) (ry:RelV y u) :
  KT H (putK kvs k y) (storedH xs k b u):=by
 have e:(kvs.any λkv=>decide (kv.1 = k)) = (atKey xs k).isSome:=by
  rw [zKl,(r.val k).isSome_eq,Option.isSome_map]
 unfold putK storedH
 rw [e]
 by_cases q:(atKey xs k).isSome = true
 ·rw [if_pos q,if_pos q]; exact r.repl k ry
 ·rw [if_neg q,if_neg q]; exact Paired.snoc r ⟨rfl,hb,ry⟩
theorem KT.keeps (r:KT H kvs xs) (ht:∀ b ys,H b = some (.tup ys)->H' b = some (.tup ys)):KT H' kvs xs :=
 Paired.mapP r λ_ _ z=>⟨z.1,ht _ _ z.2.1,z.2.2⟩
section
variable {P:Program} {w:World} {H:Hp} {h:Heap} {a:Addr}
theorem rd_of (ok:HOk P w H h) (e:Rd H a u):ObjOk P w H h a u:=e.ok ok
theorem zSp (ok:HOk P w H h) (e:Rd H a (.dK kvs)):kvs.length <= sizeLine /\ (a == sysModules) = false /\ ∃ vs,KV kvs vs /\ h.DictOf (xZ P w) a vs :=
 show ObjOk P w H h a (.dK kvs) from rd_of ok e
theorem dk_of (ok:HOk P w H h) (e:H a = some (.dK kvs)):kvs.length <= sizeLine /\ (a == sysModules) = false /\ ∃ vs,KV kvs vs /\ h.DictOf (xZ P w) a vs:=zSp ok (.inl e)
theorem zIg {ks:List Key} (ok:HOk P w H h) (e:H a = some (.tup (ks.map kV))):(tupleKind (xZ P w)).is h ks a:=by
 obtain ⟨_,its,r,o,h1,h2,n,h3⟩:=(show ObjOk P w H h a (.tup (ks.map kV)) from ok a _ e)
 exact ⟨o,its.toArray,n,h1,h2,h3,by simpa using zIh r⟩
theorem zSm (ok:HOk P w H h) (e:Rd H a (.dT kvs)):kvs.length <= sizeLine /\ (a == sysModules) = false /\
  ∃ xs,KT H kvs xs /\ h.DictOfH (tupleKind (xZ P w)) a xs:=by
 obtain ⟨z,y,xs,r,o,es,ep,h1,h2,h3,h4,h5⟩:=(show ObjOk P w H h a (.dT kvs) from rd_of ok e)
 refine ⟨z,y,xs,r,o,es,ep,h1,h2,h3,h4,λx hx=>?_,h5⟩
 have all:∀ {l:List (List Key × V)} {m:List (List Key × Addr × Value)},KT H l m->∀ x ∈ m,(tupleKind (xZ P w)).is h x.1 x.2.1:=by
  intro l m q
  induction q with
  | nil=>intro x hx; exact nomatch hx
  | @cons p q ps qs hq t ih =>
   intro x hx
   rcases mem_cons.mp hx with e | hx
   ·subst e
    exact zIg ok (by rw [<- hq.1]; exact hq.2.1)
   ·exact ih x hx
 exact all r x hx
theorem dt_of (ok:HOk P w H h) (e:H a = some (.dT kvs)):kvs.length <= sizeLine /\ (a == sysModules) = false /\
  ∃ xs,KT H kvs xs /\ h.DictOfH (tupleKind (xZ P w)) a xs:=zSm ok (.inl e)
end
def DGet (H:Hp) (a:Addr) (y:V) (r:Option V):Prop :=
 (∃ kvs k,Rd H a (.dK kvs) /\ y = kV k /\ r = valV kvs k) \/ ∃ kvs k b,Rd H a (.dT kvs) /\ y = .ref b /\ H b = some (.tup (k.map kV)) /\ r = valV kvs k
def DPut (H:Hp) (a:Addr) (y v:V) (H':Hp):Prop :=
 (∃ kvs k,H a = some (.dK kvs) /\ y = kV k /\ kvs.length < sizeLine /\ H' = upd H a (.dK (putK kvs k v))) \/
 ∃ kvs k b,H a = some (.dT kvs) /\ y = .ref b /\ H b = some (.tup (k.map kV)) /\ kvs.length < sizeLine /\ H' = upd H a (.dT (putK kvs k v))
theorem DGet.k {H:Hp} {a:Addr} {kvs:List (Key × V)} {k:Key} (e:H a = some (.dK kvs)):DGet H a (kV k) (valV kvs k):=.inl ⟨kvs,k,.inl e,rfl,rfl⟩
theorem DPut.k {H:Hp} {a:Addr} {kvs:List (Key × V)} {k:Key} {v:V} (e:H a = some (.dK kvs)) (hl:kvs.length < sizeLine):DPut H a (kV k) v (upd H a (.dK (putK kvs k v))):=.inl ⟨kvs,k,e,rfl,hl,rfl⟩
section
variable {X:Cx} {pins:List (Addr × Obj)} {σ:St} {H:Hp} {s:Shared} {a:Addr} {y v:V} {u r:Value} {o:Option V} {A:Around} {E:Value->Shared->Prop}
theorem Inv.big (I:Inv X pins σ H s):sysModules < s.heap.objs.size:=by
 have h:mainGlobals < s.heap.objs.size:=(I.mod.glob.keeps I.bk).lt
 exact Nat.lt_trans (by decide) h
theorem zQh {Q:Value->Shared->Prop} (hu:A.units + 1 < cLine) (I:Inv X pins σ H s) (g:DGet H a y (some v)) (ry:RelV y u) (h:∀ w' s',Inv X pins σ H s'->RelV v w'->Q w' s') :
  wpAny (model X.prog X.w) A (getItem (.ref a) u) Q E s:=by
 rcases g with ⟨kvs,k,e,ey,l⟩ | ⟨kvs,k,b,e,ey,eb,l⟩
 ·subst ey
  obtain ⟨z,hd,vs,rel,dd⟩:=zSp I.hok e
  obtain ⟨w',hw,rw'⟩:=RelO.some_of (v:=v) (o:=valueAt vs k) (by rw [l]; exact rel.val k)
  exact wpAny_getItem_of (zPi ry) dd.mapOf hw (h w' _ (I.tok _) rw')
 ·subst ey
  cases (show u = Value.ref b from ry)
  obtain ⟨z,hd,xs,rel,dd⟩:=zSm I.hok e
  obtain ⟨w',hw,rw'⟩:=RelO.some_of (v:=v) (o:=(atKey xs k).map (·.2)) (by rw [l]; exact rel.val k)
  obtain ⟨p,hp,hp2⟩:=Option.map_eq_some_iff.mp hw
  refine wpAny_getItem_heap (tupleKind_room_in1 hu) (zIg I.hok eb) dd hp ?_
  rw [hp2]
  exact h w' _ (I.tok _) rw'
theorem d_in {Q:Value->Shared->Prop} (hu:A.units + 1 < cLine) (I:Inv X pins σ H s) (g:DGet H a y o) (ry:RelV y u) (h:∀ s',Inv X pins σ H s'->Q (.bool o.isSome) s') :
  wpAny (model X.prog X.w) A (compareOp .In u (.ref a)) Q E s:=by
 rcases g with ⟨kvs,k,e,ey,l⟩ | ⟨kvs,k,b,e,ey,eb,l⟩
 ·subst ey
  obtain ⟨z,hd,vs,rel,dd⟩:=zSp I.hok e
  refine wpAny_in_of (zPi ry) hd dd.mapOf ?_
  rw [<- (rel.val k).isSome_eq,<- l]
  exact h _ (I.tok _)
 ·subst ey
  cases (show u = Value.ref b from ry)
  obtain ⟨z,hd,xs,rel,dd⟩:=zSm I.hok e
  refine wpAny_in_heap (tupleKind_room_in1 hu) (zIg I.hok eb) hd dd ?_
  have q:=(rel.val k).isSome_eq
  rw [Option.isSome_map] at q
  rw [<- q,<- l]
  exact h _ (I.tok _)
theorem zKf (I:Inv X pins σ H s) (mu:Mut (H a)) (hs:SameBut a s.heap h') (he:∃ q,h'.get? a = some q) (new:ObjOk X.prog X.w (upd H a ob) h' a ob) :
  Inv X pins σ (upd H a ob) { s with heap:=h',toks:=t' } :=
 I.write (x:=a) (e:=a) mu (.inl rfl) (λb q hb z=>(hs.2 b hb).trans z) he new
theorem dk_new {h':Heap} {kvs:List (Key × V)} (z:kvs.length <= sizeLine) (hd:(a == sysModules) = false) (rel:KV kvs vs) (dd:h'.DictOf (xZ P w) a vs) :
  ObjOk P w H' h' a (.dK kvs):=⟨z,hd,vs,rel,dd⟩
theorem zQg {Q:Unit->Shared->Prop} (hu:A.units + 1 < cLine) (I:Inv X pins σ H s) (g:DPut H a y v H') (ry:RelV y u) (rv:RelV v r) (h:∀ s',Inv X pins σ H' s'->Q () s') :
  wpAny (model X.prog X.w) A (setItem (.ref a) u r) Q E s:=by
 rcases g with ⟨kvs,k,e,ey,l,eH⟩ | ⟨kvs,k,b,e,ey,eb,l,eH⟩
 ·subst ey eH
  obtain ⟨z,hd,vs,rel,dd⟩:=dk_of I.hok e
  have hz:vs.length <= sizeLine:=by rw [<- rel.length]; exact z
  have hl:(putK kvs k v).length <= sizeLine:=by have:=zEj kvs k v; omega
  refine wpAny_setItem_pairs (hsz:=hz) (zPi ry) dd λh' dd' hs=>h _ ?_
  have he:∃ q,h'.get? a = some q:=let ⟨q,_,_,hq,_⟩:=dd'; ⟨q,hq⟩
  exact zKf I (by rw [e]; exact True.intro) hs he (dk_new hl hd (rel.put k rv) dd')
 ·subst ey eH
  cases (show u = Value.ref b from ry)
  obtain ⟨z,hd,xs,rel,dd⟩:=dt_of I.hok e
  have hz:xs.length <= sizeLine:=by rw [<- Paired.length rel]; exact z
  have hl:(putK kvs k v).length <= sizeLine:=by have:=zEj kvs k v; omega
  refine wpAny_setItem_heap (hsz:=hz) (tupleKind_room_in1 hu) (zIg I.hok eb) dd λh' dd' hs=>h _ ?_
  obtain ⟨q,es,ep,hq,h2,h3,h4,_,h5⟩:=dd'
  refine zKf I (by rw [e]; exact True.intro) hs ⟨q,hq⟩ ⟨hl,hd,_,(rel.put k eb rv).keeps λc ys ec=>?_,q,es,ep,hq,h2,h3,h4,h5⟩
  rw [zQ (ne_of ec e (λz=>nomatch z))]
  exact ec
end
section
variable {X:Cx} {pins:List (Addr × Obj)} {σ:St} {H:Hp} {s:Shared} {a:Addr} {kvs:List (Key × V)} {k:Key} {u:Value} {A:Around} {E:Value->Shared->Prop}
end
def NoSl (i:Expr):Prop:=∀ ov iv,subscripted i false ov iv = operate [ov,iv] (getItem ov iv)
theorem zNx {prog:Program} {w:World} {A:Around} {E:Value->Shared->Prop} {s:Shared} {env:Env} {value slice:Expr} {pos:Pos} {T id:String} {Q:Value->Shared->Prop}
  (hl:typeLookup (.type T) "__getitem__" = pure (some (.builtin id))) (hs:NoSl slice)
  (h:wpAny (model prog w) A (eval value env) (λo s₁=>wpAny (model prog w) A (eval slice env) (λi s₂=>s₂.TypeIs o T /\ wpAny (model prog w) A (getItem o i) Q E s₂) E s₁) E s) :
  wpAny (model prog w) A (eval (.Subscript value slice pos) env) Q E s:=by
 refine Subscript_ (wpAny_mono h (λo s₁ h₁=>wpAny_mono h₁ (λi s₂ h₂=>?_) λ_ _ x=>x) λ_ _ x=>x)
 obtain ⟨hT,h₂⟩:=h₂
 unfold subscriptTail
 refine wpAny_bind ?_
 rw [getitemInPython_of_ne hT.not_modules]
 refine wpAny_bind (wpAny_specialOf hT hl ?_)
 have fin:wpAny (model prog w) A (subscripted slice false o i) (λr s₃=>wpAny (model prog w) A (letTemporaryGo value o r >>= λ_=>pure r) Q E s₃) E s₂:=by
  rw [hs o i]
  exact wpAny_operating (wpAny_mono h₂ (λr s₃ h₃=>wpAny_bind (wpAny_letTemporaryGo (wpAny_pure h₃))) λ_ _ x=>x)
 first
  | exact wpAny_pure (wpAny_bind fin)
  | exact wpAny_bind (wpAny_pure (wpAny_bind fin))
  | exact wpAny_bind fin
theorem zKe (I:Inv X pins σ H s) (g:DGet H a y o):s.TypeIs (.ref a) "dict":=by
 rcases g with ⟨kvs,k,e,_,_⟩ | ⟨kvs,k,b,e,_,_,_⟩
 ·obtain ⟨_,_,vs,_,dd⟩:=zSp I.hok e
  exact dd.typeIs
 ·obtain ⟨_,_,xs,_,dd⟩:=zSm I.hok e
  exact dd.typeIs
def tDGet (td ty:TE):TE:=λσ H Q=>td σ H λx H1=>ty σ H1 λy H2=>∃ a v,x = .ref a /\ DGet H2 a y (some v) /\ Q v H2
def tDIn (ty td:TE):TE:=λσ H Q=>ty σ H λy H1=>td σ H1 λx H2=>∃ a o,x = .ref a /\ DGet H2 a y o /\ Q (.bl o.isSome) H2
def sDPut (td ty tv:TE):TS:=λD σ H=>tv σ H λv H1=>td σ H1 λx H2=>ty σ H2 λy H3=>∃ a H4,x = .ref a /\ DPut H3 a y v H4 /\ D.nx σ H4
section
variable {X:Cx} {o i e value:Expr} {pos pos' tpos:Pos} {td ty tv:TE}
theorem zOm (hu:X.A.units + 1 < cLine) (ho:PE X o td) (hi:PE X i ty) (hs:NoSl i):PE X (.Subscript o i pos) (tDGet td ty):=by
 intro pins s σ H Q I h
 refine zNx PySem.F.slot_dict_getitem.lookup hs (thn (ho pins s σ H _ I h) λu s1 ⟨x,H1,I1,rx,q1⟩=>thn (hi pins s1 σ H1 _ I1 q1) λiv s2 ⟨y,H2,I2,ry,a,v,ex,g,q2⟩=>?_)
 subst ex
 obtain rfl:u = Value.ref a:=rx
 exact ⟨zKe I2 g,zQh hu I2 g ry λw' s3 I3 rw'=>⟨v,H2,I3,rw',q2⟩⟩
theorem zTl (hu:X.A.units + 1 < cLine) (hi:PE X i ty) (ho:PE X o td):PC X .In i o (tDIn ty td):=by
 intro pins s σ H Q I h
 refine thn (hi pins s σ H _ I h) λiv s1 ⟨y,H1,I1,ry,q1⟩=>thn (ho pins s1 σ H1 _ I1 q1) λu s2 ⟨x,H2,I2,rx,a,ov,ex,g,q2⟩=>?_
 subst ex
 obtain rfl:u = Value.ref a:=rx
 exact d_in hu I2 g ry λs3 I3=>⟨.bl ov.isSome,H2,I3,rfl,q2⟩
theorem zJk (hu:X.A.units + 1 < cLine) (ho:PE X o td) (hi:PE X i ty) (hv:PE X value tv) (hs:swapsWith value (some (.Subscript o i pos')) pos.line X.env = pure false) :
  PS X (.Assign [.Subscript o i pos'] value pos) (sDPut td ty tv):=by
 intro pins s σ H D I h
 refine wpAny_Assign_Subscript (thn (hv pins s σ H _ I h) λr s1 ⟨v,H1,I1,rv,q1⟩=>thn (ho pins s1 σ H1 _ I1 q1) λu s2 ⟨x,H2,I2,rx,q2⟩=>thn (hi pins s2 σ H2 _ I2 q2) λiv s3 ⟨y,H3,I3,ry,a,H4,ex,g,q3⟩=>?_) hs
 subst ex
 obtain rfl:u = Value.ref a:=rx
 exact zQg hu I3 g ry rv λs4 I4=>⟨σ,H4,I4,q3⟩
end
theorem zLq (h:Heap) (hb:sysModules < h.objs.size):ObjOk P w H (h.push { cls:=.type "dict",data:=.dict #[] }) h.objs.size (.dK []) :=
 ⟨Nat.zero_le _,beq_eq_false_iff_ne.mpr (Ne.symm (Nat.ne_of_lt hb)),[],.nil,Heap.DictOf.new h⟩
def zS5:TE:=λ_ H Q=>∀ p,H p = none->Q (.ref p) (upd H p (.dK []))
section
variable {X:Cx} {pos:Pos}
theorem zGn:PE X (.Dict [] [] pos) zS5:=λpins s σ H Q I h =>
 wpAny_Dict_empty ⟨.ref s.heap.objs.size,_,I.laid (a:=s.heap.objs.size) (o:=.dK []) (t':=s.toks) (λ_ _ q=>get?_push_of_some _ q) (Nat.le_refl _) (zLq s.heap I.big),rfl,h _ (I.hok.fresh (Nat.le_refl _))⟩
end
structure M1 (X:Cx) (o:Expr) (m:Str) (apos:Pos) (e:Expr) (cpos:Pos):Prop where
 base:attributeBase o m X.env (eval o X.env) = eval o X.env
 few:((backTo cpos (starEach [e] X.env)).all (λx=>!x.1) && (backToKw cpos (keywordEach [] X.env)).all (λx=>x.1.isSome)
  && decide (([e]:List Expr).length + ([]:List Keyword).length + (if ([]:List Keyword).isEmpty then 0 else 1) < 30)) = true
 line:(apos.endLine == cpos.line) = true
 trees:backTo cpos (starEach [e] X.env) = [(false,eval e X.env)]
structure M2 (X:Cx) (o:Expr) (m:Str) (apos:Pos) (e f:Expr) (cpos:Pos):Prop where
 base:attributeBase o m X.env (eval o X.env) = eval o X.env
 few:((backTo cpos (starEach [e,f] X.env)).all (λx=>!x.1) && (backToKw cpos (keywordEach [] X.env)).all (λx=>x.1.isSome)
  && decide (([e,f]:List Expr).length + ([]:List Keyword).length + (if ([]:List Keyword).isEmpty then 0 else 1) < 30)) = true
 line:(apos.endLine == cpos.line) = true
 trees:backTo cpos (starEach [e,f] X.env) = [(false,eval e X.env),(false,eval f X.env)]
section
variable {X:Cx} {pins:List (Addr × Obj)} {σ:St} {H:Hp} {s:Shared} {a:Addr} {y d:V} {u r:Value} {o:Option V} {A:Around} {E:Value->Shared->Prop}
end
section
variable {X:Cx} {o e f:Expr} {apos cpos:Pos} {td ty tx:TE}
end
section
variable {X:Cx} {pins:List (Addr × Obj)} {σ:St} {H:Hp} {s:Shared} {a:Addr} {kvs:List (Key × V)} {A:Around} {E:Value->Shared->Prop}
end
section
variable {X:Cx} {pins:List (Addr × Obj)} {σ:St} {H:Hp} {s:Shared} {a:Addr} {y:V} {u:Value} {A:Around} {E:Value->Shared->Prop}
end
end L2
namespace HT
open PySem PyProof.Rows
section
open PySem.SeqAt
open PySem.AutoSeq1 (wpAny_loadPart')
open PySem.MeetsSeq PySem.MeetsSeq2 PySem.MeetsSeq3
end
section
variable {prog:Program} {w:World} {A:Around} {E:Value->Shared->Prop} {s:Shared}
end
end HT
namespace L2
open PySem PySem.Spec PyProof.Rows
abbrev TO:=St->Hp->(Option Int->Hp->Prop)->Prop
def PO (X:Cx) (e:Option Expr) (t:TO):Prop :=
 ∀ (pins:List (Addr × Obj)) (s:Shared) (σ:St) (H:Hp) (Q:Option Int->Hp->Prop),Inv X pins σ H s->t σ H Q ->
  wpAny (model X.prog X.w) X.A (evalPart e X.env) (λu s'=>∃ o H',Inv X pins σ H' s' /\ IsPart u o /\ Q o H') X.xe s
def zNt:TO:=λ_ H Q=>Q none H
def tPart (t:TE):TO:=λσ H Q=>t σ H λx H1=>∃ i,x = .int i /\ Q (some i) H1
section
variable {X:Cx} {e:Expr} {te:TE} {lo hi:Option Expr} {tl th:TO} {pos p2:Pos}
theorem po_none:PO X none zNt:=by
 intro pins s σ H Q I h
 rw [evalPart_none]
 exact wpAny_pure ⟨none,H,I,.none,h⟩
theorem po_some (h:PE X e te):PO X (some e) (tPart te):=by
 intro pins s σ H Q I hw
 rw [evalPart_some]
 refine thn (h pins s σ H _ I hw) λu s1 ⟨x,H1,I1,r1,q1⟩=>?_
 obtain ⟨i,rfl,q⟩:=q1
 obtain ⟨t,rfl⟩:=r1
 exact ⟨some i,H1,I1,.int i t,q⟩
def SlR (X:Cx) (r:V->Option Int->Option Int->Hp->VK->Prop):Prop :=
 ∀ (pins:List (Addr × Obj)) (s:Shared) (σ:St) (H:Hp) (x:V) (v vl vu:Value) (lo hi:Option Int) (sl:Addr) (Q:VK),Inv X pins σ H s->RelV x v->s.heap.IsSliceOf sl vl vu .none->IsPart vl lo->IsPart vu hi->r x lo hi H Q ->
  ∃ T id,typeLookup (.type T) "__getitem__" = pure (some (.builtin id)) /\ s.TypeIs v T /\ wpAny (model X.prog X.w) X.A (getItem v (.ref sl)) (EP X pins σ Q) X.xe s
def tSl (r:V->Option Int->Option Int->Hp->VK->Prop) (te:TE) (tl th:TO):TE:=λσ H Q=>te σ H λx H1=>tl σ H1 λl H2=>th σ H2 λu H3=>r x l u H3 Q
theorem zRq (hr:SlR X r) (he:PE X e te) (hl:PO X lo tl) (hu:PO X hi th):PE X (.Subscript e (.Slice lo hi none p2) pos) (tSl r te tl th):=by
 intro pins s σ H Q I h
 refine Subscript_ (thn (he pins s σ H _ I h) λv s1 ⟨x,H1,I1,r1,q1⟩=>?_)
 refine wpAny_Slice (thn (hl pins s1 σ H1 _ I1 q1) λvl s2 ⟨l,H2,I2,pl,q2⟩=>thn (hu pins s2 σ H2 _ I2 q2) λvu s3 ⟨u,H3,I3,pu,q3⟩=>?_)
 rw [evalPart_none]
 refine wpAny_pure ?_
 have I4:Inv X pins σ H3 { s3 with heap:=s3.heap.push { cls:=.type "slice",data:=.fields #[vl,vu,.none] } }:=I3.kept (t':=s3.toks) λb ob q=>get?_push_of_some _ q
 obtain ⟨T,id,hT,ht,hg⟩:=hr pins { s3 with heap:=s3.heap.push { cls:=.type "slice",data:=.fields #[vl,vu,.none] } } σ H3 x v vl vu l u s3.heap.objs.size Q I4 r1 (Heap.IsSliceOf.new ..) pl pu q3
 show wpAny (model X.prog X.w) X.A (subscriptTail e (.Slice lo hi none p2) v (.ref s3.heap.objs.size)) (EP X pins σ Q) X.xe { s3 with heap:=s3.heap.push { cls:=.type "slice",data:=.fields #[vl,vu,.none] } }
 exact tail_any (ops:=[.ref s3.heap.objs.size,v]) ht hT hg (by with_unfolding_all rfl)
end
def ixN (n:Nat) (i:Int):Option Nat:=if 0 <= i then (if i < n then some i.toNat else none) else if -(n:Int) <= i then some (i + n).toNat else none
def atI {α:Type} (xs:List α) (i:Int):Option α:=(ixN xs.length i).bind λj=>xs[j]?
theorem ixN_seq (h:ixN n i = some j):seqIndex? i n = some j /\ j < n /\ -(n:Int) <= i /\ i < n:=by
 unfold ixN at h
 by_cases h0:0 <= i
 ·rw [if_pos h0] at h
  by_cases h1:i < n
  ·rw [if_pos h1] at h
   have e:i.toNat = j:=Option.some.inj h
   exact ⟨by rw [seqIndex_of h0 h1,e],by omega,by omega,h1⟩
  ·rw [if_neg h1] at h; cases h
 ·rw [if_neg h0] at h
  by_cases h1:-(n:Int) <= i
  ·rw [if_pos h1] at h
   have e:(i + n).toNat = j:=Option.some.inj h
   exact ⟨by rw [seqIndex_neg (by omega) h1,e],by omega,h1,by omega⟩
  ·rw [if_neg h1] at h; cases h
theorem zQs {α:Type} {xs:List α} {v:α} (h:atI xs i = some v):∃ j,seqIndex? i xs.length = some j /\ xs[j]? = some v /\ j < xs.length /\ -(xs.length:Int) <= i /\ i < xs.length:=by
 unfold atI at h
 cases e:ixN xs.length i with
 | none=>rw [e] at h; cases h
 | some j =>
  rw [e] at h
  obtain ⟨h1,h2,h3,h4⟩:=ixN_seq e
  exact ⟨j,h1,h,h2,h3,h4⟩
theorem zQr {α:Type} {xs:List α} {j:Nat} {v:α} (h:xs[j]? = some v):atI xs (j:Int) = some v:=by
 have hj:j < xs.length:=(List.getElem?_eq_some_iff.mp h).1
 have e:ixN xs.length (j:Int) = some j:=by
  unfold ixN
  rw [if_pos (by omega),if_pos (by omega)]; simp
 unfold atI; rw [e]; exact h
theorem zLx {α:Type} (xs:List α) (v:α):atI (xs ++ [v]) (-1) = some v:=by
 have hl:(xs ++ [v]).length = xs.length + 1:=by simp
 have e:ixN (xs ++ [v]).length (-1) = some xs.length:=by
  unfold ixN
  rw [hl,if_neg (by decide),if_pos (by omega)]
  congr 1
  omega
 unfold atI
 rw [e]
 show (xs ++ [v])[xs.length]? = some v
 simp
def PlainIx (b:Expr):Prop:=∀ o i,subscripted b false o i = operate [o,i] (getItem o i)
def IxR (X:Cx) (r:R2):Prop :=
 ∀ (value slice:Expr) (pins:List (Addr × Obj)) (s:Shared) (σ:St) (H:Hp) (x y:V) (v u:Value) (Q:VK),Inv X pins σ H s->RelV x v->RelV y u->r x y H Q ->
  subscripted slice false v u = operate [v,u] (getItem v u)->wpAny (model X.prog X.w) X.A (subscriptTail value slice v u) (EP X pins σ Q) X.xe s
def MtR (X:Cx) (id:String) (r:V->List V->Hp->VK->Prop):Prop :=
 ∀ (pins:List (Addr × Obj)) (s:Shared) (σ:St) (H:Hp) (x:V) (xs:List V) (v:Value) (us:List Value) (Q:VK),Inv X pins σ H s->RelV x v->Vals xs us->r x xs H Q ->
  wpAny (model X.prog X.w) X.A (call (.builtin id) (v :: us)) (EP X pins σ Q) X.xe s
section
variable {X:Cx} {a b:Expr} {ta tb:TE} {pos:Pos}
theorem yD (hr:IxR X r) (ha:PE X a ta) (hb:PE X b tb) (hs:PlainIx b):PE X (.Subscript a b pos) (tOp r ta tb):=by
 intro pins s σ H Q I h
 exact Subscript_ (binT ha hb I h λv u s2 x y H2 I2 rx ry q=>hr a b pins s2 σ H2 x y v u Q I2 rx ry q (hs _ _))
def rIxL (K:PySem.W.Frag):R2:=λx y H Q=>∃ p xs i v,x = .ref p /\ y = .int i /\ SqL K H p xs /\ atI xs i = some v /\ Q v H
def rIxT (K:PySem.W.Frag):R2:=λx y H Q=>∃ p xs i v,x = .ref p /\ y = .int i /\ SqT K H p xs /\ atI xs i = some v /\ Q v H
theorem zPj:IxR X (rIxL X.K):=by
 intro value slice pins s σ H x y v u Q I rx ry h hs
 obtain ⟨p,xs,i,z,rfl,rfl,hq,he,q⟩:=h
 cases rx
 obtain ⟨t,rfl⟩:=ry
 obtain ⟨its,r,pl,hz⟩:=I.list hq
 obtain ⟨j,h1,h2,h3,h4,h5⟩:=zQs he
 obtain ⟨w,ew,rw'⟩:=r.get h2
 have hl:=r.length
 have hn:=zLc
 have fin:EP X pins σ Q w s:=⟨z,H,I,rw',q⟩
 by_cases h0:0 <= i
 ·have hj:i.toNat = j:=by
   rw [seqIndex_of h0 h5] at h1
   exact Option.some.inj h1
  exact item_listR pl.isList h0 (by omega) (by rw [hj]; simpa using ew) fin hs
 ·have hj:(i + (its.toArray.size:Int)).toNat = j:=by
   rw [seqIndex_neg (by omega) h4] at h1
   rw [size_toArray,<- hl]
   exact Option.some.inj h1
  exact subscriptTail_builtinR (x:=w) pl.isList.typeIs slot_list_getitem.lookup
   (wpAny_getItem_list_neg (Q:=λr s'=>r = w /\ EP X pins σ Q r s') pl.isList (by omega) (by rw [size_toArray] <;> omega) (by omega) (by rw [hj]; simpa using ew) ⟨rfl,fin⟩) hs
theorem ix_tup:IxR X (rIxT X.K):=by
 intro value slice pins s σ H x y v u Q I rx ry h hs
 obtain ⟨p,xs,i,z,rfl,rfl,hq,he,q⟩:=h
 cases rx
 obtain ⟨t,rfl⟩:=ry
 obtain ⟨its,r,pl,hz⟩:=I.tuple hq
 obtain ⟨j,h1,h2,h3,h4,h5⟩:=zQs he
 obtain ⟨w,ew,rw'⟩:=r.get h2
 have hl:=r.length
 have hn:=zLc
 have fin:EP X pins σ Q w s:=⟨z,H,I,rw',q⟩
 exact subscriptTail_builtinR (x:=w) pl.typeIs slot_tuple_getitem.lookup
  (getItem_tuple (j:=j) (Q:=λr s'=>r = w /\ EP X pins σ Q r s') pl (by omega) (by omega) (by rw [size_toArray,<- hl]; exact h1) (by simpa using ew) ⟨rfl,fin⟩) hs
def zFl:V->Bool
 | .non=>true
 | .bl _=>true
 | .int _=>true
 | .str _=>true
 | _=>false
def eqV:V->V->Bool
 | .non,.non=>true
 | .bl a,.bl b=>a == b
 | .bl a,.int b=>(if a then 1 else 0) == b
 | .int a,.bl b=>a == (if b then 1 else 0)
 | .int a,.int b=>a == b
 | .str a,.str b=>a == b
 | _,_=>false
theorem eqAt_V (ry:RelV y u) (rx:RelV x v) (fy:zFl y = true) (fx:zFl x = true):SeqAt.EqAt A s u v (eqV y x):=by
 cases y with
 | non =>
  cases ry
  cases x with
  | non=>cases rx; exact SeqAt.EqAt.same _
  | bl b=>cases rx; exact SeqAt.EqAt.none_bool b
  | int b=>obtain ⟨t,rfl⟩:=rx; exact SeqAt.EqAt.none_int b t
  | str b=>obtain ⟨t,rfl⟩:=rx; exact SeqAt.EqAt.none_str b t
  | _=>exact absurd (show false = true from fx) Bool.false_ne_true
 | bl a =>
  cases ry
  cases x with
  | non=>cases rx; exact SeqAt.EqAt.bool_none a
  | bl b=>cases rx; exact SeqAt.EqAt.bool_bool a b
  | int b=>obtain ⟨t,rfl⟩:=rx; exact SeqAt.EqAt.bool_int a b t
  | str b=>obtain ⟨t,rfl⟩:=rx; exact SeqAt.EqAt.bool_str a b t
  | _=>exact absurd (show false = true from fx) Bool.false_ne_true
 | int a =>
  obtain ⟨t',rfl⟩:=ry
  cases x with
  | non=>cases rx; exact SeqAt.EqAt.int_none a t'
  | bl b=>cases rx; exact SeqAt.EqAt.int_bool a t' b
  | int b=>obtain ⟨t,rfl⟩:=rx; exact SeqAt.EqAt.int_int a t' b t
  | str b=>obtain ⟨t,rfl⟩:=rx; exact SeqAt.EqAt.int_str a t' b t
  | _=>exact absurd (show false = true from fx) Bool.false_ne_true
 | str a =>
  obtain ⟨t',rfl⟩:=ry
  cases x with
  | non=>cases rx; exact SeqAt.EqAt.str_none a t'
  | bl b=>cases rx; exact SeqAt.EqAt.str_bool a t' b
  | int b=>obtain ⟨t,rfl⟩:=rx; exact SeqAt.EqAt.str_int a t' b t
  | str b=>obtain ⟨t,rfl⟩:=rx; exact SeqAt.EqAt.str_str a t' b t
  | _=>exact absurd (show false = true from fx) Bool.false_ne_true
 | _=>exact absurd (show false = true from fy) Bool.false_ne_true
def eqU (x:V) (u:Value):Bool:=match u with
 | .none=>eqV .non x
 | .bool b=>eqV (.bl b) x
 | .int i _=>eqV (.int i) x
 | .str z _=>eqV (.str z) x
 | _=>false
theorem zT3 (r:RelV y u) (f:zFl y = true):eqU x u = eqV y x:=by
 cases y with
 | non=>cases r; rfl
 | bl b=>cases r; rfl
 | int i=>obtain ⟨t,rfl⟩:=r; rfl
 | str z=>obtain ⟨t,rfl⟩:=r; rfl
 | _=>exact absurd (show false = true from f) Bool.false_ne_true
theorem zE3:∀ {xs:List V} {us:List Value},Vals xs us->xs.all zFl = true->us.any (eqU x) = xs.any λy=>eqV y x
 | _,_,.nil,_=>rfl
 | y :: xs,u :: us,.cons r t,f=>by
  rw [all_cons,Bool.and_eq_true] at f
  rw [any_cons,any_cons,zT3 r f.1,zE3 t f.2]
theorem zCf (rx:RelV x v) (fx:zFl x = true):∀ {xs:List V} {us:List Value},Vals xs us->xs.all zFl = true->∀ u ∈ us,SeqAt.EqAt A s u v (eqU x u)
 | _,_,.nil,_=>λu hu=>by cases hu
 | y :: xs,u :: us,.cons r t,f=>λu' hu=>by
  rw [all_cons,Bool.and_eq_true] at f
  rcases mem_cons.mp hu with rfl | hu
  ·rw [zT3 r f.1]; exact eqAt_V r rx f.1 fx
  ·exact zCf rx fx t f.2 u' hu
def inV (x:V) (xs:List V):Bool:=xs.any λy=>eqV y x
def rIn (K:PySem.W.Frag) (neg:Bool):R2:=λx y H Q=>∃ p xs,y = .ref p /\ (SqL K H p xs \/ SqT K H p xs) /\ zFl x = true /\ xs.all zFl = true /\ Q (.bl (if neg then !inV x xs else inV x xs)) H
theorem zOt:OpR X (compareOp .In) (rIn X.K false):=by
 intro pins s σ H x y v u Q I rx ry h
 obtain ⟨p,xs,rfl,hq,fx,fs,q⟩:=h
 cases ry
 rcases hq with hq | hq
 ·obtain ⟨its,r,pl,hz⟩:=I.list hq
  refine SeqAt.in_listAt (eqU x) pl.isList (λw hw=>zCf rx fx r fs w (by simpa using hw)) ⟨.bl _,H,I,rfl,?_⟩
  rw [show its.toArray.any (eqU x) = its.any (eqU x) by simp,zE3 r fs]
  exact q
 ·obtain ⟨its,r,pl,hz⟩:=I.tuple hq
  refine SeqAt.in_tupleAt (eqU x) pl (λw hw=>zCf rx fx r fs w (by simpa using hw)) ⟨.bl _,H,I,rfl,?_⟩
  rw [show its.toArray.any (eqU x) = its.any (eqU x) by simp,zE3 r fs]
  exact q
theorem zH1:OpR X (compareOp .NotIn) (rIn X.K true):=by
 intro pins s σ H x y v u Q I rx ry h
 obtain ⟨p,xs,rfl,hq,fx,fs,q⟩:=h
 cases ry
 rcases hq with hq | hq
 ·obtain ⟨its,r,pl,hz⟩:=I.list hq
  refine SeqAt.notIn_listAt (eqU x) pl.isList (λw hw=>zCf rx fx r fs w (by simpa using hw)) ⟨.bl _,H,I,rfl,?_⟩
  rw [show its.toArray.any (eqU x) = its.any (eqU x) by simp,zE3 r fs]
  exact q
 ·obtain ⟨its,r,pl,hz⟩:=I.tuple hq
  refine SeqAt.notIn_tupleAt (eqU x) pl (λw hw=>zCf rx fx r fs w (by simpa using hw)) ⟨.bl _,H,I,rfl,?_⟩
  rw [show its.toArray.any (eqU x) = its.any (eqU x) by simp,zE3 r fs]
  exact q
theorem zIx:zAx X (.builtin "len") (λxs H Q=>∃ p ys,xs = [.ref p] /\ (SqL X.K H p ys \/ SqT X.K H p ys) /\ Q (.int ys.length) H):=by
 intro pins s σ H xs us Q I r h
 obtain ⟨p,ys,rfl,hq,q⟩:=h
 obtain ⟨u,rfl,rx⟩:=zFe r
 cases rx
 have hn:=zLc
 rcases hq with hq | hq
 ·obtain ⟨its,r',pl,hz⟩:=I.list hq
  have hlen:=r'.length
  exact Calls.call_len_list pl.isList (by simp only [size_toArray] <;> omega) ⟨.int ys.length,H,I.tok _,⟨s.toks + 1,by rw [size_toArray,hlen]⟩,q⟩
 ·obtain ⟨its,r',pl,hz⟩:=I.tuple hq
  have hlen:=r'.length
  exact len_tuple pl (by simp only [size_toArray] <;> omega) ⟨.int ys.length,H,I.tok _,⟨s.toks + 1,by rw [size_toArray,hlen]⟩,q⟩
theorem zIw:zAx X (.type "list") (λxs H Q=>∃ p ys,xs = [.ref p] /\ (SqL X.K H p ys \/ SqT X.K H p ys) /\ ∀ l,H l = none->Q (.ref l) (upd H l (.lst ys))):=by
 intro pins s σ H xs us Q I r h
 obtain ⟨p,ys,rfl,hq,q⟩:=h
 obtain ⟨u,rfl,rx⟩:=zFe r
 cases rx
 have fin:∀ (its:List Value),Vals ys its->ys.length <= sizeLine->∀ (h':Heap) (c':Nat),(∀ b o',s.heap.get? b = some o'->h'.get? b = some o') ->
   h'.get? s.heap.objs.size = some { cls:=.type "list",dict:=none,data:=.seq its.toArray c',slots:=#[] }->EP X pins σ Q (.ref s.heap.objs.size) { s with heap:=h' }:=λits r' hz h' c' kp e =>
  ⟨.ref s.heap.objs.size,_,I.laid (t':=s.toks) kp (Nat.le_refl _) (show ObjOk X.prog X.w _ h' _ (.lst ys) from ⟨hz,its,c',r',e⟩),rfl,q _ (I.hok.fresh (Nat.le_refl _))⟩
 rcases hq with hq | hq
 ·obtain ⟨its,r',pl,hz⟩:=I.list hq
  have hlen:=r'.length
  obtain ⟨o,ho,hc,n,hd⟩:=pl.isList
  exact call_list_seq p (.inl rfl) ho hc hd (λh' c' kp e=>fin its r' hz h' c' kp e) (by simp only [size_toArray] <;> omega)
 ·obtain ⟨its,r',pl,hz⟩:=I.tuple hq
  have hlen:=r'.length
  obtain ⟨o,ho,hc,n,hd⟩:=pl
  exact call_list_seq p (.inr rfl) ho hc hd (λh' c' kp e=>fin its r' hz h' c' kp e) (by simp only [size_toArray] <;> omega)
theorem zHa:zAx X (.type "tuple") (λxs H Q=>∃ p ys,xs = [.ref p] /\ ((SqL X.K H p ys /\ ∀ l,H l = none->Q (.ref l) (upd H l (.tup ys))) \/ (SqT X.K H p ys /\ Q (.ref p) H))):=by
 intro pins s σ H xs us Q I r h
 obtain ⟨p,ys,rfl,h⟩:=h
 obtain ⟨u,rfl,rx⟩:=zFe r
 cases rx
 rcases h with ⟨hq,q⟩ | ⟨hq,q⟩
 ·obtain ⟨its,r',pl,hz⟩:=I.list hq
  have hlen:=r'.length
  refine call_tuple_list pl.isList (λh' kp=>?_) (by simp only [size_toArray] <;> omega)
  have I1:Inv X pins σ H { s with heap:=h' }:=I.kept (t':=s.toks) kp
  have I2:Inv X pins σ (upd H h'.objs.size (.tup ys)) { s with heap:=h'.push { cls:=.type "tuple",data:=.seq its.toArray } } :=
   I1.laid (t':=s.toks) (λb o e=>get?_push_of_some _ e) (Nat.le_refl _) (show ObjOk X.prog X.w _ _ _ (.tup ys) from ⟨hz,its,r',IsTup.new _ _⟩)
  exact ⟨.ref h'.objs.size,_,I2,rfl,q _ (I1.hok.fresh (Nat.le_refl _))⟩
 ·obtain ⟨its,r',pl,hz⟩:=I.tuple hq
  exact call_tuple_same pl ⟨.ref p,H,I,rfl,q⟩
def tyV (K:PySem.W.Frag) (T:String) (x:V) (H:Hp):Prop:=match x with
 | .str _=>T = "str"
 | .int _=>T = "int"
 | .ref p=>(T = "list" /\ ∃ xs,SqL K H p xs) \/ (T = "tuple" /\ ∃ o,K.lookup p = some o /\ o.cls = .type "tuple" /\ o.dict = none) \/
   (T = "dict" /\ ((∃ kvs,H p = some (.dK kvs)) \/ ∃ kvs,H p = some (.dT kvs))) \/ (T = "set" /\ ∃ S n,H p = some (.set S n))
 | _=>False
theorem zS1 (I:Inv X pins σ H s) (r:RelV x v) (ty:tyV X.K T x H) :
  s.TypeIs v T /\ ∀ a,v = .ref a->∃ ob,s.heap.get? a = some ob /\ ob.dict = none:=by
 cases x with
 | str z =>
  obtain ⟨t,rfl⟩:=r
  cases (show T = "str" from ty)
  exact ⟨typeIs_str s z t,λ_ e=>nomatch e⟩
 | int i =>
  obtain ⟨t,rfl⟩:=r
  cases (show T = "int" from ty)
  exact ⟨typeIs_int s i t,λ_ e=>nomatch e⟩
 | ref p =>
  cases r
  rcases ty with ⟨rfl,xs,hq⟩ | ⟨rfl,o,hk,hc,hd⟩ | ⟨rfl,hk⟩ | ⟨rfl,S,n,hk⟩
  ·obtain ⟨its,_,pl,_⟩:=I.list hq
   refine ⟨pl.isList.typeIs,λa e=>?_⟩
   cases e
   obtain ⟨o,n,e,c,hd,_⟩:=pl
   exact ⟨o,e,hd⟩
  ·refine ⟨⟨o,I.kIn p o hk,hc⟩,λa e=>?_⟩
   cases e
   exact ⟨o,I.kIn _ o hk,hd⟩
  ·have z:∃ o,s.heap.get? p = some o /\ o.ExactDict:=by
    rcases hk with ⟨kvs,hk⟩ | ⟨kvs,hk⟩
    ·obtain ⟨_,_,_,_,o,_,_,e,ex,_⟩:=I.hok p _ hk
     exact ⟨o,e,ex⟩
    ·obtain ⟨_,_,_,_,o,_,_,e,ex,_⟩:=I.hok p _ hk
     exact ⟨o,e,ex⟩
   obtain ⟨o,e,ex⟩:=z
   refine ⟨⟨o,e,ex.1⟩,λa e2=>?_⟩
   cases e2
   exact ⟨o,e,ex.2.1⟩
  ·obtain ⟨o,_,_,_,e,ex,_⟩:=I.hok p _ hk
   refine ⟨⟨o,e,ex.1⟩,λa e2=>?_⟩
   cases e2
   exact ⟨o,e,ex.2.1⟩
 | _=>exact False.elim ty
def tBM0 (K:PySem.W.Frag) (T:String) (r:V->List V->Hp->VK->Prop) (to:TE):TE:=λσ H Q=>to σ H λx H1=>tyV K T x H1 /\ r x [] H1 Q
def tBM (K:PySem.W.Frag) (T:String) (r:V->List V->Hp->VK->Prop) (to:TE) (t:TA):TE:=λσ H Q=>to σ H λx H1=>tyV K T x H1 /\ t σ H1 λxs H2=>r x xs H2 Q
variable {o e:Expr} {es:List Expr} {to:TE} {t:TA} {name:Str} {apos cpos:Pos} {T id:String} {r:V->List V->Hp->VK->Prop}
theorem pe_bm0 (pa:PlainAttrs T) (slot:Slot T name id) (hty:typeOf (.builtin id) = pure (.type "method_descriptor")) (hm:MtR X id r) (ho:PE X o to)
  (hbase:attributeBase o name X.env (eval o X.env) = eval o X.env:=by rfl) (hline:(apos.endLine == cpos.line) = true:=by rfl):PE X (.Call (.Attribute o name apos) [] [] cpos) (tBM0 X.K T r to):=by
 intro pins s σ H Q I h
 refine wpAny_Call_method0_late hbase hline (thn (ho pins s σ H _ I h) λv s1 ⟨x,H1,I1,r1,ty,q1⟩=>?_)
 obtain ⟨h1,h2⟩:=zS1 I1 r1 ty
 exact ⟨T,id,pa,slot,hty,h1,h2,Calls.callWith_builtin rfl (PySem.evalArgs_none (hm pins s1 σ H1 x [] v [] Q I1 r1 .nil q1))⟩
theorem pe_bm (pa:PlainAttrs T) (slot:Slot T name id) (hty:typeOf (.builtin id) = pure (.type "method_descriptor")) (hm:MtR X id r) (ho:PE X o to) (ha:PA X (e :: es) t)
  (hbase:attributeBase o name X.env (eval o X.env) = eval o X.env:=by rfl)
  (hfew:((backTo cpos (starEach (e :: es) X.env)).all (λx=>!x.1) && (backToKw cpos (keywordEach [] X.env)).all (λx=>x.1.isSome)
   && decide ((e :: es).length + ([]:List Keyword).length + (if ([]:List Keyword).isEmpty then 0 else 1) < 30)) = true:=by rfl)
  (hline:(apos.endLine == cpos.line) = true:=by rfl) (hs:starEach (e :: es) X.env = (false,eval e X.env) :: starEach es X.env:=by rfl) (hplain:(backTo cpos (starEach es X.env)).any (·.1) = false:=by rfl) :
  PE X (.Call (.Attribute o name apos) (e :: es) [] cpos) (tBM X.K T r to t):=by
 intro pins s σ H Q I h
 refine wpAny_Call_method_late hbase hfew hline rfl (thn (ho pins s σ H _ I h) λv s1 ⟨x,H1,I1,r1,ty,q1⟩=>?_)
 obtain ⟨h1,h2⟩:=zS1 I1 r1 ty
 refine ⟨T,id,pa,slot,hty,h1,h2,?_⟩
 have hA:=ha cpos pins s1 σ H1 _ I1 q1
 rw [hs] at hA ⊢
 refine Calls.callWith_builtin (by show (false || (backTo cpos (starEach es X.env)).any (·.1)) = false; rw [hplain] <;> rfl) (Calls.evalArgs_plain ?_)
 exact thn hA λus s2 ⟨vs,H2,I2,r2,q2⟩=>hm pins s2 σ H2 x vs v us Q I2 r1 r2 q2
end
def MtM (X:Cx) (id:String) (r:V->List V->Hp->VK->Prop):Prop :=
 ∀ (pins:List (Addr × Obj)) (s:Shared) (σ:St) (H:Hp) (x:V) (xs:List V) (v:Value) (us:List Value) (Q:VK),Inv X pins σ H s->RelV x v->Vals xs us->r x xs H Q ->
  wpAny (model X.prog X.w) X.A (call (.builtin id) (v :: us)) (EP X pins σ Q) X.xe s
theorem Vals.one:∀ {x:V} {us:List Value},Vals [x] us->∃ u,us = [u] /\ RelV x u
 | _,_,.cons r .nil=>⟨_,rfl,r⟩
theorem Vals.two:∀ {x y:V} {us:List Value},Vals [x,y] us->∃ u v,us = [u,v] /\ RelV x u /\ RelV y v
 | _,_,_,.cons r (.cons q .nil)=>⟨_,_,rfl,r,q⟩
theorem Vals.zero:∀ {us:List Value},Vals [] us->us = []
 | _,.nil=>rfl
theorem Vals.dropLast (h:Vals xs us):Vals xs.dropLast us.dropLast:=by
 induction h with
 | nil=>exact .nil
 | cons r t ih =>
  cases t with
  | nil=>exact .nil
  | cons q t'=>exact .cons r ih
theorem Vals.eraseIdx:∀ {xs:List V} {us:List Value} (i:Nat),Vals xs us->Vals (xs.eraseIdx i) (us.eraseIdx i)
 | _,_,_,.nil=>.nil
 | _,_,0,.cons _ t=>t
 | _,_,i + 1,.cons r t=>.cons r (Vals.eraseIdx i t)
theorem Vals.reverse (h:Vals xs us):Vals xs.reverse us.reverse:=by
 induction h with
 | nil=>exact .nil
 | cons r t ih=>rw [reverse_cons,reverse_cons]; exact Vals.append ih (.cons r .nil)
theorem zM0 {α:Type} (l:List α):l.eraseIdx (l.length - 1) = l.dropLast:=by
 induction l with
 | nil=>rfl
 | cons a r ih =>
  cases r with
  | nil=>rfl
  | cons b r =>
   have e:(a :: b :: r).length - 1 = ((b :: r).length - 1) + 1:=by
    have h1:(a :: b :: r).length = r.length + 2:=rfl
    have h2:(b :: r).length = r.length + 1:=rfl
    omega
   rw [e,List.eraseIdx_cons_succ,ih]
   all_goals rfl
section
variable {X:Cx} {pins:List (Addr × Obj)} {σ:St} {H:Hp} {s:Shared} {l b:Addr} {xs ys zs:List V}
theorem Inv.lset {its its':List Value} {f:Array Value->Array Value} (I:Inv X pins σ H s) (hH:H l = some (.lst xs))
  (e:s.heap.get? l = some { cls:=.type "list",data:=.seq its.toArray n }) (hf:f its.toArray = its'.toArray) (hv:Vals ys its') (hz:ys.length <= sizeLine) :
  Inv X pins σ (upd H l (.lst ys)) { s with heap:=s.heap.update l (Obj.mapSeq f),toks:=t' }:=by
 have q:=PySem.IsL.update e f
 rw [hf] at q
 refine I.write (x:=l) (e:=l) (by rw [hH]; exact trivial) (.inl rfl) (λb' u hb hu=>(get?_update_other s.heap (Obj.mapSeq f) (Ne.symm hb)).trans hu) ⟨_,q⟩ ?_
 exact ⟨hz,its',_,hv,q⟩
theorem Inv.lstM (I:Inv X pins σ H s) (hH:H l = some (.lst xs)):xs.length <= sizeLine /\ ∃ (its:List Value) (n:Nat),Vals xs its /\ xs.length = its.length /\ s.heap.get? l = some { cls:=.type "list",data:=.seq its.toArray n }:=by
 obtain ⟨z,its,n,r,e⟩:=I.hok l _ hH
 exact ⟨z,its,n,r,r.length,e⟩
end
section
variable {X:Cx}
def zD5:V->List V->Hp->VK->Prop:=λx vs H Q=>∃ l xs y,x = .ref l /\ vs = [y] /\ H l = some (.lst xs) /\ xs.length < sizeLine /\ Q .non (upd H l (.lst (xs ++ [y])))
theorem yQ:MtM X "list.append" zD5:=by
 intro pins s σ H x vs v us Q I rx rv h
 obtain ⟨l,xs,y,rfl,rfl,hH,hz,q⟩:=h
 cases rx
 obtain ⟨u,rfl,ru⟩:=rv.one
 obtain ⟨z,its,n,r,hl,e⟩:=I.lstM hH
 refine call_meets F.slot_list_append ⟨_,e,rfl⟩ F.entry_list_append (F.args_list_append_2 _ _) (PySem.list_append l its.toArray n u (by rw [size_toArray]; omega)) ⟨e,?_⟩
 refine ⟨.non,_,I.lset (its':=its ++ [u]) hH e (by simp) (r.append (.cons ru .nil)) ?_,rfl,q⟩
 rw [length_append,length_singleton]
 omega
def rPop:V->List V->Hp->VK->Prop:=λx vs H Q=>∃ l xs y,x = .ref l /\ vs = [] /\ H l = some (.lst xs) /\ xs[xs.length - 1]? = some y /\ Q y (upd H l (.lst xs.dropLast))
theorem mt_pop:MtM X "list.pop" rPop:=by
 intro pins s σ H x vs v us Q I rx rv h
 obtain ⟨l,xs,y,rfl,rfl,hH,hy,q⟩:=h
 cases rx
 have hus:=rv.zero
 subst hus
 obtain ⟨z,its,n,r,hl,e⟩:=I.lstM hH
 obtain ⟨u,hu,ru⟩:=r.get hy
 have hy':its.toArray[its.toArray.size - 1]? = some u:=by
  show its.toArray[its.length - 1]? = some u
  rw [<- getElem?_toList,<- hl]
  exact hu
 refine call_meets F.slot_list_pop ⟨_,e,rfl⟩ F.entry_list_pop (F.args_list_pop_1 _) (MeetsSeq.list_pop_last l its.toArray n u hy' (by rw [size_toArray]; omega)) ⟨e,?_⟩
 refine ⟨y,_,I.lset (its':=its.dropLast) hH e ?_ r.dropLast ?_,ru,q⟩
 ·show its.toArray.eraseIdxIfInBounds (its.toArray.size - 1) = its.dropLast.toArray
  rw [size_toArray,List.eraseIdxIfInBounds_toArray,zM0]
 ·rw [length_dropLast]
  omega
def zKy:V->List V->Hp->VK->Prop:=λx vs H Q=>∃ l xs,x = .ref l /\ vs = [] /\ H l = some (.lst xs) /\ Q .non (upd H l (.lst xs.reverse))
theorem zFx:MtM X "list.reverse" zKy:=by
 intro pins s σ H x vs v us Q I rx rv h
 obtain ⟨l,xs,rfl,rfl,hH,q⟩:=h
 cases rx
 have hus:=rv.zero
 subst hus
 obtain ⟨z,its,n,r,hl,e⟩:=I.lstM hH
 refine call_meets F.slot_list_reverse ⟨_,e,rfl⟩ F.entry_list_reverse (F.args_list_reverse_1 _) (AutoSeq1.list_reverse_list_0 l its.toArray n (by rw [size_toArray]; omega)) ⟨e,?_⟩
 refine ⟨.non,_,I.lset (its':=its.reverse) hH e (by simp) r.reverse ?_,rfl,q⟩
 rw [List.length_reverse]
 omega
end
section
variable {prog:Program} {w:World} {A:Around} {E:Value->Shared->Prop} {s:Shared}
end
section
variable {X:Cx}
end
end L2
namespace Att
open PySem PySem.W PySem.Calls PyProof.Rows
theorem zEn:∀ (ns:LI) (vs:List Value),WellAll P h vs (ns.map WData.int)->IntsAre vs ns:=by
 intro ns
 induction ns with
 | nil =>
  intro vs w
  rw [map_nil] at w
  cases w
  exact .nil
 | cons n ns ih =>
  intro vs w
  rw [map_cons] at w
  cases w with
  | cons a b =>
   cases a
   exact .cons _ _ (ih _ b)
theorem zN5 {l:OpenLaw} (hn:l.most = some n)
  (hpre:l.row.toRowW.claim.pre args = true) (hwl:WellAll P h vals args) :
  ∃ a vs ns,vals = [Value.ref a] /\ args = [WData.list (ns.map WData.int)] /\ h.get? a = some { cls:=.type "list",data:=.seq vs.toArray } /\ IntsAre vs ns /\ ns.length <= n:=by
 have hsh:WShape.hasAll [] args [.list .int] = true:=(pre_splitW hpre).1
 have hc:l.pre.holds [] { args:=args } = true:=(pre_splitW hpre).2
 obtain ⟨d,r,rfl,h1,h2⟩:=hasAllW_cons hsh
 obtain rfl:=hasAllW_nil h2
 obtain ⟨xs,rfl,h3⟩:=hasW_list h1
 obtain ⟨ns,rfl⟩:=items_int h3
 have hlen:ns.length <= n:=by
  unfold OpenLaw.pre at hc
  have h4:(WTm.not (.lt (.lit (.int (n:Int))) (.len (.arg 0)))).holds [] { args:=[.list (ns.map .int)] } = true:=by
   have h4:=(holds_andW hc).1
   rw [hn] at h4
   exact h4
  have h5:=condW_of h4 (w_not (w_lt w_lit (w_len_list (w_arg rfl))))
  rw [length_map] at h5
  refine Nat.le_of_not_lt λq=>?_
  have q':(n:Int) < ((ns.length:Nat):Int):=by omega
  first
   | (rw [decide_eq_true q'] at h5; exact absurd h5 (by decide))
   | (simp at h5; omega)
 cases hwl with
 | cons w1 w2 =>
  cases w2
  cases w1 with
  | list ho hall=>exact ⟨_,_,ns,rfl,rfl,ho,zEn ns _ hall,hlen⟩
theorem zOh (l:OpenLaw) (args:List WData):l.row.toRowW.claim.post args (.bool true) args = true :=
 postW_of (r:=l.row.toRowW) (X:=(true == true))
  (show WShape.has [] (.bool true) .bool = true by first | rfl | decide | simp [WShape.has,WShape.arms,WShape.armsAll])
  (show (WTm.eq .res (.lit (.bool true))).value [] { args:=args,res:=some (.bool true),after:=args } = some (.bool (true == true)) from w_eq_bool (w_res rfl) w_lit) rfl
theorem attach_call {l:OpenLaw} {YP:World->Heap->Prop} {d:DefRec}
  (hn:l.most = some n) (hdf:d.params.defaults = [])
  (call:∀ (w:World) (s₀ s₁:Shared) (mg mb:Str->Option Value) (fa:Addr) (o:Obj) (pm cd doc:Value) (a:Addr) (vs:List Value) (ns:LI),
   Ground q loose [] XP w s₀ mg mb s₁.heap->YP w s₁.heap ->
   s₁.heap.get? fa = some o->o.data = .func (docDef d.name d.params d.body d.scope pm cd doc)->s₁.heap.CodeRec cd d.name->mg d.name = some (.ref fa) ->
   s₁.heap.get? a = some { cls:=.type "list",data:=.seq vs.toArray }->IntsAre vs ns->ns.length <= n->s₁.gens = #[] ->
   codeAny (model l.prog w) callerA (.call (.ref fa) ⟨[.ref a],[]⟩) (λr s'=>r = .ok (.ret (.bool true)) /\ OldK s₁.heap s'.heap /\ s'.os = s₁.os /\ AllBare s'.gens) s₁) :
  WalkO q loose XP YP l.row.toRowW d [] (λf vs=>PySem.call f vs):=by
 intro w s₀ s₁ mg mb G Y fa o pm cd doc dV kV ho hd hcd hD hmg hg args vals as hpre hlay hrd hwl hlo
 obtain rfl:dV = .none:=Dflts.none hD hdf
 obtain rfl:kV = .none:=Dflts.noKw hD
 obtain ⟨a,vs,ns,rfl,rfl,hobj,hints,hlen⟩:=zN5 hn hpre hwl
 refine enter_call (codeAny_mono (call w s₀ s₁ mg mb fa o pm cd doc a vs ns G Y ho (fd_plain hd) hcd hmg hobj hints hlen hg) λr s' hq=>?_)
 obtain ⟨rfl,h2,h3,h4⟩:=hq
 exact ⟨.inl ⟨.bool true,.bool true,[],rfl,λ_=>rfl,.bool true,zOh l _,λ_=>⟨Pairwise.nil,λ_ hm=>(nomatch hm)⟩⟩,h2,h3,h4⟩
section
variable {prog:Program} {w:World} {A:Around} {E:Value->Shared->Prop} {s:Shared} {K:Frag}
end
end Att
namespace L2
open PySem PySem.Spec PyProof.Rows
theorem zHk:∀ {vs:List Value} {ns:LI},IntsAre vs ns->Vals (ns.map V.int) vs
 | _,_,.nil=>.nil
 | _,_,.cons n t h=>.cons ⟨t,rfl⟩ (zHk h)
def Only (H:Hp):Prop:=∀ b,H b = none \/ ∃ o xs,H b = some (.frz o (.lst xs))
theorem zR8 {K:PySem.W.Frag} {s₁:Shared} {vs:List Value}
  (KX:K.In s₁.heap) (hns:s₁.heap.Ns mainGlobals mg) (hb:s₁.heap.Ns builtinsNs mb) (hbb:∀ x:Str,x ≠ "__name__"->mb x = bootBuiltins x) (hlim:s₁.heap.NoLimit) (hg:s₁.gens = #[])
  (ha:s₁.heap.get? a = some { cls:=.type "list",data:=.seq vs.toArray }) (hi:IntsAre vs ns) (hl:ns.length <= sizeLine) (hr:Room k callerA)
  (F:∀ base:Heap,K.In base->base.Ns mainGlobals mg->FnOk P w K mg base CX k fa fd [x] sp) (hbind:∀ (s:Shared) (u:Value),BindsTo s fd ⟨[u],[]⟩ [(x,u)])
  (hsp:∀ H:Hp,Only H->SqL K H a (ns.map V.int)->sp [.ref a] H (λv _=>v = .bl true) λ_ _ _=>False)
  (hCX:∀ H e s',CX [] H s₁ (λ_ _ _=>False) e s'->False) :
  codeAny (model P w) callerA (.call (.ref fa) ⟨[.ref a],[]⟩) (λr s'=>r = .ok (.ret (.bool true)) /\ OldK s₁.heap s'.heap /\ s'.os = s₁.os /\ AllBare s'.gens) s₁:=by
 have rv:=zHk hi
 have lenV:=hi.length
 have core:∀ H:Hp,Only H->SqL K H a (ns.map V.int)->HOk P w H s₁.heap->(∀ b,H b ≠ none->b = a)->(H a ≠ none->K.lookup a = none) ->
   codeAny (model P w) callerA (.call (.ref fa) ⟨[.ref a],[]⟩) (λr s'=>r = .ok (.ret (.bool true)) /\ OldK s₁.heap s'.heap /\ s'.os = s₁.os /\ AllBare s'.gens) s₁:=by
  intro H hO hS hok hA hK
  have base_of:∀ {b:Addr} {o:Obj},s₁.heap.get? b = some o->H b = none->(hidT s₁.heap H).get? b = some o:=λe n=>zSd e n
  have noA:∀ {b:Addr} {o:Obj} {es:Array DictEntry} {ep:Nat},s₁.heap.get? b = some o->o.data = .dict es ep->H b = none:=λ{b o es ep} e d=>by
   cases q:H b with
   | none=>rfl
   | some u =>
    have e':b = a:=hA b (by rw [q]; simp)
    subst e'
    rw [ha] at e; cases e
    have d':Data.seq vs.toArray _ = Data.dict es ep:=d
    cases d'
  have nsK:∀ {b:Addr} {m:Str->Option Value},s₁.heap.Ns b m->(hidT s₁.heap H).Ns b m:=λ{b m} ⟨o,es,ep,e,d,r⟩=>⟨o,es,ep,base_of e (noA e d),d,r⟩
  have hKb:K.In (hidT s₁.heap H):=λb o e=>base_of (KX b o e) (by
   cases q:H b with
   | none=>rfl
   | some u =>
    have e':b = a:=hA b (by rw [q]; simp)
    subst e'
    rw [hK (by rw [q]; simp)] at e; cases e)
  have hM:Mod K mg (hidT s₁.heap H):=⟨hKb,nsK hns,⟨mb,nsK hb,hbb⟩,let ⟨mc,h1,h2⟩:=hlim; ⟨mc,nsK h1,h2⟩⟩
  have e0:Env0 P w K mg (hidT s₁.heap H) callerA [] s₁ H:=⟨rfl,hM,λb o e=>of_hidT e,Nat.le_of_eq (zPp _ _),trivial,λb hb=>absurd (show b ∈ ([]:List Addr) from hb) (by simp),hok,.of_eq hg⟩
  refine codeAny_mono ((F _ hKb (nsK hns)).run callerA [] s₁ H ⟨[.ref a],[]⟩ [.ref a] [.ref a] _ _ hr e0 (hbind s₁ (.ref a)) (.cons rfl .nil) (hsp H hO hS)) λr s' h=>?_
  cases r with
  | error e=>exact (hCX H e s' h).elim
  | ok fl =>
   cases fl with
   | next=>exact False.elim h
   | brk=>exact False.elim h
   | cont=>exact False.elim h
   | ret u =>
    obtain ⟨v,H',os,bare,un,hok',r',q⟩:=h
    have q':v = .bl true:=q
    subst q'
    obtain rfl:u = Value.bool true:=r'
    refine ⟨rfl,OldK.of_keep λb o e=>?_,os,bare⟩
    cases q:H b with
    | none=>exact un.keep b o e q (by intro z; exact absurd (show b ∈ ([]:List Addr) from z) (by simp)) (by simp)
    | some u =>
     rcases hO b with z | ⟨ob,xs,z⟩
     ·rw [q] at z; cases z
     ·have z2:=un.frzs b ob _ z
      obtain ⟨e1,_⟩:=hok b _ z
      obtain ⟨e2,_⟩:=hok' b _ z2
      rw [e] at e1; cases e1
      exact e2
 cases hk:K.lookup a with
 | some o =>
  have e:=KX a o hk
  rw [ha] at e
  cases e
  refine core (λ_=>none) (λ_=>.inl rfl) (.inr ⟨_,vs.toArray,_,hk,rfl,rfl,rfl,by rw [size_toArray,lenV]; exact hl,by simpa using rv⟩) (λb u z=>by have z':(none:Option HO) = some u:=z; cases z') (λb z=>absurd rfl z) λz=>absurd rfl z
 | none =>
  refine core (λb=>if b = a then some (.frz { cls:=.type "list",data:=.seq vs.toArray } (.lst (ns.map V.int))) else none) (λb=>?_) (.inl (.inr ⟨{ cls:=.type "list",data:=.seq vs.toArray },if_pos rfl⟩)) (λb u z=>?_) (λb z=>?_) λ_=>hk
  ·by_cases hb:b = a
   ·exact .inr ⟨_,_,if_pos hb⟩
   ·exact .inl (if_neg hb)
  ·by_cases hb:b = a
   ·have z':=(if_pos hb).symm.trans z
    cases z'
    subst hb
    exact ⟨ha,by rw [length_map]; exact hl,vs,_,rv,ha⟩
   ·have z':=(if_neg hb).symm.trans z
    cases z'
  ·by_cases hb:b = a
   ·exact hb
   ·exact absurd (if_neg hb) z
theorem walk_of {l:PySem.W.OpenLaw} {YP:World->Heap->Prop} {d:DefRec} {K:Params->PySem.W.Frag} {CX:World->CXT} {sp:World->Sp}
  (hn:l.most = some n) (hn2:n <= sizeLine) (hdf:d.params.defaults = []) (hr:Room k callerA)
  (hY:∀ (w:World) (h:Heap),YP w h->(K w.params).In h)
  (F:∀ (w:World) (mg:Str->Option Value) (fa:Addr) (h:Heap),(K w.params).In h->h.Ns mainGlobals mg->mg d.name = some (.ref fa) ->
   ∃ fd:FuncData,(∀ (s:Shared) (u:Value),BindsTo s fd ⟨[u],[]⟩ [(x,u)]) /\
    ∀ base:Heap,(K w.params).In base->base.Ns mainGlobals mg->FnOk l.prog w (K w.params) mg base (CX w) k fa fd [x] (sp w))
  (hsp:∀ (w:World) (H:Hp) (a:Addr) (ns:LI),ns.length <= n->Only H->SqL (K w.params) H a (ns.map V.int)->sp w [.ref a] H (λv _=>v = .bl true) λ_ _ _=>False)
  (hCX:∀ (w:World) (H:Hp) (s:Shared) (e:Value) (s':Shared),CX w [] H s (λ_ _ _=>False) e s'->False) :
  PySem.W.WalkO q loose XP YP l.row.toRowW d [] (λf vs=>PySem.call f vs):=by
 refine Att.attach_call hn hdf λw s₀ s₁ mg mb fa o pm cd doc a vs ns G Y ho hd hcd hmg hobj hints hlen hg=>?_
 have KX:=hY w _ Y
 obtain ⟨fd,hb,hF⟩:=F w mg fa _ KX G.T.g hmg
 exact zR8 KX G.T.g G.T.b G.T.builtins G.T.nolimit hg hobj hints (Nat.le_trans hlen hn2) hr hF hb (λH hO hS=>hsp w H a ns hlen hO hS) λH e s'=>hCX w H s₁ e s'
def zG3 (s:Stmt) (j:Nat):Stmt:=match s with
 | .ClassDef _ _ _ body _ _ _ _ _ _ _=>body.getD j (.Pass ⟨0,0,0,0⟩)
 | _=>.Pass ⟨0,0,0,0⟩
def vY (s:Stmt):Arguments:=match s with
 | .FunctionDef _ a _ _ _ _ _ _ _ _=>a
 | _=>{ posonlyargs:=[],args:=[],vararg:=none,kwonlyargs:=[],kw_defaults:=[],kwarg:=none,defaults:=[] }
def wI (s:Stmt):List Stmt:=match s with
 | .FunctionDef _ _ b _ _ _ _ _ _ _=>b
 | _=>[]
def zK (s:Stmt):Scope:=match s with
 | .FunctionDef _ _ _ _ _ _ sc _ _ _=>sc
 | _=>{ kind:=.function,names:=[],isGenerator:=false,isCoroutine:=false }
abbrev CX0:CXT:=λ_ _ _ _ _ _=>False
abbrev E0:XK:=λ_ _ _=>False
theorem zRv:zFc CX0 X E0:=λ_ _ _ _ _ _ _ h=>h.elim
structure Fun (K:PySem.W.Frag) (x qual:Str) (st:Stmt) (f:Addr) (fd:FuncData):Prop where
 ex:∃ (oc:Value) (od:Option Addr) (kV doc pm:Value) (an:Option Addr) (cdv ct:Value) (osl:Array (Option Value)),
  fd = fnOf x qual (vY st) (wI st) (zK st) .none kV doc pm an cdv ct /\ K.lookup f = some ⟨oc,od,.func fd,osl⟩ /\ codeIn K cdv qual = true
 kp:keepIn K (.ref f) = true
section
variable {P:Program} {w:World} {K:PySem.W.Frag} {mg:Str->Option Value} {base:Heap}
theorem Fun.ok {x qual:Str} {st:Stmt} {f:Addr} {fd:FuncData} {N ps:List Str} {k:Nat} {sp:Sp} (F:Fun K x qual st f fd) (S:FnScope N ps (zK st)) (len:∀ vs H Q E,sp vs H Q E->vs.length = ps.length)
  (hbody:∀ (cdv:Value) (A:Around) (outer:List Env) (s:Shared) (H:Hp) (vs:List V) (Q:VK) (E:XK),Room k (A.deeper (envOfC qual (zK st) s.heap.objs.size f cdv))->sp vs H Q E ->
   ∃ t,PSs (cxOf CX0 P w K mg base N qual (zK st) f cdv A outer s H E).nox (wI st) t /\ t { nx:=λ_ H'=>Q .non H',rt:=Q } (start N vs) H):FnOk P w K mg base CX0 (k + 1) f fd ps sp:=by
 obtain ⟨oc,od,kV,doc,pm,an,cdv,ct,osl,rfl,lk,hcd⟩:=F.ex
 refine fn_of lk hcd S len λA outer s H vs Q E hr hsp=>?_
 obtain ⟨t,h,q⟩:=hbody cdv A outer s H vs Q E hr hsp
 exact ⟨t,h.nox,q⟩
theorem Fun.binds {x qual:Str} {st:Stmt} {f:Addr} {fd:FuncData} {ps:List Str} (F:Fun K x qual st f fd)
  (h:∀ (kV doc pm:Value) (an:Option Addr) (cdv ct:Value) (us:List Value),us.length = ps.length->bindArgs (fnOf x qual (vY st) (wI st) (zK st) .none kV doc pm an cdv ct) ⟨us,[]⟩ = pure (ps.zip us)):Binds K fd ps []:=by
 obtain ⟨oc,od,kV,doc,pm,an,cdv,ct,osl,rfl,lk,hcd⟩:=F.ex
 exact .all (h kV doc pm an cdv ct)
theorem fun_mk {x qual:Str} {st:Stmt} {f:Addr} {oc:Value} {od an:Option Addr} {osl:Array (Option Value)} {kV doc pm cdv ct:Value} (l:K.lookup f = some ⟨oc,od,.func (fnOf x qual (vY st) (wI st) (zK st) .none kV doc pm an cdv ct),osl⟩)
  (c:codeIn K cdv qual = true) (k:keepIn K (.ref f) = true):Fun K x qual st f (fnOf x qual (vY st) (wI st) (zK st) .none kV doc pm an cdv ct):=⟨⟨oc,od,kV,doc,pm,an,cdv,ct,osl,rfl,l,c⟩,k⟩
end
theorem zSb (hr:Room k A):A.units + 1 < cLine:=Nat.lt_of_le_of_lt (Nat.add_le_add_left (by decide:1 <= 64) _) hr.units
theorem zHs (h:n <= 1000):n < sizeLine:=Nat.lt_of_le_of_lt h (by decide)
section
variable {X:Cx}
theorem pv (i:Nat) (hN:X.N[i]? = some x:=by rfl) (hv:Vis X.env.scope x:=by first | exact Or.inl rfl | exact Or.inr (Or.inl rfl) | exact Or.inr (Or.inr rfl)) (hd:(x == ("__debug__":Str)) = false:=by decide)
  (hcd:(x == ("__classdict__":Str)) = false:=by decide):PE X (.Name x pos) (tVar i):=pe_var hN hv hd hcd
end
theorem iteF {A B:Prop} (h:B):if false = true then A else B:=by
 rw [if_neg Bool.false_ne_true]
 exact h
theorem iteT {A B:Prop} (h:A):if true = true then A else B:=by
 rw [if_pos rfl]
 exact h
def Same (H H':Hp):Prop:=∀ b o,H b = some o->H' b = some o
theorem Same.refl (H:Hp):Same H H:=λ_ _ h=>h
theorem Same.trans (a:Same H H1) (b:Same H1 H2):Same H H2:=λc o h=>b c o (a c o h)
theorem Same.free (e:Same H H') (h:H' l = Option.none):H l = Option.none:=by
 cases q:H l with
 | none=>rfl
 | some o =>
  rw [e l o q] at h
  cases h
theorem Same.seq {K:PySem.W.Frag} {H H':Hp} {a:Addr} {xs:List V} (e:Same H H') (h:SqL K H a xs):SqL K H' a xs:=by
 rcases h with (h | ⟨o,h⟩) | h
 ·exact .inl (.inl (e _ _ h))
 ·exact .inl (.inr ⟨o,e _ _ h⟩)
 ·exact .inr h
section
variable {κ:Type} [DecidableEq κ]
end
open PySem
section
variable {prog:Program} {w:World} {A:Around} {R:Result->Shared->Prop} {s:Shared}
theorem vI {α:Type} {t:Sem α} {Q Q':α->Shared->Prop} (h:wpAny M A t Q (λ_ _=>False) s) (hQ:∀ a s,Q a s->Q' a s):wpAny M A t Q' (notedBy M A env E) s :=
 wpAny_mono h hQ λ_ _ z=>z.elim
theorem zIu (I:Nat->Shared->Prop)
  (turn:∀ n s,I n s->wpAny (model prog w) A (pyNext it) (λr s₁=>match r with
   | none=>R (.ok .next) s₁
   | some v=>wpAny (model prog w) A (letOwnedTupleGo target it v) (λ_ s₂=>wpAny (model prog w) A (assign target env v) (λ_ s₃ =>
     wpAny (model prog w) A (forIn ifs true λc r=>if r = true then do let ok <- isTrue c env (eval c env); pure (ForInStep.yield ok) else pure (ForInStep.yield r)) (λok s₄ =>
      if ok = true then wpAny (model prog w) A (eval elt env) (λx s₅ =>
       wpAny (model prog w) A (call (.builtin "list.append") [acc,x]) (λ_ s₆=>∃ m,m < n /\ I m s₆) (λ_ _=>False) s₅) (λ_ _=>False) s₄
      else ∃ m,m < n /\ I m s₄) (λ_ _=>False) s₃) (λ_ _=>False) s₂) (λ_ _=>False) s₁) (λ_ _=>False) s)
  (n:Nat) (h:I n s):codeAny (model prog w) A (.compLoop (.ListComp elt [⟨target,iter,ifs,0⟩] scope pos) 0 it acc env) R s:=by
 refine codeAny_loop rfl I (λn s hI=>?_) n h
 show wpAny _ A ((compTurn (.ListComp elt [⟨target,iter,ifs,0⟩] scope pos) 0 it acc env).onRaise (λx=>do noteFrame x env; theTreesLotGoes x)) _ _ s
 refine wpAny_noted ?_
 rw [compTurn_list]
 refine wpAny_bind (wpAny_standAt (wpAny_bind (vI (turn n s hI) λr s₁ h₁=>?_)))
 cases r with
 | none=>exact wpAny_pure h₁
 | some v =>
  refine wpAny_bind (vI h₁ λ_ s₂ h₂=>?_)
  refine wpAny_bind (vI h₂ λ_ s₃ h₃=>wpAny_bind (vI h₃ λok s₄ h₄=>?_))
  cases ok with
  | false=>exact wpAny_pure ⟨rfl,h₄⟩
  | true =>
   exact wpAny_bind (wpAny_bind (vI h₄ λx s₅ h₅=>wpAny_bind (vI h₅ λ_ s₆ h₆=>wpAny_pure (wpAny_pure ⟨rfl,h₆⟩))))
end
def zAp (env:Env):List (Str × NameKind)->List (Str × Addr)->List (Str × Addr)
 | [],acc=>acc
 | (n,k) :: r,acc=>if k == .free then zAp env r ((n,(env.cells.lookup n).getD 0) :: acc) else zAp env r acc
theorem zCo {scope:Scope} {env:Env} (h:∀ y ∈ scope.names,y.2 = .free->∃ c,env.cells.lookup y.1 = some c):closureFor scope env = pure (zAp env scope.names []):=by
 unfold closureFor
 generalize scope.names = l at h
 have go:∀ (l:List (Str × NameKind)) (acc:List (Str × Addr)),(∀ y ∈ l,y.2 = .free->∃ c,env.cells.lookup y.1 = some c) ->
    (forIn l acc (λ(x:Str × NameKind) (r:List (Str × Addr))=>match x with
    | (name,kind)=>if (kind == NameKind.free) = true then (do let __do_lift <- cellOf env name; pure (ForInStep.yield ((name,__do_lift) :: r))) else pure (ForInStep.yield r)):Sem (List (Str × Addr))) = pure (zAp env l acc):=by
  intro l
  induction l with
  | nil=>intro acc _; rfl
  | cons x r ih =>
   intro acc hl
   obtain ⟨n,k⟩:=x
   rw [forIn_cons]
   unfold zAp
   by_cases hk:(k == NameKind.free) = true
   ·obtain ⟨c,hc⟩:=hl (n,k) mem_cons_self (eq_of_beq hk)
    simp only [hk,if_true]
    have hc':env.cells.lookup n = some c:=hc
    unfold cellOf
    rw [hc']
    exact ih _ λy hy=>hl y (mem_cons_of_mem _ hy)
   ·simp only [hk,if_false]
    exact ih _ λy hy=>hl y (mem_cons_of_mem _ hy)
 have e:=go l [] h
 simp only [bind_pure]
 exact e
theorem zE0 {env:Env}:∀ (l:List (Str × NameKind)) (acc:List (Str × Addr)),(∀ x c,acc.lookup x = some c->(env.cells.lookup x).getD 0 = c)->∀ x c,(zAp env l acc).lookup x = some c->(env.cells.lookup x).getD 0 = c
 | [],_,h,x,c,e=>h x c e
 | (n,k) :: r,acc,h,x,c,e=>by
  unfold zAp at e
  by_cases hk:(k == NameKind.free) = true
  ·rw [if_pos hk] at e
   refine zE0 r _ (λy d q=>?_) x c e
   cases hy:y == n with
   | true =>
    rw [lookup_cons,hy] at q
    cases q
    rw [eq_of_beq hy]
   | false =>
    rw [lookup_cons,hy] at q
    exact h y d q
  ·rw [if_neg hk] at e
   exact zE0 r acc h x c e
theorem zC8:∀ (l:List (Str × NameKind)) (acc:List (Str × Addr)) (x:Str) (c:Addr),(zAp env l acc).lookup x = some c->(acc.lookup x).isSome = true \/ (x,NameKind.free) ∈ l
 | [],_,x,c,e=>.inl (by unfold zAp at e; rw [e]; rfl)
 | (n,k) :: r,acc,x,c,e=>by
  unfold zAp at e
  by_cases hk:(k == NameKind.free) = true
  ·rw [if_pos hk] at e
   rcases zC8 r _ x c e with h | h
   ·cases hy:x == n with
    | true =>
     have e1:=eq_of_beq hy
     have e2:=eq_of_beq hk
     subst e1; subst e2
     exact .inr mem_cons_self
    | false =>
     rw [lookup_cons,hy] at h
     exact .inl h
   ·exact .inr (mem_cons_of_mem _ h)
  ·rw [if_neg hk] at e
   rcases zC8 r _ x c e with h | h
   ·exact .inl h
   ·exact .inr (mem_cons_of_mem _ h)
theorem zCp:∀ (l:List (Str × NameKind)) (acc:List (Str × Addr)) (x:Str),((acc.lookup x).isSome = true \/ (x,NameKind.free) ∈ l)->((zAp env l acc).lookup x).isSome = true
 | [],_,x,h=>by
  rcases h with h | h
  ·exact h
  ·cases h
 | (n,k) :: r,acc,x,h=>by
  unfold zAp
  by_cases hk:(k == NameKind.free) = true
  ·rw [if_pos hk]
   refine zCp r _ x ?_
   rcases h with h | h
   ·refine .inl ?_
    rw [lookup_cons]
    cases hy:x == n with
    | true=>rfl
    | false=>exact h
   ·rcases mem_cons.mp h with h | h
    ·cases h
     refine .inl ?_
     rw [lookup_cons,beq_self_eq_true]
     rfl
    ·exact .inr h
  ·rw [if_neg hk]
   refine zCp r _ x ?_
   rcases h with h | h
   ·exact .inl h
   ·rcases mem_cons.mp h with h | h
    ·cases h
     exact absurd rfl hk
    ·exact .inr h
theorem zDf {env:Env}:∀ {names:List (Str × NameKind)} {x:Str},names.lookup x = some .free ->
  (names.map λ(n,k)=>if (k == NameKind.free && env.scope.kind == .function && env.kindOf n == some .cell) then (n,NameKind.cell) else (n,k)).lookup x = some .cell \/
  (names.map λ(n,k)=>if (k == NameKind.free && env.scope.kind == .function && env.kindOf n == some .cell) then (n,NameKind.cell) else (n,k)).lookup x = some .free
 | [],_,h=>by simp at h
 | (n,k) :: r,x,h=>by
  have ih:=@zDf env r x
  show List.lookup x ((if (k == NameKind.free && env.scope.kind == .function && env.kindOf n == some .cell) = true then (n,NameKind.cell) else (n,k)) :: _) = _ \/ List.lookup x ((if (k == NameKind.free && env.scope.kind == .function && env.kindOf n == some .cell) = true then (n,NameKind.cell) else (n,k)) :: _) = _
  cases hx:x == n with
  | true =>
   simp only [lookup_cons,hx] at h
   cases h
   by_cases hc:(NameKind.free == NameKind.free && env.scope.kind == .function && env.kindOf n == some .cell) = true
   ·rw [if_pos hc]; left; simp only [lookup_cons,hx]
   ·rw [if_neg hc]; right; simp only [lookup_cons,hx]
  | false =>
   simp only [lookup_cons,hx] at h
   by_cases hc:(k == NameKind.free && env.scope.kind == .function && env.kindOf n == some .cell) = true
   ·rw [if_pos hc]; simp only [lookup_cons,hx]; exact ih h
   ·rw [if_neg hc]; simp only [lookup_cons,hx]; exact ih h
theorem zB0 {env:Env}:∀ {names:List (Str × NameKind)} {x:Str} {k:NameKind},(k = .cell \/ k = .free) ->
  (names.map λ(n,k)=>if (k == NameKind.free && env.scope.kind == .function && env.kindOf n == some .cell) then (n,NameKind.cell) else (n,k)).lookup x = some k->(x,NameKind.free) ∈ names \/ (x,NameKind.cell) ∈ names
 | [],_,_,_,h=>by simp at h
 | (n,k') :: r,x,k,hk,h=>by
  have ih:=@zB0 env r x k hk
  have h':List.lookup x ((if (k' == NameKind.free && env.scope.kind == .function && env.kindOf n == some .cell) = true then (n,NameKind.cell) else (n,k')) :: (r.map λ(n,k)=>if (k == NameKind.free && env.scope.kind == .function && env.kindOf n == some .cell) then (n,NameKind.cell) else (n,k))) = some k:=h
  cases hx:x == n with
  | true =>
   have e:=eq_of_beq hx
   subst e
   by_cases hd:(k' == NameKind.free && env.scope.kind == .function && env.kindOf x == some .cell) = true
   ·have e2:k' = .free:=by
     rw [Bool.and_eq_true,Bool.and_eq_true] at hd
     exact eq_of_beq hd.1.1
    subst e2
    exact .inl mem_cons_self
   ·rw [if_neg hd] at h'
    simp only [lookup_cons,hx] at h'
    cases h'
    rcases hk with e | e
    ·subst e; exact .inr mem_cons_self
    ·subst e; exact .inl mem_cons_self
  | false =>
   have g:(x,NameKind.free) ∈ r \/ (x,NameKind.cell) ∈ r:=by
    refine ih ?_
    by_cases hd:(k' == NameKind.free && env.scope.kind == .function && env.kindOf n == some .cell) = true
    ·rw [if_pos hd] at h'; simp only [lookup_cons,hx] at h'; exact h'
    ·rw [if_neg hd] at h'; simp only [lookup_cons,hx] at h'; exact h'
   rcases g with g | g
   ·exact .inl (mem_cons_of_mem _ g)
   ·exact .inr (mem_cons_of_mem _ g)
theorem xO:∀ (l:List (Str × NameKind)) (n:Nat) (acc:List (Str × Addr)),cellsFrom n l acc = cellsFrom n l [] ++ acc
 | [],_,_=>rfl
 | (x,k) :: r,n,acc=>by
  unfold cellsFrom
  split
  ·rw [xO r (n + 1) ((x,n) :: acc),xO r (n + 1) [(x,n)]]; simp
  ·exact xO r n acc
theorem zAc:∀ (l:List (Str × NameKind)) (n:Nat) (x:Str) (c:Addr),(x,c) ∈ cellsFrom n l []->(x,NameKind.cell) ∈ l
 | [],_,_,_,h=>by cases h
 | (y,k) :: r,n,x,c,h=>by
  unfold cellsFrom at h
  split at h
  ·rename_i hk
   rw [xO] at h
   rcases mem_append.mp h with h | h
   ·exact mem_cons_of_mem _ (zAc r _ x c h)
   ·have e:(x,c) = (y,n):=by simpa using h
    cases e
    rw [eq_of_beq hk]
    exact mem_cons_self
  ·exact mem_cons_of_mem _ (zAc r _ x c h)
theorem zDm {s:Shared} {scope:Scope} {Q:Env->Shared->Prop}
  (hQ:∀ h',h'.Ns s.heap.objs.size (λ_=>none)->(∀ b o,s.heap.get? b = some o->h'.get? b = some o)->CellsOk h' (s.heap.objs.size + 1) (cellsFrom (s.heap.objs.size + 1) scope.names []) ->
   Q (newEnv scope s.heap.objs.size globals (cellsFrom (s.heap.objs.size + 1) scope.names closure) qual none .none (some outer) builtinsNs) { s with heap:=h' }) :
  wpAny M A (newFunctionEnv scope globals closure [] qual none .none (some outer)) Q E s:=by
 simp only [newFunctionEnv,Option.isSome_some,if_true]
 refine wpAny_bind (wpAny_alloc ?_)
 refine wpAny_bind (wpAny_layCells _ (λname kind cells=>by cases hkc:kind == NameKind.cell <;> simp [hkc]) _ _ _ _ ?_)
 have ok:=cellsFrom_ok scope.names (s.heap.push { cls:=.type "dict",data:=.dict #[] }) (s.heap.objs.size + 1) [] ⟨λ_ _ hm=>(nomatch hm),Pairwise.nil⟩ (by rw [size_push]; exact Nat.le_refl _)
 rw [size_push] at ok
 rw [show ({ s with heap:=s.heap.push { cls:=.type "dict",data:=.dict #[] } }:Shared).heap.objs.size = s.heap.objs.size + 1 from size_push ..]
 refine wpAny_bind ?_
 rw [forIn_nil]
 exact wpAny_pure (wpAny_pure (hQ _ ((Heap.Ns.new s.heap (.type "dict")).keeps (pushCells_keeps _ _)) (λb o e=>pushCells_keeps _ _ b o (get?_push_of_some _ e)) ok))
theorem HOk.track (x:HOk P w H h) (hn:H a = none) (new:ObjOk P w (upd H a o) h a o):HOk P w (upd H a o) h:=λb u e=>by
 by_cases hb:b = a
 ·subst hb; rw [zR] at e; cases e; exact new
 ·rw [zQ hb] at e
  exact (x b u e).stay (λc v _ q=>q) (λc q=>by rw [zQ (zS q hn)]; exact q) λc xs q=>by rw [zQ (zS q hn)]; exact q
theorem Un.track (u:Un fs ex H H' h h') (h0:h.get? a = none) (hn:H a = none):Un fs ex H (upd H' a o) h h' where
 keep:=u.keep
 slot:=u.slot
 free:=λb ob q n hx=>by
  rw [zQ (λz=>by rw [z,h0] at q; cases q)]; exact u.free b ob q n hx
 there:=u.there
 tups:=λb xs q=>by rw [zQ (zS q hn)]; exact u.tups b xs q
 frzs:=λb ob xs q=>by rw [zQ (zS q hn)]; exact u.frzs b ob xs q
 tbls:=λb ps q=>by rw [zQ (zS q hn)]; exact u.tbls b ps q
def nIn (N:List Str) (own:List Str) (ix:List Nat):List Str:=own ++ ix.map λj=>N.getD j Str.empty
def σIn (σ:St) (n:Nat) (ix:List Nat):St:=replicate n none ++ ix.map λj=>(σ[j]?).getD none
def cxIn (X:Cx) (scope:Scope) (own:List Str) (ix:List Nat) (C:Addr) (s:Shared) (H:Hp) (fp:List Addr):Cx :=
 { X with N:=nIn X.N own ix,s₀:=s,H₀:=H,env:=compEnvC scope (cellsFrom (C + 1) scope.names (zAp X.env scope.names [])) C X.env,outer:=X.stack,stack:=X.stack,ex:=fp,fn:=λx=>scope.names.lookup x == some .cell,pn:=[] }
def zLs (osc:Scope) (oN:List Str) (scope:Scope) (ix:List Nat):Bool :=
 scope.kind == .function &&
 (scope.names.all λy=>(y.2 != .cell || scope.names.lookup y.1 == some .cell) && (y.2 != .local || scope.names.lookup y.1 == some .local) && (y.2 != .free || (osc.names.lookup y.1 == some .cell || osc.names.lookup y.1 == some .free))) &&
 ix.all λj=>match oN[j]? with
  | some x=>scope.names.lookup x == some .free
  | none=>false
structure CompSc (osc:Scope) (oN:List Str) (scope:Scope) (ix:List Nat):Prop where
 kind:scope.kind = .function
 clk:∀ y ∈ scope.names,y.2 = .cell->scope.names.lookup y.1 = some .cell
 nm:∀ y ∈ scope.names,y.2 = .local->scope.names.lookup y.1 = some .local
 fr:∀ y ∈ scope.names,y.2 = .free->osc.names.lookup y.1 = some .cell \/ osc.names.lookup y.1 = some .free
 ix:∀ j ∈ ix,∃ x,oN[j]? = some x /\ scope.names.lookup x = some .free
theorem zIs (h:zLs osc oN scope ix = true):CompSc osc oN scope ix:=by
 unfold zLs at h
 rw [Bool.and_eq_true,Bool.and_eq_true,all_eq_true,all_eq_true] at h
 obtain ⟨⟨h1,h2⟩,h3⟩:=h
 refine ⟨eq_of_beq h1,λy hy e=>?_,λy hy e=>?_,λy hy e=>?_,λj hj=>?_⟩
 ·have q:=h2 y hy
  rw [Bool.and_eq_true,Bool.and_eq_true] at q
  rcases Bool.or_eq_true _ _ ▸ q.1.1 with z | z
  ·exact absurd e (bne_iff_ne.mp z)
  ·exact eq_of_beq z
 ·have q:=h2 y hy
  rw [Bool.and_eq_true,Bool.and_eq_true] at q
  rcases Bool.or_eq_true _ _ ▸ q.1.2 with z | z
  ·exact absurd e (bne_iff_ne.mp z)
  ·exact eq_of_beq z
 ·have q:=h2 y hy
  rw [Bool.and_eq_true,Bool.and_eq_true] at q
  rcases Bool.or_eq_true _ _ ▸ q.2 with z | z
  ·exact absurd e (bne_iff_ne.mp z)
  ·rcases Bool.or_eq_true _ _ ▸ z with z | z
   ·exact .inl (eq_of_beq z)
   ·exact .inr (eq_of_beq z)
 ·have q:=h3 j hj
  cases e:oN[j]? with
  | none=>rw [e] at q; cases q
  | some x=>rw [e] at q; exact ⟨x,rfl,eq_of_beq q⟩
section
variable {X:Cx} {pins:List (Addr × Obj)} {σ:St} {H:Hp} {s:Shared} {scope:Scope} {own:List Str} {ix:List Nat}
theorem zC7 (I:Inv X pins σ H s) (sc:CompSc X.env.scope X.N scope ix):∀ y ∈ scope.names,y.2 = .free->∃ c,X.env.cells.lookup y.1 = some c:=λy hy e=>by
 rcases sc.fr y hy e with q | q
 ·exact I.ok.has y.1 (.inl q)
 ·exact I.ok.has y.1 (.inr q)
theorem zLt (I:Inv X pins σ H s) (sc:CompSc X.env.scope X.N scope ix) (e:(zAp X.env scope.names []).lookup x = some c):X.env.cells.lookup x = some c:=by
 have h1:=zE0 (env:=X.env) scope.names [] (λx c q=>by simp at q) x c e
 rcases zC8 (env:=X.env) scope.names [] x c e with q | q
 ·simp at q
 ·obtain ⟨c',hc⟩:=zC7 I sc (x,.free) q rfl
  have hc':X.env.cells.lookup x = some c':=hc
  rw [hc'] at h1
  rw [hc']
  exact congrArg some h1
theorem zSq (I:Inv X pins σ H s) (sc:CompSc X.env.scope X.N scope ix) (hx:(x,NameKind.free) ∈ scope.names) (e:X.env.cells.lookup x = some c):(zAp X.env scope.names []).lookup x = some c:=by
 have h1:=zCp (env:=X.env) scope.names [] x (.inr hx)
 obtain ⟨c',hc⟩:=Option.isSome_iff_exists.mp h1
 rw [hc]
 have:=zLt I sc hc
 rw [e] at this
 exact this.symm
theorem uT (I:Inv X pins σ H s) (sc:CompSc X.env.scope X.N scope ix) (e:(cellsFrom (C + 1) scope.names (zAp X.env scope.names [])).lookup x = some c):(x,c) ∈ cellsFrom (C + 1) scope.names [] \/ X.env.cells.lookup x = some c:=by
 rw [xO,lookup_append] at e
 cases h:(cellsFrom (C + 1) scope.names []).lookup x with
 | some d=>rw [h] at e; cases e; exact .inl (PySem.mem_of_lookup h)
 | none=>rw [h] at e; exact .inr (zLt I sc e)
theorem σIn_get (h:(σIn σ n ix)[i]? = some (some v)):∃ j,ix[i - n]? = some j /\ σ[j]? = some (some v) /\ n <= i:=by
 unfold σIn at h
 by_cases hi:i < n
 ·rw [getElem?_append_left (by simpa using hi),getElem?_replicate] at h
  rw [if_pos hi] at h
  cases h
 ·rw [getElem?_append_right (by simpa using hi),List.length_replicate,getElem?_map] at h
  cases e:ix[i - n]? with
  | none=>rw [e] at h; cases h
  | some j =>
   rw [e] at h
   have h':(σ[j]?).getD none = some v:=Option.some.inj h
   refine ⟨j,rfl,?_,by omega⟩
   cases e2:σ[j]? with
   | none=>rw [e2] at h'; cases h'
   | some o=>rw [e2] at h'; exact congrArg some h'
theorem Inv.comp {h₁:Heap} (I:Inv X pins σ H s) (sc:CompSc X.env.scope X.N scope ix) (fo:∀ b ∈ fp,FpOk X pins H b) (fex:∀ b ∈ fp,b < s.heap.objs.size)
  (hC:s.heap.objs.size <= C) (hns:h₁.Ns C m₀) (hk:∀ b o,s.heap.get? b = some o->h₁.get? b = some o) (co:CellsOk h₁ (C + 1) (cellsFrom (C + 1) scope.names [])):Inv (cxIn X scope own ix C s H fp) [] (σIn σ own.length ix) H { s with heap:=h₁,toks:=t' }:=by
 have lt:∀ {b:Addr},b < s.heap.objs.size->b ≠ C:=λ{b} hb=>Nat.ne_of_lt (Nat.lt_of_lt_of_le hb hC)
 have oldC:∀ {x:Str} {c:Addr},X.env.cells.lookup x = some c->c < C + 1:=λ{x c} e=>by
  obtain ⟨v,q⟩:=I.cell x c e
  exact Nat.lt_succ_of_lt (Nat.lt_of_lt_of_le q.lt hC)
 have cellK:∀ {x:Str} {c:Addr},X.env.cells.lookup x = some c->∀ v,s.heap.IsCell c v->h₁.IsCell c v:=λ{x c} _ v ⟨o,ho,hd⟩=>⟨o,hk _ _ ho,hd⟩
 refine ⟨⟨I.ok.mod,sc.kind,I.ok.glob,I.ok.blt,hC,λx y c h1 h2=>?_,λx hx=>?_,λx c h e=>by
  have h':scope.names.lookup x = some .cell:=eq_of_beq h
  have e':(cellsFrom (C + 1) scope.names (zAp X.env scope.names [])).lookup x = some c:=e
  rw [xO,lookup_append] at e'
  obtain ⟨d,hd⟩:=Option.isSome_iff_exists.mp (cellsFrom_some scope.names (C + 1) [] (.inl h'))
  rw [hd] at e'
  cases e'
  exact Nat.le_trans hC (Nat.le_of_succ_le (co.empty _ _ (PySem.mem_of_lookup hd)).2),I.ok.hd,I.ok.frames,.inl rfl,λb hb=>?_,I.bs,Nat.le_trans I.ok.bsz I.sz,λb o e hb=>?_,λb hb z=>?_,I.stack,I.stkFree⟩,
  rfl,I.bare,Un.kept hk,⟨m₀,hns,λi x v h1 h2 h3=>?_⟩,λx c h=>?_,I.hok.fresh hC,λx c h=>?_,λp hp=>?_,I.hok.kept hk,?_⟩
 ·rcases uT I sc h1 with q1 | q1
  ·rcases uT I sc h2 with q2 | q2
   ·exact name_of_addr co.apart q1 q2
   ·exact absurd (Nat.lt_of_lt_of_le (oldC q2) (co.empty _ _ q1).2) (Nat.lt_irrefl _)
  ·rcases uT I sc h2 with q2 | q2
   ·exact absurd (Nat.lt_of_lt_of_le (oldC q1) (co.empty _ _ q2).2) (Nat.lt_irrefl _)
   ·exact I.ok.inj x y c q1 q2
 ·have hm:(x,NameKind.free) ∈ scope.names \/ (x,NameKind.cell) ∈ scope.names:=by
   rcases hx with hx | hx
   ·exact zB0 (env:=X.env) (.inl rfl) hx
   ·exact zB0 (env:=X.env) (.inr rfl) hx
  refine Option.isSome_iff_exists.mp ?_
  show ((cellsFrom (C + 1) scope.names (zAp X.env scope.names [])).lookup x).isSome = true
  rcases hm with hm | hm
  ·exact cellsFrom_some _ _ _ (.inr (zCp (env:=X.env) scope.names [] x (.inr hm)))
  ·exact cellsFrom_some _ _ _ (.inl (sc.clk _ hm rfl))
 ·obtain ⟨f0,f1,f2,f3,f4,f5⟩:=fo b hb
  refine ⟨lt (fex b hb),λx c h=>?_⟩
  rcases uT I sc h with q | q
  ·exact λz=>absurd (Nat.lt_of_lt_of_le (fex b hb) (Nat.le_trans hC (Nat.le_of_succ_le (z ▸ (co.empty _ _ q).2)))) (Nat.lt_irrefl _)
  ·exact f4 x c q
 ·obtain ⟨f0,f1,f2,f3,f4,f5⟩:=fo b hb
  rcases f3 with z | z
  ·exact I.ok.noex b o e z
  ·exact absurd (Nat.lt_of_lt_of_le (lt_size e) (Nat.le_trans I.ok.bsz z)) (Nat.lt_irrefl _)
 ·obtain ⟨f0,f1,f2,f3,f4,f5⟩:=fo b hb
  rcases mem_cons.mp (I.stkSub b z) with z | z
  ·exact f1 z
  ·exact f2 z
 ·obtain ⟨j,hj,hv,hn⟩:=σIn_get h2
  obtain ⟨y,hy,hf⟩:=sc.ix j (mem_of_getElem? hj)
  have e:y = x:=by
   have h1':(nIn X.N own ix)[i]? = some x:=h1
   unfold nIn at h1'
   rw [getElem?_append_right hn,getElem?_map,hj] at h1'
   have h1'':X.N.getD j Str.empty = x:=Option.some.inj h1'
   rw [getD_eq_getElem?_getD,hy] at h1''
   exact h1''
  subst e
  have hm:(y,NameKind.free) ∈ scope.names:=PySem.mem_of_lookup hf
  have vis:Vis X.env.scope y:=by
   rcases sc.fr _ hm rfl with q | q
   ·exact .inr (.inl q)
   ·exact .inr (.inr q)
  obtain ⟨m,_,hl⟩:=I.loc
  obtain ⟨u,r,l⟩:=hl j y v hy hv vis
  refine ⟨u,r,?_⟩
  rcases l with ⟨hk',_⟩ | ⟨_,c,hc,hcell⟩
  ·have hk'':X.env.scope.names.lookup y = some .local:=hk'
   rcases sc.fr _ hm rfl with q | q
   ·have q':X.env.scope.names.lookup y = some .cell:=q
    rw [hk''] at q'; cases q'
   ·have q':X.env.scope.names.lookup y = some .free:=q
    rw [hk''] at q'; cases q'
  ·refine .inr ⟨zDf (env:=X.env) hf,c,?_,cellK hc _ hcell⟩
   show (cellsFrom (C + 1) scope.names (zAp X.env scope.names [])).lookup y = some c
   rw [xO,lookup_append,zSq I sc hm hc]
   cases e:(cellsFrom (C + 1) scope.names []).lookup y with
   | none=>rfl
   | some d =>
    have q:=sc.clk _ (zAc _ _ _ _ (PySem.mem_of_lookup e)) rfl
    have q':scope.names.lookup y = some .cell:=q
    rw [hf] at q'; cases q'
 ·rcases uT I sc h with q | q
  ·exact ⟨_,(co.empty _ _ q).1⟩
  ·obtain ⟨v,z⟩:=I.cell x c q
   exact ⟨v,cellK q v z⟩
 ·rcases uT I sc h with q | q
  ·exact I.hok.fresh (Nat.le_trans hC (Nat.le_of_succ_le (co.empty _ _ q).2))
  ·exact I.freeC x c q
 ·exact absurd (show p ∈ ([]:List (Addr × Obj)) from hp) (by simp)
 ·show (σIn σ own.length ix).length = (nIn X.N own ix).length
  unfold σIn nIn
  simp
end
def PIfs (X:Cx) (ifs:List Expr) (t:TT):Prop :=
 ∀ (pins:List (Addr × Obj)) (s:Shared) (σ:St) (H:Hp) (Q:Bool->Hp->Prop),Inv X pins σ H s->t σ H Q ->
  wpAny (model X.prog X.w) X.A (forIn ifs true λc r=>if r = true then do let ok <- isTrue c X.env (eval c X.env); pure (ForInStep.yield ok) else pure (ForInStep.yield r)) (TP X pins σ Q) X.xe s
def tIf0:TT:=λ_ H Q=>Q true H
theorem wN:PIfs X [] tIf0:=λ_ _ _ H _ I h=>wpAny_tests_nil ⟨H,I,h⟩
theorem zD9 (h:PT X c t):PIfs X [c] t:=λpins s σ H Q I q=>wpAny_tests_one (h pins s σ H Q I q)
def zRn (n:Nat) (ix:List Nat) (g:TG) (tc:TT) (te:TE) (σ:St) (Q:VK) (J:It) (H1:Hp):Prop :=
 ∃ W:Nat->Nat->List V->St->Hp->Prop,(∃ m,W 0 m [] (σIn σ n ix) H1) /\ ∀ i m ys σ2 H2,W i m ys σ2 H2 ->
  (J.stop i H2 /\ ys.length <= sizeLine /\ ∀ p,H2 p = none->Q (.ref p) (upd H2 p (.lst ys))) \/
  (J.go i H2 /\ ys.length < sizeLine /\ ∃ N:List V->St->Hp->Prop,(∀ ys' σ' H',N ys' σ' H'->∃ m',m' < m /\ W (i + 1) m' ys' σ' H') /\
   ∀ x H3,J.yld i H2 x H3->g x σ2 H3 λσ4 H4=>tc σ4 H4 λb H5=>if b = true then te σ4 H5 λy H6=>N (ys ++ [y]) σ4 H6 else N ys σ4 H5)
def zQ4 (n:Nat) (ix:List Nat) (wi:TI) (g:TG) (tc:TT) (te:TE):TE:=λσ H Q=>wi σ H (zRn n ix g tc te σ Q)
def BEnd (X:Cx) (pins:List (Addr × Obj)) (σ:St) (Q:VK) (acc:Value) (C:Addr) (s':Shared):Prop :=
 ∃ p H',acc = .ref p /\ Inv X pins σ H' s' /\ (∃ m,s'.heap.Ns C m) /\ FpOk X pins H' C /\ Q (.ref p) H'
theorem thx {X:Cx} {α:Type} {t:Sem α} {Q Q':α->Shared->Prop} (hx:X.xe = λ_ _=>False) (h:wpAny M A t Q X.xe s) (hQ:∀ a s,Q a s->Q' a s):wpAny M A t Q' E s :=
 wpAny_mono h hQ λe s' z=>by rw [hx] at z; exact z.elim
section
variable {X:Cx} {elt tg iter:Expr} {ifs:List Expr} {scope:Scope} {pos:Pos} {own:List Str} {ix:List Nat} {wi:TI} {g:TG} {tc:TT} {te:TE}
theorem zF4 {RR:Value->Addr->Result->Shared->Prop}
  (hx:X.xe = λ_ _=>False) (hc:X.calm = true) (sc:CompSc X.env.scope X.N scope ix) (I:Inv X pins σ H s) (T:Turn X.prog X.w X.K tg J fp it tn) (st:tn 0 s.heap) (fo:∀ b ∈ fp,FpOk X pins H b)
  (hg:∀ C s H fp,PG (cxIn X scope own ix C s H fp) tg g) (hif:∀ C s H fp,PIfs (cxIn X scope own ix C s H fp) ifs tc) (he:∀ C s H fp,PE (cxIn X scope own ix C s H fp) elt te)
  (rd:zRn own.length ix g tc te σ Q J H) (hRR:∀ acc C s',BEnd X pins σ Q acc C s'->RR acc C (.ok .next) s') :
  wpAny (model X.prog X.w) X.A (newList []) (λacc s₃=>wpAny (model X.prog X.w) X.A (newFunctionEnv scope X.env.globals (zAp X.env scope.names []) [] X.env.qual none .none (some X.env)) (λcenv s₄ =>
   codeAny (model X.prog X.w) X.A (.compStart (.ListComp elt [⟨tg,iter,ifs,0⟩] scope pos) 0 (.ref it) acc { cenv with scope:=relabel scope X.env }) (RR acc cenv.locals) s₄) E s₃) E s:=by
 refine wpAny_newObj_type (zDm (λh₁ hns₁ hsb₁ co=>?_))
 dsimp only at hns₁ hsb₁ co ⊢
 generalize hD':s.heap.objs.size = D at hns₁ hsb₁ co ⊢
 generalize hH2:s.heap.push { cls:=.type "list",dict:=none,data:=.seq ([]:List Value).toArray } = G at hns₁ hsb₁ co ⊢
 generalize hC':G.objs.size = C at hns₁ hsb₁ co ⊢
 have hC:C = D + 1:=by rw [<- hC',<- hH2,size_push,hD']
 have hDC:D ≠ C:=by rw [hC]; exact Nat.ne_of_lt (Nat.lt_succ_self _)
 have hle:s.heap.objs.size <= C:=by rw [hC,hD']; exact Nat.le_succ _
 have old:∀ b o,s.heap.get? b = some o->h₁.get? b = some o:=λb o e=>by
  exact hsb₁ b o (hH2 ▸ get?_push_of_some _ e)
 have oD:h₁.get? D = some { cls:=.type "list",data:=.seq ([]:List Value).toArray 0 }:=by
  refine hsb₁ D _ ?_
  rw [<- hH2,<- hD']
  exact get?_push_size _ rfl
 have fex:∀ b ∈ fp,b < s.heap.objs.size:=λb hb=>by
  obtain ⟨o,e,_⟩:=T.obj 0 _ st b hb
  exact lt_size e
 have nDf:∀ b ∈ fp,b ≠ D:=λb hb=>by rw [<- hD']; exact Nat.ne_of_lt (fex b hb)
 have sD:s.heap.get? D = none:=by
  cases e:s.heap.get? D with
  | none=>rfl
  | some o=>exact absurd (lt_size e) (by rw [hD']; exact Nat.lt_irrefl _)
 have hDn:H D = none:=I.hok.fresh (by rw [hD']; exact Nat.le_refl _)
 have I0:Inv (cxIn X scope own ix C s H fp) [] (σIn σ own.length ix) H { s with heap:=h₁ }:=I.comp sc fo fex hle hns₁ old co
 have st0:tn 0 h₁:=T.keep 0 _ _ st λb _ o e=>old b o e
 have hx':(cxIn X scope own ix C s H fp).xe = λ_ _=>False:=hx
 have Dloc:D ≠ (cxIn X scope own ix C s H fp).env.locals:=hDC
 have Dex:D ∈ (cxIn X scope own ix C s H fp).ex \/ (cxIn X scope own ix C s H fp).s₀.heap.objs.size <= D:=.inr (by show s.heap.objs.size <= D; rw [hD']; exact Nat.le_refl _)
 have Dfs:D ∉ (cxIn X scope own ix C s H fp).fs:=I0.nofs (a:=D) |> λk=>λz=>by
  have z':D ∈ frs X.stack:=z
  rcases mem_cons.mp (I.stkSub D z') with q | q
  ·exact absurd (q ▸ I.lt) (by rw [hD']; exact Nat.lt_irrefl _)
  ·exact I.nofs (by rw [hD']; exact Nat.le_refl _) q
 have Dcell:∀ x c,(cxIn X scope own ix C s H fp).env.cells.lookup x = some c->c ≠ D:=λx c e z=>by
  rcases uT I sc e with q | q
  ·have w1:=(co.empty _ _ q).2
   rw [z,hC] at w1
   omega
  ·obtain ⟨v,q⟩:=I.cell x c q
   exact absurd (Nat.lt_of_lt_of_le q.lt (by rw [z,hD']; exact Nat.le_refl _)) (Nat.lt_irrefl _)
 have fo':∀ {H':Hp} {pl:List (Addr × Obj)},(∀ b ∈ fp,H' b = none)->(∀ p ∈ pl,p.1 = D)->∀ b ∈ fp,FpOk (cxIn X scope own ix C s H fp) pl H' b:=λ{H' pl} hn hp b hb=>by
  obtain ⟨f0,f1,f2,f3,f4,f5⟩:=fo b hb
  refine ⟨hn b hb,(I0.ok.exf b hb).1,I0.ok.exfs b hb,.inl hb,(I0.ok.exf b hb).2,λp hp' z=>?_⟩
  rcases mem_append.mp hp' with q | q
  ·exact absurd (show p ∈ ([]:List (Addr × Obj)) from q) (by simp)
  ·exact nDf b hb (by rw [<- z]; exact hp p q)
 obtain ⟨W,⟨m0,w0⟩,step⟩:=rd
 have loop:codeAny (model X.prog X.w) X.A (.compLoop (.ListComp elt [⟨tg,iter,ifs,0⟩] scope pos) 0 (.ref it) (.ref D) (cxIn X scope own ix C s H fp).env) (RR (.ref D) C) { s with heap:=h₁ }:=by
  refine zIu (λn s'=>∃ i ys σ' H' its k,Inv (cxIn X scope own ix C s H fp) [] σ' H' s' /\ tn i s'.heap /\ (∀ b ∈ fp,H' b = none) /\ H' D = none /\ s'.heap.get? D = some { cls:=.type "list",data:=.seq (toArray its) k } /\ Vals ys its /\ W i n ys σ' H') ?_ m0
   ⟨0,[],_,H,[],0,I0,st0,λb hb=>(fo b hb).1,hDn,oD,.nil,w0⟩
  rintro n s1 ⟨i,ys,σ1,H1,its,k,I1,tn1,fr1,D1,o1,rv1,w1⟩
  have J1:Inv (cxIn X scope own ix C s H fp) [(D,{ cls:=.type "list",data:=.seq (toArray its) k })] σ1 H1 s1:=I1.pins_of λp hp=>by
   have e:p = (D,{ cls:=.type "list",data:=.seq (toArray its) k }):=by simpa using hp
   subst e
   exact ⟨o1,D1,Dloc,Dfs,λv z=>by cases z⟩
  have single:∀ p ∈ [((D,{ cls:=.type "list",data:=.seq (toArray its) k }):Addr × Obj)],p.1 = D:=λp hp=>by
   have e:p = (D,{ cls:=.type "list",data:=.seq (toArray its) k }):=by simpa using hp
   rw [e]
  rcases step i n ys σ1 H1 w1 with ⟨stop,hz,qn⟩ | ⟨go,hz,N,hN,stp⟩
  ·refine thn (T.done (cxIn X scope own ix C s H fp) rfl rfl rfl hc i _ s1 σ1 H1 _ J1 (fo' fr1 single) tn1 stop) λr s2 ⟨hr,I2⟩=>?_
   subst hr
   obtain ⟨e2,_⟩:=I2.pin (D,{ cls:=.type "list",data:=.seq (toArray its) k }) (mem_append_right _ (by simp))
   obtain ⟨m2,hns2,_⟩:=I2.loc
   refine hRR _ _ _ ⟨D,upd H1 D (.lst ys),rfl,?_,⟨m2,hns2⟩,?_,qn D D1⟩
   ·refine I.call' (ch:=fp) I2.os (Un.track I2.base sD hDn) (I2.hok.track D1 ⟨hz,its,k,rv1,e2⟩) I2.bare λb hb=>?_
    obtain ⟨f0,f1,f2,f3,f4,f5⟩:=fo b hb
    exact ⟨f3,f1,f4,f5⟩
   ·refine I.fpOk hle ?_
    rw [zQ hDC.symm]
    exact I2.free
  ·refine thn (T.item (cxIn X scope own ix C s H fp) rfl rfl rfl hc i _ s1 σ1 H1 _ J1 (fo' fr1 single) tn1 go) λr s2 ⟨u,hr,h2⟩=>?_
   subst hr
   refine thn h2 λ_ s3 ⟨x,H3,I3,rx,y3,tn3,fr3⟩=>?_
   have I3':=I3.pinned (fo' fr3 single) (T.obj _ _ tn3)
   refine thx hx' (hg C s H fp _ s3 σ1 H3 x u _ I3' rx (stp x H3 y3)) λ_ s4 ⟨σ4,H4,I4,q4⟩=>?_
   refine thx hx' (hif C s H fp _ s4 σ4 H4 _ I4 q4) λb s5 ⟨H5,I5,q5⟩=>?_
   have back:∀ {σ7:St} {H7:Hp} {s7:Shared},Inv (cxIn X scope own ix C s H fp) ([(D,{ cls:=.type "list",data:=.seq (toArray its) k })] ++ zD8 fp s3.heap) σ7 H7 s7 ->
     tn (i + 1) s7.heap /\ (∀ b ∈ fp,H7 b = none) /\ H7 D = none /\ s7.heap.get? D = some { cls:=.type "list",data:=.seq (toArray its) k }:=λ{σ7 H7 s7} I7=>by
    have pinD:=I7.pin (D,{ cls:=.type "list",data:=.seq (toArray its) k }) (mem_append_right _ (mem_append_left _ (by simp)))
    refine ⟨T.keep _ _ _ tn3 λb hb o e=>(I7.pin (b,o) (mem_append_right _ (mem_append_right _ (uH hb e)))).1,λb hb=>?_,pinD.2.1,pinD.1⟩
    obtain ⟨o,e,d⟩:=T.obj _ _ tn3 b hb
    exact (I7.pin (b,o) (mem_append_right _ (mem_append_right _ (uH hb e)))).2.1
   cases b with
   | false =>
    obtain ⟨m',hm,w'⟩:=hN _ _ _ (show N ys σ4 H5 from q5)
    obtain ⟨b1,b2,b3,b4⟩:=back I5
    exact ⟨m',hm,i + 1,ys,σ4,H5,its,k,I5.pins_of (λp hp=>absurd hp (by simp)),b1,b2,b3,b4,rv1,w'⟩
   | true =>
    rw [if_pos rfl]
    refine thx hx' (he C s H fp _ s5 σ4 H5 _ I5 q5) λv s6 ⟨y,H6,I6,ry,q6⟩=>?_
    obtain ⟨m',hm,w'⟩:=hN _ _ _ q6
    obtain ⟨b1,b2,b3,b4⟩:=back I6
    have zl:its.length = ys.length:=rv1.length.symm
    refine call_meets F.slot_list_append ⟨_,b4,rfl⟩ F.entry_list_append (F.args_list_append_2 _ _) (PySem.list_append D its.toArray k v (by rw [size_toArray]; omega)) ⟨b4,?_⟩
    have q:=PySem.IsL.update b4 (λxs=>xs.push v)
    have keep:∀ b o,b ≠ D->s6.heap.get? b = some o->(s6.heap.update D (Obj.mapSeq λxs=>xs.push v)).get? b = some o:=λb o hb e=>(get?_update_other s6.heap _ (Ne.symm hb)).trans e
    refine ⟨m',hm,i + 1,ys ++ [y],σ4,H6,its ++ [v],(if (its.toArray.push v).size == its.toArray.size then k else k + 1),?_,T.keep _ _ _ b1 (λb hb o e=>keep b o (nDf b hb) e),b2,b3,?_,rv1.append (.cons ry .nil),w'⟩
    ·exact (I6.pins_of (pins':=[]) λp hp=>absurd hp (by simp)).turned (t':=s6.toks) keep b3 Dloc Dex Dcell λp hp=>absurd (show p ∈ ([]:List (Addr × Obj)) from hp) (by simp)
    ·rw [show (its ++ [v]).toArray = its.toArray.push v by simp]
     exact q
 exact codeAny_compStart_list loop (T.self X.A 0 _ _ _ st0 loop)
theorem wP (hx:X.xe = λ_ _=>False) (hc:X.calm = true) (ho:zLs X.env.scope X.N scope ix = true) (hi:PI X tg iter wi)
  (hg:∀ C s H fp,PG (cxIn X scope own ix C s H fp) tg g) (hif:∀ C s H fp,PIfs (cxIn X scope own ix C s H fp) ifs tc) (he:∀ C s H fp,PE (cxIn X scope own ix C s H fp) elt te)
  (hs:∀ x,foldedSetIterable iter X.env x = pure x:=by intro _; rfl):PE X (.ListComp elt [⟨tg,iter,ifs,0⟩] scope pos) (zQ4 own.length ix wi g tc te):=by
 intro pins s σ H Q I h
 have sc:=zIs ho
 rw [eval_ListComp]
 refine wpAny_comprehension_free (use:=none) rfl hs (zCo (zC7 I sc)) sc.kind sc.nm (thn (hi pins s σ H _ I h) λv s1 h1=>thn h1 λitv s2 h2=>?_)
 obtain ⟨it,fp,tn,J,H2,e,I2,T,st2,f2,rd⟩:=h2
 subst e
 refine zF4 (RR:=λacc C=>compPost (model X.prog X.w) X.A X.xe none (EP X pins σ Q) acc C) hx hc sc I2 T st2 f2 hg hif he rd ?_
 rintro acc C s' ⟨p,H',rfl,I',⟨m,hns⟩,fC,q⟩
 obtain ⟨f0,f1,f2,f3,f4,f5⟩:=fC
 exact ⟨m,hns,λh' hs'=>⟨.ref p,H',I'.turned (t':=s'.toks) (λb o hb e=>(hs'.2 b hb).trans e) f0 f1 f3 f4 f5,rfl,q⟩⟩
theorem zD7 {spos:Pos} (hN:X.N.Nodup) (hi':X.N[i]? = some x) (hxl:X.env.scope.names.lookup x = some .local) (hx:X.xe = λ_ _=>False) (hc:X.calm = true) (ho:zLs X.env.scope X.N scope ix = true) (hi:PI X tg iter wi)
  (hg:∀ C s H fp,PG (cxIn X scope own ix C s H fp) tg g) (hif:∀ C s H fp,PIfs (cxIn X scope own ix C s H fp) ifs tc) (he:∀ C s H fp,PE (cxIn X scope own ix C s H fp) elt te)
  (hsw:swapsWith (.ListComp elt [⟨tg,iter,ifs,0⟩] scope pos) (some (.Name x pos')) spos.line X.env = pure true:=by rfl)
  (hs:∀ x,foldedSetIterable iter X.env x = pure x:=by intro _; rfl):PS X (.Assign [.Name x pos'] (.ListComp elt [⟨tg,iter,ifs,0⟩] scope pos) spos) (tAsg (zQ4 own.length ix wi g tc te) (zBc i)):=by
 intro pins s σ H D I h
 have sc:=zIs ho
 rw [exec_Assign_Name_used _ _ _ _ hsw]
 refine wpAny_bind (wpAny_standAt (wpAny_bind ?_))
 show wpAny _ X.A (do let _ <- comprehension (.ListComp elt [⟨tg,iter,ifs,0⟩] scope pos) scope X.env _ (newList []) false (eval iter X.env) (some (assign (.Name x pos') X.env))) _ _ s
 refine wpAny_bind (wpAny_mono (wpAny_comprehension_free (use:=some (assign (.Name x pos') X.env)) (Q:=λ_ s'=>SP X pins D .next s') rfl hs (zCo (zC7 I sc)) sc.kind sc.nm
  (thn (hi pins s σ H _ I h) λv s1 h1=>thn h1 λitv s2 h2=>?_)) (λ_ s' hq=>wpAny_pure (wpAny_pure hq)) λ_ _ e=>e)
 obtain ⟨it,fp,tn,J,H2,e,I2,T,st2,f2,rd⟩:=h2
 subst e
 refine zF4 (RR:=λacc C=>compPost (model X.prog X.w) X.A X.xe (some (assign (.Name x pos') X.env)) (λ_ s'=>SP X pins D .next s') acc C) hx hc sc I2 T st2 f2 hg hif he rd ?_
 rintro acc C s' ⟨p,H',rfl,I',⟨m,hns⟩,fC,q⟩
 obtain ⟨f0,f1,f2,f3,f4,f5⟩:=fC
 show wpAny _ X.A (assign (.Name x pos') X.env (.ref p)) _ _ _
 refine wpAny_assign_Name (zHn (v:=.ref p) I' hN hi' (.inl hxl) rfl (λs'' I'' ⟨a,hsa,ha⟩=>?_) (.inr hxl))
 have haC:C ≠ a:=by
  rcases ha with ha | ha
  ·rw [ha]; exact f1
  ·exact (f4 x a ha).symm
 exact ⟨m,hns.sameBut hsa haC,λh' hs'=>⟨_,H',I''.turned (t':=s''.toks) (λb o hb e=>(hs'.2 b hb).trans e) f0 f1 f3 f4 f5,q⟩⟩
end
section
variable {n:Nat} {ix:List Nat} {g:TG} {tc:TT} {te:TE} {σ:St} {Q:VK} {H:Hp}
theorem zIr {K:PySem.W.Frag} {a:Addr} {xs:List V} (Pv:Nat->List V->St->Hp->Prop) (h0:Pv 0 [] (σIn σ n ix) H) (hl:∀ i ys σ H,i <= xs.length->Pv i ys σ H->SqL K H a xs /\ ys.length <= i) (hz:xs.length < sizeLine)
  (hs:∀ i x ys σ H,xs[i]? = some x->Pv i ys σ H->g x σ H λσ4 H4=>tc σ4 H4 λb H5=>if b = true then te σ4 H5 λy H6=>Pv (i + 1) (ys ++ [y]) σ4 H6 else Pv (i + 1) ys σ4 H5)
  (hd:∀ ys σ H,Pv xs.length ys σ H->∀ p,H p = none->Q (.ref p) (upd H p (.lst ys))):zRn n ix g tc te σ Q (Itl K a) H:=by
 refine ⟨λi m ys σ H=>m = xs.length - i /\ i <= xs.length /\ Pv i ys σ H,⟨xs.length,by simp,Nat.zero_le _,h0⟩,?_⟩
 rintro i m ys σ H ⟨rfl,hi,p⟩
 obtain ⟨q,hy⟩:=hl i ys σ H hi p
 by_cases hlt:i < xs.length
 ·refine .inr ⟨⟨xs,xs[i],q,by simp [hlt]⟩,by omega,Pv (i + 1),λys' σ' H' p'=>⟨xs.length - (i + 1),by omega,rfl,hlt,p'⟩,λx H' y=>?_⟩
  obtain ⟨e,y⟩:=y
  subst e
  exact hs i x ys σ _ (y xs q) p
 ·have e:i = xs.length:=by omega
  subst e
  exact .inl ⟨⟨xs,q,Nat.le_refl _⟩,by omega,hd ys σ H p⟩
theorem zM3 {lo:Int} {k:Nat} (Pv:Nat->List V->St->Hp->Prop) (h0:Pv 0 [] (σIn σ n ix) H) (hl:∀ i ys σ H,i <= k->Pv i ys σ H->ys.length <= i) (hz:k < sizeLine)
  (hs:∀ i ys σ H,i < k->Pv i ys σ H->g (.int (lo + i)) σ H λσ4 H4=>tc σ4 H4 λb H5=>if b = true then te σ4 H5 λy H6=>Pv (i + 1) (ys ++ [y]) σ4 H6 else Pv (i + 1) ys σ4 H5)
  (hd:∀ ys σ H,Pv k ys σ H->∀ p,H p = none->Q (.ref p) (upd H p (.lst ys))):zRn n ix g tc te σ Q (Itr lo k) H:=by
 refine ⟨λi m ys σ H=>m = k - i /\ i <= k /\ Pv i ys σ H,⟨k,by simp,Nat.zero_le _,h0⟩,?_⟩
 rintro i m ys σ H ⟨rfl,hi,p⟩
 have hy:=hl i ys σ H hi p
 by_cases hlt:i < k
 ·refine .inr ⟨hlt,by omega,Pv (i + 1),λys' σ' H' p'=>⟨k - (i + 1),by omega,rfl,hlt,p'⟩,λx H' y=>?_⟩
  obtain ⟨e,y⟩:=y
  subst e y
  exact hs i ys σ _ hlt p
 ·have e:i = k:=by omega
  subst e
  exact .inl ⟨Nat.le_refl _,by omega,hd ys σ H p⟩
end
def Ite (K:PySem.W.Frag) (a:Addr):It :=
 ⟨λi H=>∃ xs x,SqL K H a xs /\ xs[i]? = some x,λi H v H'=>∃ t x,v = .ref t /\ H t = none /\ H' = upd H t (.tup [.int i,x]) /\ ∀ xs,SqL K H a xs->xs[i]? = some x,λi H=>∃ xs,SqL K H a xs /\ xs.length <= i⟩
theorem zNp {P:Program} {w:World} {K:PySem.W.Frag} {elts:List Expr} {k:Nat} {tp:Pos} (a e it:Addr) (hne:e ≠ it) :
  Turn P w K (.Tuple elts k tp) (Ite K a) [e,it] e (λi h=>(∃ old,IsEnum h e it ((i:Nat):Int) old) /\ h.IsListIter it a i) where
 mem:=by simp
 obj:=λi h st b hb=>by
  obtain ⟨⟨old,he⟩,o,ho,c,d⟩:=st
  have hb':b = e \/ b = it:=by simpa using hb
  rcases hb' with rfl | rfl
  ·exact ⟨_,he,λv z=>by
    have z':Data.fields _ = Data.cell v:=z
    cases z'⟩
  ·exact ⟨o,ho,λv z=>by rw [d] at z; cases z⟩
 keep:=λi h h' st k=>⟨let ⟨old,he⟩:=st.1; ⟨old,k e (by simp) _ he⟩,st.2.at λo q=>k it (by simp) o q⟩
 item:=by
  intro X hP hw hK hc i pins s σ H E I hf st hg
  subst hP hw hK
  obtain ⟨xs,x,hq,hx⟩:=hg
  obtain ⟨its,rv,p,hz⟩:=I.list hq
  obtain ⟨u,hu,ru⟩:=rv.get hx
  obtain ⟨⟨old,he⟩,hit⟩:=st
  obtain ⟨f0,f1,f2,f3,f4,f5⟩:=hf e (by simp)
  obtain ⟨g0,g1,g2,g3,g4,g5⟩:=hf it (by simp)
  refine wpAny_pyNext_enum_item he hit p.isList (x:=u) (by simpa using hu) hne λh₁ heo hit₁ ht₁ hz₁ hk₁=>?_
  refine ⟨_,rfl,wpAny_letOwnedTupleGo_enum (s:={ s with heap:=h₁,toks:=s.toks + 1 }) heo λh₂ he₂ hs₂=>?_⟩
  replace hs₂:SameBut e h₁ h₂:=hs₂
  have hel:e < s.heap.objs.size:=lt_size he
  have nT:H s.heap.objs.size = none:=I.hok.fresh (Nat.le_refl _)
  have ht₂:h₂.get? s.heap.objs.size = some { cls:=.type "tuple",data:=.seq #[.int i s.toks,u] }:=(hs₂.2 _ (Nat.ne_of_gt hel)).trans ht₁
  have kk:∀ b o,b ≠ e->b ≠ it->s.heap.get? b = some o->h₂.get? b = some o:=λb o h1 h2 q=>(hs₂.2 b h1).trans (hk₁ b o h1 h2 q)
  have lt:∀ b o,s.heap.get? b = some o->b ≠ s.heap.objs.size:=λb o q=>Nat.ne_of_lt (lt_size q)
  have there:∀ b o,s.heap.get? b = some o->b ∉ [e,it]->∃ o',h₂.get? b = some o':=λb o q hx=>⟨o,kk b o (λz=>hx (by simp [z])) (λz=>hx (by simp [z])) q⟩
  have U:Un (frs X.stack) [e,it] H (upd H s.heap.objs.size (.tup [.int i,x])) s.heap h₂ :=
   ⟨λb o q _ _ hx=>kk b o (λz=>hx (by simp [z])) (λz=>hx (by simp [z])) q,λb o q _ _ hx=>⟨o.slots,kk b o (λz=>hx (by simp [z])) (λz=>hx (by simp [z])) q⟩,
    λb o q n _=>by rw [zQ (lt b o q)]; exact n,there,λb ys q=>by rw [zQ (zS q nT)]; exact q,λb o ys q=>by rw [zQ (zS q nT)]; exact q,λb ps q=>⟨#[],by rw [zQ (zS q nT),q]; simp⟩⟩
  have ok:HOk X.prog X.w (upd H s.heap.objs.size (.tup [.int i,x])) h₂:=λb o q=>by
   by_cases hb:b = s.heap.objs.size
   ·subst hb
    rw [zR] at q
    cases q
    exact ⟨by show 2 <= sizeLine; decide,[.int i s.toks,u],.cons ⟨_,rfl⟩ (.cons ru .nil),⟨_,ht₂,rfl,_,rfl⟩⟩
   ·rw [zQ hb] at q
    refine (I.hok b o q).stay (λc v hc' z=>?_) (λc z=>by rw [zQ (zS z nT)]; exact z) λc ys z=>by rw [zQ (zS z nT)]; exact z
    have hcs:∃ o',H c = some o':=by
     rcases hc' with rfl | hc'
     ·exact ⟨o,q⟩
     ·exact ⟨_,hc'⟩
    obtain ⟨o',ho'⟩:=hcs
    exact kk c v (zS ho' f0) (zS ho' g0) z
  have I2:=I.call (h':=h₂) (g':=s.gens) (t':=s.toks + 1) (d':=s.drawn) (ch:=[e,it]) U ok I.bare λb hb=>by
   have hb':b = e \/ b = it:=by simpa using hb
   rcases hb' with rfl | rfl
   ·exact ⟨f3,f1,f4,f5⟩
   ·exact ⟨g3,g1,g4,g5⟩
  refine ⟨.ref s.heap.objs.size,_,I2,rfl,⟨s.heap.objs.size,x,rfl,nT,rfl,λys hy=>by rw [I.list_inj hy hq]; exact hx⟩,⟨⟨_,by rw [show ((i + 1:Nat):Int) = (i:Int) + 1 by push_cast; rfl]; exact he₂⟩,hit₁.extBut hs₂.extBut hne.symm⟩,λb hb=>?_⟩
  have hb':b = e \/ b = it:=by simpa using hb
  obtain ⟨o2,ho2,_⟩:=hit
  rcases hb' with rfl | rfl
  ·rw [zQ (Nat.ne_of_lt hel)]; exact f0
  ·rw [zQ (Nat.ne_of_lt (lt_size ho2))]; exact g0
 done:=by
  intro X hP hw hK hc i pins s σ H E I hf st hg
  subst hP hw hK
  obtain ⟨xs,hq,hx⟩:=hg
  obtain ⟨its,rv,p,hz⟩:=I.list hq
  obtain ⟨⟨old,he⟩,hit⟩:=st
  obtain ⟨g0,g1,g2,g3,g4,g5⟩:=hf it (by simp)
  have hl:=rv.length
  exact wpAny_pyNext_enum_end (I.ok.hd hc) he hit p.isList (by simp; omega) λh' eb=>⟨rfl,I.turned (t':=s.toks) (λb o hb e=>eb b o hb e) g0 g1 g3 g4 g5⟩
 self:=λ_ _ _ _ _ st h=>let ⟨⟨_,he⟩,_⟩:=st; wpAny_pyIter_enum he h
def iEnum (K:PySem.W.Frag) (ta:TA):TI:=λσ H R=>ta σ H λvs H1=>∃ a,vs = [.ref a] /\ (∃ xs,SqL K H1 a xs) /\ R (Ite K a) H1
theorem boot_enumerate':bootBuiltins "enumerate" = some (.type "enumerate"):=by decide +kernel
theorem zOj (hg:Gl X "enumerate") (hm:X.mg "enumerate" = none) (ha:PA X [a] ta) (hs:starEach [a] X.env = [(false,eval a X.env)]:=by rfl) :
  PI X (.Tuple elts k tp) (.Call (.Name "enumerate" p) [a] [] pos) (iEnum X.K ta):=by
 intro pins s σ H R I h
 refine Call_ (zA9 I hg hm boot_enumerate' (PyProof.Rows.callWith_type1 (thn (ha pos pins s σ H _ I h) λus s1 ⟨vs,H1,I1,r1,q1⟩=>?_) hs rfl))
 obtain ⟨l,e,⟨xs,hq⟩,q⟩:=q1
 subst e
 cases r1 with
 | cons r rr =>
  cases rr
  cases r
  obtain ⟨its,rv,p,hz⟩:=I1.list hq
  refine call_enumerate_list p.isList λh' hE hI hsz hk=>wpAny_pyIter_enum hE ?_
  have I2:Inv X pins σ H1 { s1 with heap:=h',toks:=s1.toks }:=I1.kept hk
  refine ⟨s1.heap.objs.size + 1,[s1.heap.objs.size + 1,s1.heap.objs.size],_,_,H1,rfl,I2,zNp l _ _ (Nat.succ_ne_self _),⟨⟨.none,hE⟩,hI⟩,λb hb=>?_,q⟩
  have hb':b = s1.heap.objs.size + 1 \/ b = s1.heap.objs.size:=by simpa using hb
  rcases hb' with rfl | rfl
  ·exact I1.fpOk (Nat.le_succ _) (I1.hok.fresh (Nat.le_succ _))
  ·exact I1.fpOk (Nat.le_refl _) (I1.hok.fresh (Nat.le_refl _))
theorem zSf {K:PySem.W.Frag} {a:Addr} {xs:List V} {g:TG} {tb:TS} {D:Ends} {σ:St} {H:Hp} (Pv:Nat->St->Hp->Prop) (h0:Pv 0 σ H) (hl:∀ i σ H,i <= xs.length->Pv i σ H->SqL K H a xs)
  (hs:∀ i x t σ H,xs[i]? = some x->H t = none->Pv i σ H->g (.ref t) σ (upd H t (.tup [.int i,x])) λσ2 H2=>tb { D with nx:=Pv (i + 1),ct:=Pv (i + 1),bk:=D.nx } σ2 H2) (hd:∀ σ H,Pv xs.length σ H->D.nx σ H) :
  ∃ W:Nat->Nat->St->Hp->Prop,(∃ m,W 0 m σ H) /\ ∀ i m σ H,W i m σ H ->
   ((Ite K a).stop i H /\ D.nx σ H) \/ ((Ite K a).go i H /\ ∃ N:St->Hp->Prop,(∀ σ' H',N σ' H'->∃ m',m' < m /\ W (i + 1) m' σ' H') /\ ∀ x H',(Ite K a).yld i H x H'->g x σ H' λσ2 H2=>tb { D with nx:=N,ct:=N,bk:=D.nx } σ2 H2):=by
 refine ⟨λi m σ H=>m = xs.length - i /\ i <= xs.length /\ Pv i σ H,⟨xs.length,by simp,Nat.zero_le _,h0⟩,?_⟩
 rintro i m σ H ⟨rfl,hi,p⟩
 have q:=hl i σ H hi p
 by_cases hlt:i < xs.length
 ·refine .inr ⟨⟨xs,xs[i],q,by simp [hlt]⟩,Pv (i + 1),λσ' H' p'=>⟨xs.length - (i + 1),by omega,rfl,hlt,p'⟩,λx H' y=>?_⟩
  obtain ⟨t,x',rfl,ht,rfl,y⟩:=y
  exact hs i x' t σ H (y xs q) ht p
 ·have e:i = xs.length:=by omega
  subst e
  exact .inl ⟨⟨xs,q,Nat.le_refl _⟩,hd σ H p⟩
def tFs (a:Str) (te:TE):TE:=λσ H Q=>te σ H λx H1=>(∃ i,x = .int i /\ i.natAbs.log2 < 1920 /\ Q (.str (a ++ Str.ofString (toString i))) H1) \/ ∃ z,x = .str z /\ z.length <= 1000 /\ Q (.str (a ++ z)) H1
theorem zD1 (x y:Str):(x ++ y).length = x.length + y.length:=by rw [<- strLen_append]
theorem pe_fs {a:Str} (he:PE X e te) (hl:a.length <= 1000):PE X (.JoinedStr [.Constant (.str a) j p1,.FormattedValue e (-1) none p2] pos) (tFs a te):=by
 intro pins s σ H Q I h
 refine JoinedStr_many (joinParts_cons (Calls.Constant_str ?_))
 have e0:(Str.empty ++ a) = a:=by
  cases a with
  | mk c=>show Str.mk _ = _; simp [Str.empty]
 refine ⟨by rw [e0]; exact Nat.le_trans hl (by decide),?_⟩
 rw [e0]
 have I0:=I.tok (s.toks + 1)
 refine joinParts_cons (FormattedValue_plain (thn (he pins _ σ H _ I0 h) λu s1 ⟨x,H1,I1,r1,q1⟩=>?_))
 rcases q1 with ⟨i,rfl,hd,q⟩ | ⟨z,rfl,hz,q⟩
 ·obtain ⟨t,rfl⟩:=r1
  refine formatField_int_small hd ?_
  have len:(a ++ Str.ofString (toString i)).length <= sizeLine:=by
   have:=int_text_len_1921 hd
   rw [zD1]
   exact Nat.le_trans (show a.length + (Str.ofString (toString i)).length <= 4000 by omega) (by decide)
  refine ⟨len,joinParts_nil ?_ len⟩
  exact ⟨.str (a ++ Str.ofString (toString i)),H1,(I1.tok (s1.toks + 1 + 1)).tok _,⟨_,rfl⟩,q⟩
 ·obtain ⟨t,rfl⟩:=r1
  have len:(a ++ z).length <= sizeLine:=by
   rw [zD1]
   exact Nat.le_trans (show a.length + z.length <= 4000 by omega) (by decide)
  refine formatField_str (λt' tk=>?_) (Nat.le_trans hz (by decide))
  refine ⟨len,joinParts_nil ?_ len⟩
  exact ⟨.str (a ++ z),H1,(I1.tok tk).tok _,⟨_,rfl⟩,q⟩
def rIsi (K:PySem.W.Frag) (c:Value):List V->Hp->VK->Prop:=λxs H Q=>∃ x y t b,xs = [x,y] /\ RelV y c /\ TyOf K H x t /\ kitOne K t c = some b /\ Q (.bl b) H
theorem zSt (hc:∀ y u,RelV y c->RelV y u->u = c):zAx X (.builtin "isinstance") (rIsi X.K c):=by
 intro pins s σ H xs us Q I r h
 obtain ⟨x,y,t,b,rfl,ry,ty,e,q⟩:=h
 obtain ⟨u,v,rfl,ru,rv⟩:=r.two
 obtain rfl:=hc y v ry rv
 exact zPk I ru ty e λtk=>⟨.bl b,H,I.tok tk,rfl,q⟩
theorem zA5:∀ y u,RelV y (.type n)->RelV y u->u = .type n:=λy u h1 h2=>by
 cases y <;> first
  | (cases h1; done)
  | (obtain ⟨_,e⟩:=h1; cases e; done)
  | (cases h1; cases h2; rfl)
theorem zR1 {σ:St} {A B:St->Hp->Prop} (h:A (σ.set i (some x)) H):zBc i x σ H (λσ4 H4=>tIf0 σ4 H4 λb H5=>if b = true then A σ4 H5 else B σ4 H5):=by
 show if true = true then A (σ.set i (some x)) H else B (σ.set i (some x)) H
 rw [if_pos rfl]
 exact h
theorem zGl {X:Cx} {K:PySem.W.Frag} (h:X.K = K) {es:List Expr} {k:Nat} {t:TGs} {n:Nat} {pos:Pos} (hc:X.calm = true) (ht:PGs X es t)
  (hn:(assignEach es X.env).length = n:=by rfl) (hst:(assignEach es X.env).findIdx? (·.1) = none:=by rfl):PG X (.Tuple es k pos) (gTup K n t):=by
 subst h
 exact zAz hc ht hn hst
end L2
namespace Ts
open PySem L2
theorem same_new (h:H p = none) (o:HO):Same H (upd H p o):=λb u q=>by rw [zQ (zS q h)]; exact q
theorem _root_.L2.Same.put (s:Same H H') (h:H p = none) (o:HO):Same H (upd H' p o):=λb u q=>by rw [zQ (zS q h)]; exact s b u q
def A2 {α β:Type} (R:α->β->Prop):List α->List β->Prop
 | [],[]=>True
 | x :: xs,y :: ys=>R x y /\ A2 R xs ys
 | _,_=>False
section
variable {α β:Type} {R R':α->β->Prop}
theorem A2.len:∀ {xs:List α} {ys:List β},A2 R xs ys->xs.length = ys.length
 | [],[],_=>rfl
 | _ :: _,_ :: _,h=>congrArg (· + 1) (A2.len h.2)
 | [],_ :: _,h=>h.elim
 | _ :: _,[],h=>h.elim
theorem A2.imp (f:∀ x y,R x y->R' x y):∀ {xs:List α} {ys:List β},A2 R xs ys->A2 R' xs ys
 | [],[],_=>trivial
 | _ :: _,_ :: _,h=>⟨f _ _ h.1,A2.imp f h.2⟩
 | [],_ :: _,h=>h.elim
 | _ :: _,[],h=>h.elim
theorem A2.app:∀ {xs:List α} {ys:List β} {xs':List α} {ys':List β},A2 R xs ys->A2 R xs' ys'->A2 R (xs ++ xs') (ys ++ ys')
 | [],[],_,_,_,h=>h
 | _ :: _,_ :: _,_,_,h,h'=>⟨h.1,A2.app h.2 h'⟩
 | [],_ :: _,_,_,h,_=>h.elim
 | _ :: _,[],_,_,h,_=>h.elim
theorem A2.snoc (h:A2 R xs ys) (r:R x y):A2 R (xs ++ [x]) (ys ++ [y]):=h.app ⟨r,trivial⟩
theorem A2.at1:∀ {xs:List α} {ys:List β} {i:Nat} {x:α},A2 R xs ys->xs[i]? = some x->∃ y,ys[i]? = some y /\ R x y
 | [],_,_,_,_,e=>by simp at e
 | _ :: _,_ :: _,0,_,h,e=>by simp at e; subst e; exact ⟨_,rfl,h.1⟩
 | _ :: _,_ :: _,i + 1,_,h,e=>by
  obtain ⟨y,h1,h2⟩:=A2.at1 (i:=i) h.2 (by simpa using e)
  exact ⟨y,by simpa using h1,h2⟩
 | _ :: _,[],_,_,h,_=>h.elim
theorem A2.at2:∀ {xs:List α} {ys:List β} {i:Nat} {y:β},A2 R xs ys->ys[i]? = some y->∃ x,xs[i]? = some x /\ R x y
 | _,[],_,_,_,e=>by simp at e
 | _ :: _,_ :: _,0,_,h,e=>by simp at e; subst e; exact ⟨_,rfl,h.1⟩
 | _ :: _,_ :: _,i + 1,_,h,e=>by
  obtain ⟨y,h1,h2⟩:=A2.at2 (i:=i) h.2 (by simpa using e)
  exact ⟨y,by simpa using h1,h2⟩
 | [],_ :: _,_,_,h,_=>h.elim
theorem A2.rev:∀ {xs:List α} {ys:List β},A2 R xs ys->A2 R xs.reverse ys.reverse
 | [],[],_=>trivial
 | _ :: _,_ :: _,h=>by
  rw [reverse_cons,reverse_cons]
  exact (A2.rev h.2).snoc h.1
 | [],_ :: _,h=>h.elim
 | _ :: _,[],h=>h.elim
theorem A2.of_map {f:β->α} (h:∀ y,R (f y) y):∀ ys:List β,A2 R (ys.map f) ys
 | []=>trivial
 | y :: ys=>⟨h y,A2.of_map h ys⟩
end
theorem A2.eq_map {α β:Type} {f:β->α}:∀ {xs:List α} {ys:List β},A2 (λx y=>x = f y) xs ys->xs = ys.map f
 | [],[],_=>rfl
 | _ :: _,_ :: _,h=>by rw [map_cons,h.1,A2.eq_map h.2]
 | [],_ :: _,h=>h.elim
 | _ :: _,[],h=>h.elim
class Rp (K:PySem.W.Frag) (α:Type) where
 rp:Hp->V->α->Prop
 mono:∀ {F F':Hp} {v:V} {a:α},Same F F'->rp F v a->rp F' v a
abbrev rp (K:PySem.W.Frag) {α:Type} [Rp K α]:Hp->V->α->Prop:=Rp.rp (K:=K)
class Nn (K:PySem.W.Frag) (α:Type) [Rp K α]:Prop where
 nn:∀ {F:Hp} {v:V} {a:α},rp K F v a->v ≠ .non
class Sc (K:PySem.W.Frag) (α:Type) [Rp K α] where
 val:α->V
 is:∀ {F:Hp} {v:V} {a:α},rp K F v a ↔ v = val a
 inj:∀ {a b:α},val a = val b->a = b
section
variable {K:PySem.W.Frag}
instance:Rp K Int:=⟨λ_ v n=>v = .int n,λ_ h=>h⟩
instance:Rp K Bool:=⟨λ_ v n=>v = .bl n,λ_ h=>h⟩
instance:Rp K Str:=⟨λ_ v n=>v = .str n,λ_ h=>h⟩
instance:Rp K Unit:=⟨λ_ v _=>v = .non,λ_ h=>h⟩
instance {α:Type} [Rp K α]:Rp K (Option α):=⟨λF v a=>match a with
 | none=>v = .non
 | some x=>v ≠ .non /\ rp K F v x,λ{F F' v a} s h=>match a,h with
 | none,h=>h
 | some x,h=>⟨h.1,Rp.mono s h.2⟩⟩
instance {α:Type} [Rp K α]:Rp K (List α):=⟨λF v xs=>∃ p vs,v = .ref p /\ F p = some (.lst vs) /\ A2 (rp K F) vs xs,λs ⟨p,vs,h1,h2,h3⟩=>⟨p,vs,h1,s _ _ h2,h3.imp λ_ _=>Rp.mono s⟩⟩
instance {α β:Type} [Rp K α] [Rp K β]:Rp K (α × β):=⟨λF v x=>∃ p a b,v = .ref p /\ F p = some (.tup [a,b]) /\ rp K F a x.1 /\ rp K F b x.2,λs ⟨p,a,b,h1,h2,h3,h4⟩=>⟨p,a,b,h1,s _ _ h2,Rp.mono s h3,Rp.mono s h4⟩⟩
structure Scr where
 ns:LI
instance:Rp K Scr:=⟨λF v x=>∃ p,v = .ref p /\ SqL K F p (x.ns.map V.int),λs ⟨p,h1,h2⟩=>⟨p,h1,s.seq h2⟩⟩
instance:Nn K Int:=⟨λh=>by cases h; intro e; cases e⟩
instance:Nn K Bool:=⟨λh=>by cases h; intro e; cases e⟩
instance:Nn K Str:=⟨λh=>by cases h; intro e; cases e⟩
instance {α:Type} [Rp K α]:Nn K (List α):=⟨λ⟨_,_,h,_⟩=>by rw [h]; intro e; cases e⟩
instance {α β:Type} [Rp K α] [Rp K β]:Nn K (α × β):=⟨λ⟨_,_,_,h,_⟩=>by rw [h]; intro e; cases e⟩
instance:Sc K Int:=⟨V.int,Iff.rfl,λh=>by cases h; rfl⟩
instance:Sc K Bool:=⟨V.bl,Iff.rfl,λh=>by cases h; rfl⟩
instance:Sc K Str:=⟨V.str,Iff.rfl,λh=>by cases h; rfl⟩
instance {α:Type} [Rp K α] [Sc K α] [Nn K α]:Sc K (Option α):=⟨λa=>match a with
 | none=>.non
 | some x=>Sc.val K x,λ{F v a}=>match a with
 | none=>Iff.rfl
 | some x=>⟨λh=>Sc.is.mp h.2,λh=>⟨Nn.nn (K:=K) (F:=F) (a:=x) (Sc.is.mpr h),Sc.is.mpr h⟩⟩,λ{a b} h=>match a,b,h with
 | none,none,_=>rfl
 | some x,some y,h=>by rw [Sc.inj (K:=K) (a:=x) (b:=y) h]
 | none,some y,h=>absurd h.symm (Nn.nn (K:=K) (F:=λ_=>none) (a:=y) (Sc.is.mpr rfl))
 | some x,none,h=>absurd h (Nn.nn (K:=K) (F:=λ_=>none) (a:=x) (Sc.is.mpr rfl))⟩
theorem zRh {α:Type} [Rp K α] [Sc K α] {a:α} (h:rp K F v a):rp K F' v a:=Sc.is.mpr (Sc.is.mp h)
inductive Md | nw | fz | hp
def dif (H H0:Hp):Hp:=λb=>match H0 b with
 | none=>H b
 | some _=>none
def ext (Fa H0 H:Hp):Hp:=λb=>match H0 b with
 | none=>H b
 | some _=>Fa b
structure Bs where
 Fa:Hp
 H0:Hp
abbrev Own:=List (Addr × HO)
def reg (B:Bs) (F H:Hp):Md->Hp
 | .nw=>dif F B.H0
 | .fz=>F
 | .hp=>H
theorem dif_le:Same (dif H H0) H:=λb o h=>by
 unfold dif at h
 cases e:H0 b with
 | none=>rw [e] at h; exact h
 | some u=>rw [e] at h; cases h
theorem xU (h:H0 b = none):dif H H0 b = H b:=by
 unfold dif
 rw [h]
theorem wE (s:Same H H'):Same (dif H H0) (dif H' H0):=λb o h=>by
 unfold dif at h ⊢
 cases e:H0 b with
 | none=>rw [e] at h; exact s b o h
 | some u=>rw [e] at h; cases h
structure Ok (B:Bs) (F:Hp) (O:Own) (H:Hp):Prop where
 fh:Same F H
 h0:Same B.H0 H
 fa:∀ b o,F b = some o->B.Fa b = some o \/ B.H0 b = none
 fo:∀ x ∈ O,F x.1 = none /\ B.H0 x.1 = none /\ H x.1 = some x.2
 nd:(O.map (·.1)).Nodup
structure Grow (B:Bs) (F H:Hp) (O:Own) (F' H':Hp):Prop where
 ff:Same F F'
 hh:Same H H'
 ok:Ok B F' O H'
 nw:∀ b,F b = none->H b ≠ none->F' b = none
section
variable {B:Bs} {F H F' H' F2 H2:Hp} {O:Own}
theorem Grow.refl (k:Ok B F O H):Grow B F H O F H:=⟨.refl _,.refl _,k,λ_ h _=>h⟩
theorem Grow.trans (a:Grow B F H O F' H') (b:Grow B F' H' O F2 H2):Grow B F H O F2 H2 :=
 ⟨a.ff.trans b.ff,a.hh.trans b.hh,b.ok,λq h1 h2=>b.nw q (a.nw q h1 h2) λe=>h2 (a.hh.free e)⟩
theorem Grow.new (k:Ok B F O H) (h:H p = none) (o:HO):Grow B F H O (upd F p o) (upd H p o):=by
 have fp:=k.fh.free h
 refine ⟨same_new fp o,same_new h o,⟨λb u e=>?_,k.h0.put (k.h0.free h) o,λb u e=>?_,λx hx=>?_,k.nd⟩,λb h1 h2=>?_⟩
 ·by_cases q:b = p
  ·subst q; rw [zR] at e ⊢; exact e
  ·rw [zQ q] at e ⊢; exact k.fh b u e
 ·by_cases q:b = p
  ·subst q; exact .inr (k.h0.free h)
  ·rw [zQ q] at e; exact k.fa b u e
 ·obtain ⟨a1,a2,a3⟩:=k.fo x hx
  have q:x.1 ≠ p:=zS a3 h
  exact ⟨by rw [zQ q]; exact a1,a2,by rw [zQ q]; exact a3⟩
 ·rw [zQ λe=>h2 (by rw [e]; exact h)]; exact h1
theorem xG (g:Grow B F H O F' H') (md:Md):Same (reg B F H md) (reg B F' H' md):=match md with
 | .nw=>wE g.ff
 | .fz=>g.ff
 | .hp=>g.hh
end
inductive Slot (K:PySem.W.Frag):Type 1
 | un
 | fz (n:Bool) {α:Type} [Rp K α] (a:α)
 | hs {α:Type} [Rp K α] (a:α)
 | nu {α:Type} [Rp K α] (a:α)
 | ow (n:Bool) {α:Type} [Rp K α] (xs:List α)
 | od {α:Type} [Rp K α] (kvs:List (Key × α))
abbrev SL (K:PySem.W.Frag):=List (Slot K)
abbrev mdb:Bool->Md
 | true=>.nw
 | false=>.fz
def lo (F:Hp) (O:Own) (H:Hp):Hp:=λb=>if (F b).isSome || (O.any λx=>x.1 == b) then none else H b
inductive SlotsOk (B:Bs) (F L H:Hp):SL K->St->Own->Prop
 | nil:SlotsOk B F L H [] [] []
 | un {sl:SL K} {σ:St} {O:Own} {x:Option V}:SlotsOk B F L H sl σ O->SlotsOk B F L H (.un :: sl) (x :: σ) O
 | fz {n:Bool} {α:Type} [Rp K α] {a:α} {sl:SL K} {σ:St} {O:Own} {v:V}:rp K (reg B F H (mdb n)) v a->SlotsOk B F L H sl σ O->SlotsOk B F L H (.fz n a :: sl) (some v :: σ) O
 | hs {α:Type} [Rp K α] {a:α} {sl:SL K} {σ:St} {O:Own} {v:V}:rp K H v a->SlotsOk B F L H sl σ O->SlotsOk B F L H (.hs a :: sl) (some v :: σ) O
 | nu {α:Type} [Rp K α] {a:α} {sl:SL K} {σ:St} {O:Own} {v:V}:rp K (dif L B.H0) v a->SlotsOk B F L H sl σ O->SlotsOk B F L H (.nu a :: sl) (some v :: σ) O
 | ow {n:Bool} {α:Type} [Rp K α] {xs:List α} {sl:SL K} {σ:St} {O:Own} {p:Addr} {vs:List V}:A2 (rp K (reg B F H (mdb n))) vs xs->SlotsOk B F L H sl σ O->SlotsOk B F L H (.ow n xs :: sl) (some (.ref p) :: σ) ((p,.lst vs) :: O)
 | od {α:Type} [Rp K α] {kvs:List (Key × α)} {sl:SL K} {σ:St} {O:Own} {p:Addr} {ks:List (Key × V)}:A2 (λ(x:Key × V) (y:Key × α)=>x.1 = y.1 /\ rp K F x.2 y.2) ks kvs->SlotsOk B F L H sl σ O->SlotsOk B F L H (.od kvs :: sl) (some (.ref p) :: σ) ((p,.dK ks) :: O)
def At (B:Bs) (sl:SL K) (F:Hp) (O:Own) (H:Hp) (σ:St):Prop:=Ok B F O H /\ SlotsOk B F (lo F O H) H sl σ O
abbrev isOw:Slot K->Bool
 | @Slot.ow _ _ _ _ _=>true
 | @Slot.od _ _ _ _=>true
 | _=>false
abbrev isHs:Slot K->Bool
 | @Slot.hs _ _ _ _=>true
 | _=>false
section
variable {B:Bs} {F H F' H' L L':Hp} {O O':Own} {sl:SL K} {σ:St}
theorem uI (n:Bool) (hF:Same F F'):Same (reg B F H (mdb n)) (reg B F' H' (mdb n)):=match n with
 | true=>wE hF
 | false=>hF
theorem SlotsOk.mono (hF:Same F F') (hL:Same L L') (hH:Same H H') (h:SlotsOk B F L H sl σ O):SlotsOk B F' L' H' sl σ O:=by
 induction h with
 | nil=>exact .nil
 | un _ ih=>exact .un ih
 | fz r _ ih=>exact .fz (Rp.mono (uI _ hF) r) ih
 | hs r _ ih=>exact .hs (Rp.mono hH r) ih
 | nu r _ ih=>exact .nu (Rp.mono (wE hL) r) ih
 | ow r _ ih=>exact .ow (r.imp λ_ _=>Rp.mono (uI _ hF)) ih
 | od r _ ih=>exact .od (r.imp λ_ _ z=>⟨z.1,Rp.mono hF z.2⟩) ih
theorem SlotsOk.mut (hL:Same L L') (h:SlotsOk B F L H sl σ O) (hn:sl.all (λs=>!isHs s) = true):SlotsOk B F L' H' sl σ O:=by
 induction h with
 | nil=>exact .nil
 | un _ ih=>exact .un (ih (by rw [all_cons,Bool.and_eq_true] at hn; exact hn.2))
 | fz r _ ih=>exact .fz (Rp.mono (uI _ (.refl _)) r) (ih (by rw [all_cons,Bool.and_eq_true] at hn; exact hn.2))
 | hs r _ ih=>rw [all_cons,Bool.and_eq_true] at hn; exact absurd hn.1 (by simp)
 | nu r _ ih=>exact .nu (Rp.mono (wE hL) r) (ih (by rw [all_cons,Bool.and_eq_true] at hn; exact hn.2))
 | ow r _ ih=>exact .ow (r.imp λ_ _=>Rp.mono (uI _ (.refl _))) (ih (by rw [all_cons,Bool.and_eq_true] at hn; exact hn.2))
 | od r _ ih=>exact .od r (ih (by rw [all_cons,Bool.and_eq_true] at hn; exact hn.2))
theorem zPb (g:Grow B F H O F' H'):Same (lo F O H) (lo F' O H'):=λb o h=>by
 unfold lo at h ⊢
 cases e:(F b).isSome || (O.any λx=>x.1 == b) with
 | true=>rw [e] at h; cases h
 | false =>
  rw [e] at h
  have hb:H b = some o:=h
  rw [Bool.or_eq_false_iff] at e
  have f':F' b = none:=g.nw b (by cases q:F b with | none=>rfl | some u=>rw [q] at e; cases e.1) (by rw [hb]; intro z; cases z)
  rw [f',e.2]
  exact g.hh b o hb
theorem At.grow (h:At B sl F O H σ) (g:Grow B F H O F' H'):At B sl F' O H' σ:=⟨g.ok,h.2.mono g.ff (zPb g) g.hh⟩
theorem SlotsOk.len (h:SlotsOk B F L H sl σ O):σ.length = sl.length:=by
 induction h with
 | nil=>rfl
 | un _ ih=>rw [length_cons,length_cons,ih]
 | fz _ _ ih=>rw [length_cons,length_cons,ih]
 | hs _ _ ih=>rw [length_cons,length_cons,ih]
 | nu _ _ ih=>rw [length_cons,length_cons,ih]
 | ow _ _ ih=>rw [length_cons,length_cons,ih]
 | od _ _ ih=>rw [length_cons,length_cons,ih]
theorem SlotsOk.fz_at {α:Type} [Rp K α] {a:α} (h:SlotsOk B F L H sl σ O):∀ {i:Nat},sl[i]? = some (.fz n a)->∃ v,σ[i]? = some (some v) /\ rp K (reg B F H (mdb n)) v a:=by
 induction h with
 | nil=>intro i e; simp at e
 | fz r _ ih =>
  intro i e
  cases i with
  | zero=>simp only [getElem?_cons_zero] at e; cases e; exact ⟨_,rfl,r⟩
  | succ i=>exact ih (by simpa using e)
 | _ =>
  rename_i ih
  intro i e
  cases i with
  | zero=>simp only [getElem?_cons_zero] at e; cases e
  | succ i=>exact ih (by simpa using e)
theorem SlotsOk.hs_at {α:Type} [Rp K α] {a:α} (h:SlotsOk B F L H sl σ O):∀ {i:Nat},sl[i]? = some (.hs a)->∃ v,σ[i]? = some (some v) /\ rp K H v a:=by
 induction h with
 | nil=>intro i e; simp at e
 | hs r _ ih =>
  intro i e
  cases i with
  | zero=>simp only [getElem?_cons_zero] at e; cases e; exact ⟨_,rfl,r⟩
  | succ i=>exact ih (by simpa using e)
 | _ =>
  rename_i ih
  intro i e
  cases i with
  | zero=>simp only [getElem?_cons_zero] at e; cases e
  | succ i=>exact ih (by simpa using e)
theorem SlotsOk.nu_at {α:Type} [Rp K α] {a:α} (h:SlotsOk B F L H sl σ O):∀ {i:Nat},sl[i]? = some (.nu a)->∃ v,σ[i]? = some (some v) /\ rp K (dif L B.H0) v a:=by
 induction h with
 | nil=>intro i e; simp at e
 | nu r _ ih =>
  intro i e
  cases i with
  | zero=>simp only [getElem?_cons_zero] at e; cases e; exact ⟨_,rfl,r⟩
  | succ i=>exact ih (by simpa using e)
 | _ =>
  rename_i ih
  intro i e
  cases i with
  | zero=>simp only [getElem?_cons_zero] at e; cases e
  | succ i=>exact ih (by simpa using e)
theorem SlotsOk.put (h:SlotsOk B F L H sl σ O) (new:∀ (sl:SL K) (σ:St) (O:Own),SlotsOk B F L H sl σ O->SlotsOk B F L H (s' :: sl) (x :: σ) O):∀ {i:Nat},sl[i]? = some s->isOw s = false->SlotsOk B F L H (sl.set i s') (σ.set i x) O:=by
 induction h with
 | nil=>intro i e; simp at e
 | un g ih =>
  intro i e o
  cases i with
  | zero=>exact new _ _ _ g
  | succ i=>exact .un (ih (by simpa using e) o)
 | fz r g ih =>
  intro i e o
  cases i with
  | zero=>exact new _ _ _ g
  | succ i=>exact .fz r (ih (by simpa using e) o)
 | hs r g ih =>
  intro i e o
  cases i with
  | zero=>exact new _ _ _ g
  | succ i=>exact .hs r (ih (by simpa using e) o)
 | nu r g ih =>
  intro i e o
  cases i with
  | zero=>exact new _ _ _ g
  | succ i=>exact .nu r (ih (by simpa using e) o)
 | ow r g ih =>
  intro i e o
  cases i with
  | zero=>simp only [getElem?_cons_zero] at e; cases e; cases o
  | succ i=>exact .ow r (ih (by simpa using e) o)
 | od r g ih =>
  intro i e o
  cases i with
  | zero=>simp only [getElem?_cons_zero] at e; cases e; cases o
  | succ i=>exact .od r (ih (by simpa using e) o)
theorem SlotsOk.own (h:SlotsOk B F L H sl σ O) (new:∀ (sl:SL K) (σ:St) (O:Own),SlotsOk B F L H sl σ O->SlotsOk B F L H (s' :: sl) (x :: σ) (c :: O)) :
  ∀ {i:Nat},sl[i]? = some s->isOw s = false->∃ O1 O2,O = O1 ++ O2 /\ SlotsOk B F L H (sl.set i s') (σ.set i x) (O1 ++ c :: O2):=by
 induction h with
 | nil=>intro i e; simp at e
 | un g ih =>
  intro i e o
  cases i with
  | zero=>exact ⟨[],_,rfl,new _ _ _ g⟩
  | succ i=>obtain ⟨O1,O2,q,z⟩:=ih (by simpa using e) o; exact ⟨O1,O2,q,.un z⟩
 | fz r g ih =>
  intro i e o
  cases i with
  | zero=>exact ⟨[],_,rfl,new _ _ _ g⟩
  | succ i=>obtain ⟨O1,O2,q,z⟩:=ih (by simpa using e) o; exact ⟨O1,O2,q,.fz r z⟩
 | hs r g ih =>
  intro i e o
  cases i with
  | zero=>exact ⟨[],_,rfl,new _ _ _ g⟩
  | succ i=>obtain ⟨O1,O2,q,z⟩:=ih (by simpa using e) o; exact ⟨O1,O2,q,.hs r z⟩
 | nu r g ih =>
  intro i e o
  cases i with
  | zero=>exact ⟨[],_,rfl,new _ _ _ g⟩
  | succ i=>obtain ⟨O1,O2,q,z⟩:=ih (by simpa using e) o; exact ⟨O1,O2,q,.nu r z⟩
 | ow r g ih =>
  intro i e o
  cases i with
  | zero=>simp only [getElem?_cons_zero] at e; cases e; cases o
  | succ i=>obtain ⟨O1,O2,q,z⟩:=ih (by simpa using e) o; exact ⟨_ :: O1,O2,by rw [q] <;> rfl,.ow r z⟩
 | od r g ih =>
  intro i e o
  cases i with
  | zero=>simp only [getElem?_cons_zero] at e; cases e; cases o
  | succ i=>obtain ⟨O1,O2,q,z⟩:=ih (by simpa using e) o; exact ⟨_ :: O1,O2,by rw [q] <;> rfl,.od r z⟩
theorem SlotsOk.ow_at {α:Type} [Rp K α] {xs:List α} (h:SlotsOk B F L H sl σ O):∀ {i:Nat},sl[i]? = some (.ow n xs) ->
  ∃ O1 O2 p vs,O = O1 ++ (p,.lst vs) :: O2 /\ σ[i]? = some (some (.ref p)) /\ A2 (rp K (reg B F H (mdb n))) vs xs /\
   (∀ (s':Slot K) (x:Option V) (c:Addr × HO),(∀ (sl:SL K) (σ:St) (O:Own),SlotsOk B F L H sl σ O->SlotsOk B F L H (s' :: sl) (x :: σ) (c :: O))->SlotsOk B F L H (sl.set i s') (σ.set i x) (O1 ++ c :: O2)) /\
   (∀ (s':Slot K) (x:Option V),(∀ (sl:SL K) (σ:St) (O:Own),SlotsOk B F L H sl σ O->SlotsOk B F L H (s' :: sl) (x :: σ) O)->SlotsOk B F L H (sl.set i s') (σ.set i x) (O1 ++ O2)):=by
 induction h with
 | nil=>intro i e; simp at e
 | un g ih =>
  intro i e
  cases i with
  | zero=>simp only [getElem?_cons_zero] at e; cases e
  | succ i=>obtain ⟨O1,O2,p,vs,q,h1,h2,h3,h4⟩:=ih (by simpa using e); exact ⟨O1,O2,p,vs,q,h1,h2,λs' x c z=>.un (h3 s' x c z),λs' x z=>.un (h4 s' x z)⟩
 | fz r g ih =>
  intro i e
  cases i with
  | zero=>simp only [getElem?_cons_zero] at e; cases e
  | succ i=>obtain ⟨O1,O2,p,vs,q,h1,h2,h3,h4⟩:=ih (by simpa using e); exact ⟨O1,O2,p,vs,q,h1,h2,λs' x c z=>.fz r (h3 s' x c z),λs' x z=>.fz r (h4 s' x z)⟩
 | hs r g ih =>
  intro i e
  cases i with
  | zero=>simp only [getElem?_cons_zero] at e; cases e
  | succ i=>obtain ⟨O1,O2,p,vs,q,h1,h2,h3,h4⟩:=ih (by simpa using e); exact ⟨O1,O2,p,vs,q,h1,h2,λs' x c z=>.hs r (h3 s' x c z),λs' x z=>.hs r (h4 s' x z)⟩
 | nu r g ih =>
  intro i e
  cases i with
  | zero=>simp only [getElem?_cons_zero] at e; cases e
  | succ i=>obtain ⟨O1,O2,p,vs,q,h1,h2,h3,h4⟩:=ih (by simpa using e); exact ⟨O1,O2,p,vs,q,h1,h2,λs' x c z=>.nu r (h3 s' x c z),λs' x z=>.nu r (h4 s' x z)⟩
 | ow r g ih =>
  intro i e
  cases i with
  | zero=>simp only [getElem?_cons_zero] at e; cases e; exact ⟨[],_,_,_,rfl,rfl,r,λs' x c z=>z _ _ _ g,λs' x z=>z _ _ _ g⟩
  | succ i=>obtain ⟨O1,O2,p,vs,q,h1,h2,h3,h4⟩:=ih (by simpa using e); exact ⟨_ :: O1,O2,p,vs,by rw [q] <;> rfl,h1,h2,λs' x c z=>.ow r (h3 s' x c z),λs' x z=>.ow r (h4 s' x z)⟩
 | od r g ih =>
  intro i e
  cases i with
  | zero=>simp only [getElem?_cons_zero] at e; cases e
  | succ i=>obtain ⟨O1,O2,p,vs,q,h1,h2,h3,h4⟩:=ih (by simpa using e); exact ⟨_ :: O1,O2,p,vs,by rw [q] <;> rfl,h1,h2,λs' x c z=>.od r (h3 s' x c z),λs' x z=>.od r (h4 s' x z)⟩
theorem SlotsOk.od_at {α:Type} [Rp K α] {kvs:List (Key × α)} (h:SlotsOk B F L H sl σ O):∀ {i:Nat},sl[i]? = some (.od kvs) ->
  ∃ O1 O2 p ks,O = O1 ++ (p,.dK ks) :: O2 /\ σ[i]? = some (some (.ref p)) /\ A2 (λ(x:Key × V) (y:Key × α)=>x.1 = y.1 /\ rp K F x.2 y.2) ks kvs /\
   (∀ (s':Slot K) (x:Option V) (c:Addr × HO),(∀ (sl:SL K) (σ:St) (O:Own),SlotsOk B F L H sl σ O->SlotsOk B F L H (s' :: sl) (x :: σ) (c :: O))->SlotsOk B F L H (sl.set i s') (σ.set i x) (O1 ++ c :: O2)) /\
   (∀ (s':Slot K) (x:Option V),(∀ (sl:SL K) (σ:St) (O:Own),SlotsOk B F L H sl σ O->SlotsOk B F L H (s' :: sl) (x :: σ) O)->SlotsOk B F L H (sl.set i s') (σ.set i x) (O1 ++ O2)):=by
 induction h with
 | nil=>intro i e; simp at e
 | un g ih =>
  intro i e
  cases i with
  | zero=>simp only [getElem?_cons_zero] at e; cases e
  | succ i=>obtain ⟨O1,O2,p,vs,q,h1,h2,h3,h4⟩:=ih (by simpa using e); exact ⟨O1,O2,p,vs,q,h1,h2,λs' x c z=>.un (h3 s' x c z),λs' x z=>.un (h4 s' x z)⟩
 | fz r g ih =>
  intro i e
  cases i with
  | zero=>simp only [getElem?_cons_zero] at e; cases e
  | succ i=>obtain ⟨O1,O2,p,vs,q,h1,h2,h3,h4⟩:=ih (by simpa using e); exact ⟨O1,O2,p,vs,q,h1,h2,λs' x c z=>.fz r (h3 s' x c z),λs' x z=>.fz r (h4 s' x z)⟩
 | hs r g ih =>
  intro i e
  cases i with
  | zero=>simp only [getElem?_cons_zero] at e; cases e
  | succ i=>obtain ⟨O1,O2,p,vs,q,h1,h2,h3,h4⟩:=ih (by simpa using e); exact ⟨O1,O2,p,vs,q,h1,h2,λs' x c z=>.hs r (h3 s' x c z),λs' x z=>.hs r (h4 s' x z)⟩
 | nu r g ih =>
  intro i e
  cases i with
  | zero=>simp only [getElem?_cons_zero] at e; cases e
  | succ i=>obtain ⟨O1,O2,p,vs,q,h1,h2,h3,h4⟩:=ih (by simpa using e); exact ⟨O1,O2,p,vs,q,h1,h2,λs' x c z=>.nu r (h3 s' x c z),λs' x z=>.nu r (h4 s' x z)⟩
 | od r g ih =>
  intro i e
  cases i with
  | zero=>simp only [getElem?_cons_zero] at e; cases e; exact ⟨[],_,_,_,rfl,rfl,r,λs' x c z=>z _ _ _ g,λs' x z=>z _ _ _ g⟩
  | succ i=>obtain ⟨O1,O2,p,vs,q,h1,h2,h3,h4⟩:=ih (by simpa using e); exact ⟨_ :: O1,O2,p,vs,by rw [q] <;> rfl,h1,h2,λs' x c z=>.od r (h3 s' x c z),λs' x z=>.od r (h4 s' x z)⟩
 | ow r g ih =>
  intro i e
  cases i with
  | zero=>simp only [getElem?_cons_zero] at e; cases e
  | succ i=>obtain ⟨O1,O2,p,vs,q,h1,h2,h3,h4⟩:=ih (by simpa using e); exact ⟨_ :: O1,O2,p,vs,by rw [q] <;> rfl,h1,h2,λs' x c z=>.ow r (h3 s' x c z),λs' x z=>.ow r (h4 s' x z)⟩
end
end
section
variable {K:PySem.W.Frag} {B:Bs} {F H F' H' L L':Hp} {O O' O1 O2:Own} {sl:SL K} {σ:St} {p:Addr} {o o':HO}
theorem zO2 {α:Type} {a b:List α} {x:α}:(a ++ x :: b).Nodup ↔ (a ++ b).Nodup /\ x ∉ a ++ b:=by
 have q:(a ++ x :: b).Perm (x :: (a ++ b)):=List.perm_middle
 rw [q.nodup_iff,nodup_cons]
 exact ⟨λh=>⟨h.2,h.1⟩,λh=>⟨h.2,h.1⟩⟩
theorem Ok.add (k:Ok B F (O1 ++ O2) H) (h:H p = none):Ok B F (O1 ++ (p,o) :: O2) (upd H p o):=by
 refine ⟨λb u e=>?_,k.h0.put (k.h0.free h) o,k.fa,λx hx=>?_,?_⟩
 ·rw [zQ (zS (k.fh b u e) h)]; exact k.fh b u e
 ·have hx':x = (p,o) \/ x ∈ O1 ++ O2:=by
   rcases mem_append.mp hx with z | z
   ·exact .inr (mem_append.mpr (.inl z))
   ·rcases mem_cons.mp z with z | z
    ·exact .inl z
    ·exact .inr (mem_append.mpr (.inr z))
  rcases hx' with rfl | hx'
  ·exact ⟨k.fh.free h,k.h0.free h,zR⟩
  ·obtain ⟨a1,a2,a3⟩:=k.fo x hx'
   exact ⟨a1,a2,by rw [zQ (zS a3 h)]; exact a3⟩
 ·rw [map_append,map_cons,zO2,<- map_append]
  refine ⟨k.nd,λz=>?_⟩
  obtain ⟨x,hx,e⟩:=mem_map.mp z
  obtain ⟨_,_,a3⟩:=k.fo x hx
  have e':x.1 = p:=e
  rw [e',h] at a3
  cases a3
theorem Ok.one (k:Ok B F (O1 ++ (p,o) :: O2) H):F p = none /\ B.H0 p = none /\ H p = some o:=k.fo (p,o) (mem_append.mpr (.inr mem_cons_self))
theorem Ok.ndp (k:Ok B F (O1 ++ (p,o) :: O2) H):∀ x ∈ O1 ++ O2,x.1 ≠ p:=λx hx e=>by
 have q:=k.nd
 rw [map_append,map_cons,zO2,<- map_append] at q
 exact q.2 (mem_map.mpr ⟨x,hx,e⟩)
theorem Ok.drop (k:Ok B F (O1 ++ (p,o) :: O2) H):Ok B F (O1 ++ O2) H:=by
 refine ⟨k.fh,k.h0,k.fa,λx hx=>k.fo x ?_,?_⟩
 ·rcases mem_append.mp hx with z | z
  ·exact mem_append.mpr (.inl z)
  ·exact mem_append.mpr (.inr (mem_cons_of_mem _ z))
 ·have q:=k.nd
  rw [map_append,map_cons,zO2,<- map_append] at q
  exact q.1
theorem Ok.chg (k:Ok B F (O1 ++ (p,o) :: O2) H) (o':HO):Ok B F (O1 ++ (p,o') :: O2) (upd H p o'):=by
 obtain ⟨a1,a2,a3⟩:=k.one
 refine ⟨k.fh.put a1 o',k.h0.put a2 o',k.fa,λx hx=>?_,?_⟩
 ·have hx':x = (p,o') \/ x ∈ O1 ++ O2:=by
   rcases mem_append.mp hx with z | z
   ·exact .inr (mem_append.mpr (.inl z))
   ·rcases mem_cons.mp z with z | z
    ·exact .inl z
    ·exact .inr (mem_append.mpr (.inr z))
  rcases hx' with rfl | hx'
  ·exact ⟨a1,a2,zR⟩
  ·obtain ⟨b1,b2,b3⟩:=k.drop.fo x hx'
   exact ⟨b1,b2,by rw [zQ (k.ndp x hx')]; exact b3⟩
 ·have q:=k.nd
  rw [map_append,map_cons] at q ⊢
  exact q
theorem Ok.freeze (k:Ok B F (O1 ++ (p,o) :: O2) H):Ok B (upd F p o) (O1 ++ O2) H:=by
 obtain ⟨a1,a2,a3⟩:=k.one
 refine ⟨λb u e=>?_,k.h0,λb u e=>?_,λx hx=>?_,k.drop.nd⟩
 ·by_cases q:b = p
  ·subst q; rw [zR] at e; cases e; exact a3
  ·rw [zQ q] at e; exact k.fh b u e
 ·by_cases q:b = p
  ·subst q; exact .inr a2
  ·rw [zQ q] at e; exact k.fa b u e
 ·obtain ⟨b1,b2,b3⟩:=k.drop.fo x hx
  exact ⟨by rw [zQ (k.ndp x hx)]; exact b1,b2,b3⟩
theorem zTq (h:H p = none):Same (lo F (O1 ++ O2) H) (lo F (O1 ++ (p,o) :: O2) (upd H p o)):=λb u e=>by
 unfold lo at e ⊢
 by_cases q:b = p
 ·subst q
  split at e
  ·cases e
  ·rw [h] at e; cases e
 ·rw [zQ q]
  have z:((O1 ++ (p,o) :: O2).any λx=>x.1 == b) = ((O1 ++ O2).any λx=>x.1 == b):=by
   rw [any_append,any_append,any_cons]
   have:(p == b) = false:=by simp; exact λe=>q e.symm
   simp [this]
  rw [z]
  exact e
theorem zPc:Same (lo F (O1 ++ (p,o) :: O2) H) (lo F (O1 ++ (p,o') :: O2) (upd H p o')):=λb u e=>by
 unfold lo at e ⊢
 by_cases q:b = p
 ·subst q
  rw [any_append,any_cons] at e
  simp at e
 ·rw [zQ q]
  have z:((O1 ++ (p,o) :: O2).any λx=>x.1 == b) = ((O1 ++ (p,o') :: O2).any λx=>x.1 == b):=by
   rw [any_append,any_append,any_cons,any_cons]
  rw [<- z]
  exact e
theorem lo_drop:Same (lo F (O1 ++ (p,o) :: O2) H) (lo F (O1 ++ O2) H):=λb u e=>by
 unfold lo at e ⊢
 split at e
 ·cases e
 ·rename_i h
  rw [if_neg]
  ·exact e
  ·rw [any_append,any_cons] at h
   rw [any_append]
   simp at h ⊢
   exact ⟨h.1,h.2.1,h.2.2.2⟩
theorem lo_freeze:Same (lo F (O1 ++ (p,o) :: O2) H) (lo (upd F p o) (O1 ++ O2) H):=λb u e=>by
 unfold lo at e ⊢
 split at e
 ·cases e
 ·rename_i h
  rw [any_append,any_cons] at h
  simp at h
  have q:b ≠ p:=λz=>h.2.2.1 z.symm
  rw [zQ q,if_neg]
  ·exact e
  ·rw [any_append]
   simp
   exact ⟨h.1,h.2.1,h.2.2.2⟩
theorem Ok.called (k:Ok B F O H) (s:Same H H'):Grow B F H O (ext F H H') H':=by
 have e1:∀ b o,ext F H H' b = some o->F b = some o \/ H b = none:=λb o h=>by
  unfold ext at h
  cases q:H b with
  | none=>exact .inr rfl
  | some u=>rw [q] at h; exact .inl h
 refine ⟨λb o h=>?_,s,⟨λb o h=>?_,k.h0.trans s,λb o h=>?_,λx hx=>?_,k.nd⟩,λb h1 h2=>?_⟩
 ·unfold ext
  rw [k.fh b o h]
  exact h
 ·unfold ext at h
  cases q:H b with
  | none=>rw [q] at h; exact h
  | some u=>rw [q] at h; rw [<- k.fh b o h]; exact (s b u q).trans q.symm
 ·rcases e1 b o h with z | z
  ·exact k.fa b o z
  ·exact .inr (k.h0.free z)
 ·obtain ⟨a1,a2,a3⟩:=k.fo x hx
  refine ⟨?_,a2,s _ _ a3⟩
  unfold ext
  rw [a3]
  exact a1
 ·unfold ext
  cases q:H b with
  | none=>exact absurd q h2
  | some u=>exact h1
theorem zJ6 (h0:Same B.H0 H) (s:Same H H'):Same (dif H' H) (dif (ext F H H') B.H0):=λb o h=>by
 unfold dif at h
 cases q:H b with
 | none =>
  rw [q] at h
  rw [xU (h0.free q)]
  unfold ext
  rw [q]
  exact h
 | some u=>rw [q] at h; cases h
variable {md md1 md2:Md} {α β γ:Type} [Rp K α] [Rp K β] [Rp K γ] {t t1 t2:TE} {m:Option α} {m1:Option β} {m2:Option γ}
def Ex (B:Bs) (sl:SL K) (md:Md) (t:TE) {α:Type} [Rp K α] (m:Option α):Prop :=
 ∀ a,m = some a->∀ (F:Hp) (O:Own) (H:Hp) (σ:St) (Q:VK),At B sl F O H σ->(∀ (v:V) (F' H':Hp),Grow B F H O F' H'->rp K (reg B F' H' md) v a->Q v H')->t σ H Q
def Et (B:Bs) (sl:SL K) (t:TT) (m:Option Bool):Prop :=
 ∀ a,m = some a->∀ (F:Hp) (O:Own) (H:Hp) (σ:St) (Q:Bool->Hp->Prop),At B sl F O H σ->(∀ (F' H':Hp),Grow B F H O F' H'->Q a H')->t σ H Q
inductive Ar (R:Hp):SL K->List V->Prop
 | nil:Ar R [] []
 | cons {n:Bool} {α:Type} [Rp K α] {a:α} {v:V} {sl:SL K} {vs:List V}:rp K R v a->Ar R sl vs->Ar R (.fz n a :: sl) (v :: vs)
def Ea (B:Bs) (sl:SL K) (md:Md) (t:TA) {A:Type} (as:A->SL K) (m:Option A):Prop :=
 ∀ a,m = some a->∀ (F:Hp) (O:Own) (H:Hp) (σ:St) (Q:List V->Hp->Prop),At B sl F O H σ->(∀ (vs:List V) (F' H':Hp),Grow B F H O F' H'->Ar (reg B F' H' md) (as a) vs->Q vs H')->t σ H Q
theorem Ex.sc [Sc K α] (h:Ex B sl md t m):Ex B sl md1 t m:=λa ha F O H σ Q s k=>h a ha F O H σ Q s λv F' H' g r=>k v F' H' g (zRh r)
theorem Ex.up (h:Ex B sl .nw t m):Ex B sl .fz t m:=λa ha F O H σ Q s k=>h a ha F O H σ Q s λv F' H' g r=>k v F' H' g (Rp.mono dif_le r)
theorem zJ7 [Nn K α] (h:Ex B sl md t m):Ex B sl md t (m.bind λa=>some (some a)):=λa ha F O H σ Q s k=>by
 cases m with
 | none=>cases ha
 | some a' =>
  cases (show some (some a') = some a from ha)
  exact h a' rfl F O H σ Q s λv F' H' g r=>k v F' H' g ⟨Nn.nn (K:=K) r,r⟩
theorem yR {n:Bool} {a:α} (i:Nat) (hs:sl[i]? = some (.fz n a)):Ex B sl (mdb n) (tVar i) (some a):=λa' ha F O H σ Q s k=>by
 cases ha
 obtain ⟨v,h1,h2⟩:=s.2.fz_at hs
 exact ⟨v,h1,k v F H (.refl s.1) h2⟩
theorem zD [Sc K α] {n:Bool} {a:α} (i:Nat) (hs:sl[i]? = some (.fz n a)):Ex B sl md (tVar i) (some a):=(yR i hs).sc
theorem zR5:Same (lo F O H) H:=λb o h=>by
 unfold lo at h
 split at h
 ·cases h
 ·exact h
theorem zFs (k:Ok B F O H) (n:Bool):Same (reg B F H (mdb n)) H:=match n with
 | true=>dif_le.trans k.fh
 | false=>k.fh
theorem zE {n:Bool} {a:α} (i:Nat) (hs:sl[i]? = some (.fz n a)):Ex B sl .hp (tVar i) (some a):=λa' ha F O H σ Q s k=>by
 cases ha
 obtain ⟨v,h1,h2⟩:=s.2.fz_at hs
 exact ⟨v,h1,k v F H (.refl s.1) (Rp.mono (zFs s.1 n) h2)⟩
theorem ex_varN {a:α} (i:Nat) (hs:sl[i]? = some (.nu a)):Ex B sl .hp (tVar i) (some a):=λa' ha F O H σ Q s k=>by
 cases ha
 obtain ⟨v,h1,h2⟩:=s.2.nu_at hs
 exact ⟨v,h1,k v F H (.refl s.1) (Rp.mono (dif_le.trans zR5) h2)⟩
theorem zAb {n:Bool} {xs:List α} (i:Nat) (hs:sl[i]? = some (.ow n xs)):Ex B sl .hp (tVar i) (some xs):=λa' ha F O H σ Q s k=>by
 cases ha
 obtain ⟨O1,O2,p,vs,rfl,h1,h2,_⟩:=s.2.ow_at hs
 exact ⟨_,h1,k _ F H (.refl s.1) ⟨p,vs,rfl,s.1.one.2.2,h2.imp λ_ _=>Rp.mono (zFs s.1 n)⟩⟩
theorem ex_c [Sc K α] (a:α):Ex B sl md (tC (Sc.val K a)) (some a):=λa' ha F O H σ Q s k=>by cases ha; exact k _ F H (.refl s.1) (Sc.is.mpr rfl)
theorem zI (i:Int):Ex B sl md (tC (.int i)) (some i):=ex_c (K:=K) i
theorem zAv (i:Bool):Ex B sl md (tC (.bl i)) (some i):=ex_c (K:=K) i
theorem wM (i:Str):Ex B sl md (tC (.str i)) (some i):=ex_c (K:=K) i
theorem zJ9:Ex B sl md (tC .non) (some (none:Option α)):=λa' ha F O H σ Q s k=>by cases ha; exact k _ F H (.refl s.1) rfl
theorem zDa {f:β->γ->Option α} (h:(m1.bind λa=>m2.bind λb=>f a b) = some c):∃ a b,m1 = some a /\ m2 = some b /\ f a b = some c:=by
 cases m1 with
 | none=>cases h
 | some a =>
  cases m2 with
  | none=>cases h
  | some b=>exact ⟨a,b,rfl,rfl,h⟩
theorem zEr {f:β->γ->Option α} [Sc K α] (hr:∀ (a:β) (b:γ) (c:α) (v w:V) (H:Hp) (Q:VK),f a b = some c->rp K H v a->rp K H w b->Q (Sc.val K c) H->r v w H Q)
  (h1:Ex B sl .hp t1 m1) (h2:Ex B sl .hp t2 m2):Ex B sl md (tOp r t1 t2) (m1.bind λa=>m2.bind λb=>f a b):=λc hc F O H σ Q s k=>by
 obtain ⟨a,b,ha,hb,hf⟩:=zDa hc
 refine h1 a ha F O H σ _ s λv F' H' g r1=>?_
 refine h2 b hb F' O H' σ _ (s.grow g) λw F2 H2 g2 r2=>?_
 exact hr a b c v w H2 Q hf (Rp.mono g2.hh r1) r2 (k _ F2 H2 (g.trans g2) (Sc.is.mpr rfl))
theorem zV (h:Ex B sl md t m'):Et B sl (tTest t) m':=λc hc F O H σ Q s k=>h c hc F O H σ _ s λv F' H' g r=>⟨c,r,k F' H' g⟩
theorem et_b (h:Ex B sl md t m'):Et B sl (tB t) m':=λc hc F O H σ Q s k=>h c hc F O H σ _ s λv F' H' g r=>⟨c,r,k F' H' g⟩
theorem zAn {t:TT} {n:Option Bool} (h:Et B sl t n):Et B sl (tNot t) (n.bind λc=>some !c):=λc hc F O H σ Q s k=>by
 cases n with
 | none=>cases hc
 | some c' =>
  cases (show some (!c') = some c from hc)
  exact h c' rfl F O H σ _ s λF' H' g=>k F' H' g
theorem zTz (h:Ex B sl .hp t n):Ex B sl md (tNotV t) (n.bind λc=>some !c):=λc hc F O H σ Q s k=>by
 cases n with
 | none=>cases hc
 | some c' =>
  cases (show some (!c') = some c from hc)
  refine h c' rfl F O H σ _ s λv F' H' g r=>?_
  cases r
  exact ⟨c',rfl,k _ F' H' g rfl⟩
theorem zIn {t u:TT} {n n':Option Bool} (h:Et B sl t n) (h':Et B sl u n'):Et B sl (tAnd t u) (n.bind λc=>if c = true then n' else some false):=λc hc F O H σ Q s k=>by
 cases n with
 | none=>cases hc
 | some c' =>
  refine h c' rfl F O H σ _ s λF' H' g=>?_
  cases c' with
  | true=>exact iteT (h' c (by simpa using hc) F' O H' σ _ (s.grow g) λF2 H2 g2=>k F2 H2 (g.trans g2))
  | false=>cases (show some false = some c from by simpa using hc); exact iteF (k F' H' g)
theorem zC4 {t u:TT} {n n':Option Bool} (h:Et B sl t n) (h':Et B sl u n'):Et B sl (tOr t u) (n.bind λc=>if c = true then some true else n'):=λc hc F O H σ Q s k=>by
 cases n with
 | none=>cases hc
 | some c' =>
  refine h c' rfl F O H σ _ s λF' H' g=>?_
  cases c' with
  | true=>cases (show some true = some c from by simpa using hc); exact iteT (k F' H' g)
  | false=>exact iteF (h' c (by simpa using hc) F' O H' σ _ (s.grow g) λF2 H2 g2=>k F2 H2 (g.trans g2))
theorem zEt (h:Ex B sl .hp t1 n) (h':Ex B sl .hp t2 n'):Ex B sl md (tAndV t1 t2) (n.bind λc=>if c = true then n' else some false):=λc hc F O H σ Q s k=>by
 cases n with
 | none=>cases hc
 | some c' =>
  refine h c' rfl F O H σ _ s λv F' H' g r=>?_
  cases r
  refine ⟨c',rfl,?_⟩
  cases c' with
  | true=>exact iteT (h' c (by simpa using hc) F' O H' σ _ (s.grow g) λv F2 H2 g2 r2=>k v F2 H2 (g.trans g2) (zRh r2))
  | false=>cases (show some false = some c from by simpa using hc); exact iteF (k _ F' H' g rfl)
theorem zT1 {t:TT} {n:Option Bool} {m m':Option α} (h:Et B sl t n) (h1:Ex B sl md t1 m) (h2:Ex B sl md t2 m'):Ex B sl md (tIf t t1 t2) (n.bind λc=>if c = true then m else m'):=λc hc F O H σ Q s k=>by
 cases n with
 | none=>cases hc
 | some c' =>
  refine h c' rfl F O H σ _ s λF' H' g=>?_
  cases c' with
  | true=>exact iteT (h1 c (by simpa using hc) F' O H' σ _ (s.grow g) λv F2 H2 g2 r2=>k v F2 H2 (g.trans g2) r2)
  | false=>exact iteF (h2 c (by simpa using hc) F' O H' σ _ (s.grow g) λv F2 H2 g2 r2=>k v F2 H2 (g.trans g2) r2)
theorem zN:Ea B sl md tNil (λ_:Unit=>[]) (some ()):=λa ha F O H σ Q s k=>k [] F H (.refl s.1) .nil
theorem zG {A:Type} {as:A->SL K} {ma:Option A} (h1:Ex B sl md t m) (h2:Ea B sl md tr as ma):Ea B sl md (xK t tr) (λx:α × A=>.fz false x.1 :: as x.2) (m.bind λa=>ma.bind λb=>some (a,b)):=λc hc F O H σ Q s k=>by
 cases m with
 | none=>cases hc
 | some a =>
  cases ma with
  | none=>cases hc
  | some b =>
   cases (show some (a,b) = some c from hc)
   refine h1 a rfl F O H σ _ s λv F' H' g r1=>?_
   refine h2 b rfl F' O H' σ _ (s.grow g) λvs F2 H2 g2 r2=>?_
   exact k (v :: vs) F2 H2 (g.trans g2) (.cons (Rp.mono (xG g2 md) r1) r2)
theorem zD4 (k:Ok B F O H) (h:H p = none) (md:Md):reg B (upd F p o) (upd H p o) md p = some o:=match md with
 | .nw=>by show dif (upd F p o) B.H0 p = _; rw [xU (k.h0.free h)]; exact zR
 | .fz=>zR
 | .hp=>zR
def cap:Nat:=100000
theorem zDj (h:n < cap):n < sizeLine:=Nat.lt_trans h (by decide)
theorem cap_le (h:n <= cap):n <= sizeLine:=Nat.le_trans h (by decide)
def El (B:Bs) (sl:SL K) (md:Md) (t:TA) {α:Type} [Rp K α] (m:Option (List α)):Prop :=
 ∀ a,m = some a->∀ (F:Hp) (O:Own) (H:Hp) (σ:St) (Q:List V->Hp->Prop),At B sl F O H σ->(∀ (vs:List V) (F' H':Hp),Grow B F H O F' H'->A2 (rp K (reg B F' H' md)) vs a->Q vs H')->t σ H Q
theorem zEw:El B sl md tNil (some ([]:List α)):=λa ha F O H σ Q s k=>by cases ha; exact k [] F H (.refl s.1) trivial
theorem wB (h1:Ex B sl md t m) (h2:El B sl md tr ma):El B sl md (xK t tr) (m.bind λa=>ma.bind λb=>some (a :: b)):=λc hc F O H σ Q s k=>by
 cases m with
 | none=>cases hc
 | some a =>
  cases ma with
  | none=>cases hc
  | some b =>
   cases (show some (a :: b) = some c from hc)
   refine h1 a rfl F O H σ _ s λv F' H' g r1=>?_
   refine h2 b rfl F' O H' σ _ (s.grow g) λvs F2 H2 g2 r2=>?_
   exact k (v :: vs) F2 H2 (g.trans g2) ⟨Rp.mono (xG g2 md) r1,r2⟩
def Eo (B:Bs) (sl:SL K) (md:Md) (t:TE) {α:Type} [Rp K α] (m:Option (List α)):Prop :=
 ∀ a,m = some a->∀ (F:Hp) (O:Own) (H:Hp) (σ:St) (Q:VK),At B sl F O H σ->(∀ (p:Addr) (vs:List V) (F' H':Hp),Grow B F H O F' H'->H' p = none->A2 (rp K (reg B F' H' md)) vs a->Q (.ref p) (upd H' p (.lst vs)))->t σ H Q
theorem Eo.ex {m:Option (List α)} (h:Eo B sl md t m):Ex B sl md t m:=λa ha F O H σ Q s k=>h a ha F O H σ Q s λp vs F' H' g hp r=>by
 have g2:=Grow.new g.ok hp (.lst vs)
 exact k _ _ _ (g.trans g2) ⟨p,vs,rfl,zD4 g.ok hp md,r.imp λ_ _=>Rp.mono (xG g2 md)⟩
theorem zA2:Eo B sl md (tLst tNil) (some ([]:List α)):=λa ha F O H σ Q s k=>by
 cases ha
 exact ⟨Nat.zero_le _,λp hp=>k p [] F H (.refl s.1) hp trivial⟩
theorem zEv {t:TA} {ma:Option (List α)} (h:El B sl md t ma) (hl:∀ a,ma = some a->a.length <= cap):Eo B sl md (tLst t) ma:=λa ha F O H σ Q s k =>
 h a ha F O H σ _ s λvs F' H' g r=>⟨by rw [r.len]; exact cap_le (hl a ha),λp hp=>k p vs F' H' g hp r⟩
theorem vK (h1:Ex B sl md t1 m1) (h2:Ex B sl md t2 m2):Ex B sl md (tTup (xK t1 (xK t2 tNil))) (m1.bind λa=>m2.bind λb=>some (a,b)):=λc hc F O H σ Q s kk=>by
 obtain ⟨a,b,ha,hb,hf⟩:=zDa hc
 cases hf
 refine h1 a ha F O H σ _ s λv F' H' g r1=>?_
 refine h2 b hb F' O H' σ _ (s.grow g) λw F2 H2 g2 r2=>?_
 refine ⟨by show 2 <= sizeLine; decide,λp hp=>?_⟩
 have g3:=Grow.new g2.ok hp (.tup [v,w])
 exact kk _ _ _ (g.trans (g2.trans g3)) ⟨p,v,w,rfl,zD4 g2.ok hp md,Rp.mono (xG (g2.trans g3) md) r1,Rp.mono (xG g3 md) r2⟩
def spF (K:PySem.W.Frag) (al:Bool) {A β:Type} [Rp K β] (as:A->SL K) (f:A->Option β):Sp:=λvs H Q _ =>
 ∃ a b Fa,Same Fa H /\ f a = some b /\ Ar Fa (as a) vs /\ ∀ v H',Same H H'->rp K (if al = true then ext Fa H H' else dif H' H) v b->Q v H'
theorem zL {A:Type} {as:A->SL K} {f:A->Option β} {ma:Option A} (h:Ea B sl .hp ta as ma):Ex B sl md (zQ5 (spF K false as f) [] E0 ta) (ma.bind f):=λc hc F O H σ Q s kk=>by
 cases ma with
 | none=>cases hc
 | some a =>
  refine h a rfl F O H σ _ s λvs F' H' g r=>?_
  rw [append_nil]
  refine ⟨a,c,H',.refl _,hc,r,λv H2 s2 r2=>?_⟩
  have g2:=g.ok.called s2
  refine kk v _ H2 (g.trans g2) ?_
  have r3:=Rp.mono (zJ6 (F:=F') g.ok.h0 s2) r2
  exact match md with
  | .nw=>r3
  | .fz=>Rp.mono dif_le r3
  | .hp=>Rp.mono (dif_le.trans g2.ok.fh) r3
end
def push {α:Type} (xs:List α) (a:α):Option (List α):=if xs.length < cap then some (xs ++ [a]) else none
def wJ (n:Int):Option LI:=if -(2 ^ 62) <= n /\ n < 2 ^ 62 then some ((List.range n.toNat).map Int.ofNat) else none
def xQ {S α:Type} (step:S->α->Option S):List α->S->Option S
 | [],s=>some s
 | x :: xs,s=>(step s x).bind λs'=>xQ step xs s'
inductive Out (S β:Type) | nx (s:S) | rt (b:β)
def vJ {S α β:Type} (step:S->α->Option (Out S β)):List α->S->Option (Out S β)
 | [],s=>some (.nx s)
 | x :: xs,s=>(step s x).bind λo=>match o with
  | .nx s'=>vJ step xs s'
  | .rt b=>some (.rt b)
def zDb {S:Type} (c:S->Option Bool) (body:S->Option S):Nat->S->Option S
 | 0,_=>none
 | k + 1,s=>(c s).bind λb=>if b = true then (body s).bind λs'=>zDb c body k s' else some s
def xR {α β:Type} (c:α->Option Bool) (f:α->Option β):List α->Option (List β)
 | []=>some []
 | x :: xs=>(c x).bind λb=>if b = true then (f x).bind λy=>(xR c f xs).bind λys=>some (y :: ys) else xR c f xs
def Out.els {S β:Type} (o:Out S β) (f:S->Option β):Option β:=match o with
 | .nx s=>f s
 | .rt b=>some b
def Out.thn {S S' β:Type} (o:Out S β) (f:S->Option (Out S' β)):Option (Out S' β):=match o with
 | .nx s=>f s
 | .rt b=>some (.rt b)
theorem zEq {S α:Type} (step:S->α->Option S):∀ (xs ys:List α) (s:S),xQ step (xs ++ ys) s = (xQ step xs s).bind λs'=>xQ step ys s'
 | [],ys,s=>rfl
 | x :: xs,ys,s=>by
  show (step s x).bind _ = ((step s x).bind _).bind _
  cases step s x with
  | none=>rfl
  | some s'=>exact zEq step xs ys s'
theorem zMy {S α:Type} {step:S->α->Option S} {xs:List α} {s s1:S} (h:xQ step xs s = some s1) {x:α} (hx:xs[i]? = some x):∃ a b,xQ step (xs.take i) s = some a /\ step a x = some b /\ xQ step (xs.take (i + 1)) s = some b:=by
 have e:xs = xs.take (i + 1) ++ xs.drop (i + 1):=(take_append_drop _ _).symm
 have e2:xs.take (i + 1) = xs.take i ++ [x]:=by rw [take_add_one,hx] <;> rfl
 rw [e,zEq] at h
 cases q:xQ step (xs.take (i + 1)) s with
 | none=>rw [q] at h; cases h
 | some b =>
  have q':=q
  rw [e2,zEq] at q'
  cases z:xQ step (xs.take i) s with
  | none=>rw [z] at q'; cases q'
  | some a =>
   rw [z] at q'
   have q2:(step a x).bind (λs'=>some s') = some b:=q'
   refine ⟨a,b,rfl,?_,rfl⟩
   cases w:step a x with
   | none=>rw [w] at q2; cases q2
   | some c=>rw [w] at q2; exact q2
section
variable {K:PySem.W.Frag} {B:Bs} {F H F' H' G:Hp} {O:Own} {sl sl2:SL K} {σ:St} {md:Md} {α β γ:Type} [Rp K α] [Rp K β] [Rp K γ] {t u v:TS} {te:TE} {m:Option α} {S S':Type} {al:Bool}
def Sg (B:Bs) (G:Hp) (sl:SL K) (σ:St) (H:Hp):Prop:=∃ F O,Same G F /\ At B sl F O H σ
def Rt (K:PySem.W.Frag) {β:Type} [Rp K β] (B:Bs) (al:Bool) (b:β) (v:V) (H':Hp):Prop:=Same B.H0 H' /\ rp K (if al = true then ext B.Fa B.H0 H' else dif H' B.H0) v b
def Sn (B:Bs) (sl:SL K) (t:TS) {S:Type} (L:S->SL K) (m:Option S):Prop :=
 ∀ a,m = some a->∀ (G:Hp) (D:Ends) (σ:St) (H:Hp),Sg B G sl σ H->(∀ σ' H',Sg B G (L a) σ' H'->D.nx σ' H')->t D σ H
def SB (B:Bs) (sl:SL K) (t:TS) (al:Bool) {β:Type} [Rp K β] (m:Option β):Prop :=
 ∀ b,m = some b->∀ (G:Hp) (D:Ends) (σ:St) (H:Hp),Sg B G sl σ H->(∀ v H',Rt K B al b v H'->D.rt v H')->t D σ H
def XE (B:Bs) (G:Hp) (al:Bool) (L:S->SL K) (D:Ends) (o:Out S β):Prop:=match o with
 | .nx s=>∀ σ' H',Sg B G (L s) σ' H'->D.nx σ' H'
 | .rt b=>∀ v H',Rt K B al b v H'->D.rt v H'
def Sx (B:Bs) (sl:SL K) (t:TS) (al:Bool) {S β:Type} [Rp K β] (L:S->SL K) (m:Option (Out S β)):Prop :=
 ∀ o,m = some o->∀ (G:Hp) (D:Ends) (σ:St) (H:Hp),Sg B G sl σ H->XE B G al L D o->t D σ H
theorem SB.of (h:SB B sl t al m) (q:m = m'):SB B sl t al m':=q ▸ h
theorem Sn.of (h:Sn B sl t L m) (q:m = m'):Sn B sl t L m':=q ▸ h
inductive Le:SL K->SL K->Prop
 | nil:Le [] []
 | eq {s:Slot K} {a b:SL K}:Le a b->Le (s :: a) (s :: b)
 | un {s:Slot K} {a b:SL K}:Le a b->Le (s :: a) (.un :: b)
 | fr {n:Bool} {α:Type} [Rp K α] {xs:List α} {a b:SL K}:Le a b->Le (.ow n xs :: a) (.fz n xs :: b)
 | old {α:Type} [Rp K α] {x:α} {a b:SL K}:Le a b->Le (.fz true x :: a) (.fz false x :: b)
theorem SlotsOk.le (h:Le sl sl2):∀ {F:Hp} {σ:St} {O:Own},Ok B F (P ++ O) H->SlotsOk B F (lo F (P ++ O) H) H sl σ O->∃ F' O',Same F F' /\ Ok B F' (P ++ O') H /\ Same (lo F (P ++ O) H) (lo F' (P ++ O') H) /\ SlotsOk B F' (lo F' (P ++ O') H) H sl2 σ O':=by
 induction h generalizing P with
 | nil=>intro F σ O k h; cases h; exact ⟨F,[],.refl _,k,.refl _,.nil⟩
 | eq _ ih =>
  intro F σ O k h
  cases h with
  | un h=>obtain ⟨F',O',a,b,c,d⟩:=ih k h; exact ⟨F',O',a,b,c,.un d⟩
  | fz r h=>obtain ⟨F',O',a,b,c,d⟩:=ih k h; exact ⟨F',O',a,b,c,.fz (Rp.mono (uI _ a) r) d⟩
  | hs r h=>obtain ⟨F',O',a,b,c,d⟩:=ih k h; exact ⟨F',O',a,b,c,.hs r d⟩
  | nu r h=>obtain ⟨F',O',a,b,c,d⟩:=ih k h; exact ⟨F',O',a,b,c,.nu (Rp.mono (wE c) r) d⟩
  | @ow _ _ _ _ _ _ O p vs r h =>
   have e:P ++ (p,HO.lst vs) :: O = (P ++ [(p,HO.lst vs)]) ++ O:=by simp
   rw [e] at k h
   obtain ⟨F',O',a,b,c,d⟩:=ih k h
   have e':(P ++ [(p,HO.lst vs)]) ++ O' = P ++ (p,HO.lst vs) :: O':=by simp
   rw [e'] at b c d
   rw [<- e] at c
   exact ⟨F',_ :: O',a,b,c,.ow (r.imp λ_ _=>Rp.mono (uI _ a)) d⟩
  | @od _ _ _ _ _ O p vs r h =>
   have e:P ++ (p,HO.dK vs) :: O = (P ++ [(p,HO.dK vs)]) ++ O:=by simp
   rw [e] at k h
   obtain ⟨F',O',a,b,c,d⟩:=ih k h
   have e':(P ++ [(p,HO.dK vs)]) ++ O' = P ++ (p,HO.dK vs) :: O':=by simp
   rw [e'] at b c d
   rw [<- e] at c
   exact ⟨F',_ :: O',a,b,c,.od (r.imp λ_ _ z=>⟨z.1,Rp.mono a z.2⟩) d⟩
 | un _ ih =>
  intro F σ O k h
  cases h with
  | un h=>obtain ⟨F',O',a,b,c,d⟩:=ih k h; exact ⟨F',O',a,b,c,.un d⟩
  | fz r h=>obtain ⟨F',O',a,b,c,d⟩:=ih k h; exact ⟨F',O',a,b,c,.un d⟩
  | hs r h=>obtain ⟨F',O',a,b,c,d⟩:=ih k h; exact ⟨F',O',a,b,c,.un d⟩
  | nu r h=>obtain ⟨F',O',a,b,c,d⟩:=ih k h; exact ⟨F',O',a,b,c,.un d⟩
  | ow r h=>obtain ⟨F',O',a,b,c,d⟩:=ih k.drop (h.mono (.refl _) lo_drop (.refl _)); exact ⟨F',O',a,b,lo_drop.trans c,.un d⟩
  | od r h=>obtain ⟨F',O',a,b,c,d⟩:=ih k.drop (h.mono (.refl _) lo_drop (.refl _)); exact ⟨F',O',a,b,lo_drop.trans c,.un d⟩
 | @fr n _ _ _ _ _ _ ih =>
  intro F σ O k h
  cases h with
  | @ow _ _ _ _ _ _ O p vs r h =>
   obtain ⟨a1,a2,a3⟩:=k.one
   have sf:Same F (upd F p (.lst vs)):=same_new a1 _
   obtain ⟨F',O',a,b,c,d⟩:=ih k.freeze (h.mono sf lo_freeze (.refl _))
   refine ⟨F',O',sf.trans a,b,lo_freeze.trans c,.fz ⟨p,vs,rfl,?_,r.imp λ_ _=>Rp.mono (uI _ (sf.trans a))⟩ d⟩
   cases n with
   | true=>exact (xU a2).trans (a _ _ zR)
   | false=>exact a _ _ zR
 | old _ ih =>
  intro F σ O k h
  cases h with
  | fz r h=>obtain ⟨F',O',a,b,c,d⟩:=ih k h; exact ⟨F',O',a,b,c,.fz (Rp.mono (dif_le.trans a) r) d⟩
theorem Sg.le (h:Sg B G sl σ H) (l:Le sl sl2):Sg B G sl2 σ H:=by
 obtain ⟨F,O,g,k,s⟩:=h
 obtain ⟨F',O',a,b,_,d⟩:=SlotsOk.le (P:=[]) l k s
 exact ⟨F',O',g.trans a,b,d⟩
theorem Sg.grow (g:Same G F) (h:At B sl F O' H σ) (gr:Grow B F H O' F' H'):Sg B G sl σ H':=⟨F',O',g.trans gr.ff,h.grow gr⟩
theorem yB (L:S->SL K) (s:S) (h:Le sl (L s)):Sn B sl zNu L (some s):=λa ha G D σ H q k=>by cases ha; exact k σ H (q.le h)
theorem zP {f:S->Option S'} (h1:Sn B sl t L m1) (h2:∀ s,Sn B (L s) u L' (f s)):Sn B sl (tSeq t u) L' (m1.bind f):=λa ha G D σ H q k=>by
 cases m1 with
 | none=>cases ha
 | some s=>exact h1 s rfl G _ σ H q λσ' H' q'=>h2 s a ha G D σ' H' q' k
theorem zM {f:S->Option β} (h1:Sn B sl t L m1) (h2:∀ s,SB B (L s) u al (f s)):SB B sl (tSeq t u) al (m1.bind f):=λa ha G D σ H q k=>by
 cases m1 with
 | none=>cases ha
 | some s=>exact h1 s rfl G _ σ H q λσ' H' q'=>h2 s a ha G D σ' H' q' k
theorem zDs {f:S->Option β} (h1:Sx B sl t al L m1) (h2:∀ s,SB B (L s) u al (f s)):SB B sl (tSeq t u) al (m1.bind λo=>o.els f):=λa ha G D σ H q k=>by
 cases m1 with
 | none=>cases ha
 | some o =>
  cases o with
  | nx s=>exact h1 _ rfl G _ σ H q λσ' H' q'=>h2 s a ha G D σ' H' q' k
  | rt b=>cases ha; exact h1 _ rfl G { D with nx:=u D } σ H q k
theorem zGc {f:S->Option (Out S' β)} (h1:Sx B sl t al L m1) (h2:∀ s,Sx B (L s) u al L' (f s)):Sx B sl (tSeq t u) al L' (m1.bind λo=>o.thn f):=λa ha G D σ H q k=>by
 cases m1 with
 | none=>cases ha
 | some o =>
  cases o with
  | nx s=>exact h1 _ rfl G _ σ H q λσ' H' q'=>h2 s a ha G D σ' H' q' k
  | rt b=>cases ha; exact h1 _ rfl G { D with nx:=u D } σ H q k
theorem zDc (L:S->SL K) (s:S) (h:Le sl (L s)):Sx B sl zNu al L (some (.nx s):Option (Out S β)):=λa ha G D σ H q k=>by cases ha; exact k σ H (q.le h)
theorem rt_of (k:Ok B F' O H') (n:Bool) {v:V} {b:β} (r:rp K (reg B F' H' (mdb n)) v b) (hn:n = !al):Rt K B al b v H':=by
 refine ⟨k.h0,?_⟩
 cases al with
 | false=>subst hn; exact Rp.mono (wE k.fh) r
 | true =>
  subst hn
  refine Rp.mono (λb o h=>?_) r
  have h:F' b = some o:=h
  show ext B.Fa B.H0 H' b = some o
  unfold ext
  cases q:B.H0 b with
  | none=>exact k.fh b o h
  | some u =>
   rcases k.fa b o h with z | z
   ·exact z
   ·rw [q] at z; cases z
theorem zX (h:Ex B sl (mdb !al) te m):SB B sl (tSeq (tRet te) u) al m:=λb hb G D σ H s k=>by
 obtain ⟨F,O,g,a⟩:=s
 exact h b hb F O H σ _ a λv F' H' gr r=>k v H' (rt_of gr.ok (!al) r rfl)
theorem dif_upd (h:F p = none):Same (dif F H0) (dif (upd F p o) H0):=wE (same_new h o)
theorem zGi {n:Bool} {xs:List α} (i:Nat) (hs:sl[i]? = some (.ow n xs)) (hn:n = !al):SB B sl (tSeq (tRet (tVar i)) u) al (some xs):=λb hb G D σ H s k=>by
 cases hb
 obtain ⟨F,O,g,a⟩:=s
 obtain ⟨O1,O2,p,vs,rfl,h1,h2,_⟩:=a.2.ow_at hs
 obtain ⟨a1,a2,a3⟩:=a.1.one
 refine ⟨_,h1,k _ H (rt_of a.1.freeze n ⟨p,vs,rfl,?_,h2.imp λ_ _=>Rp.mono ?_⟩ hn)⟩
 ·cases n with
  | true=>exact (xU a2).trans zR
  | false=>exact zR
 ·cases n with
  | true=>exact dif_upd a1
  | false=>exact same_new a1 _
theorem zBr (hc:Et B sl c n) (h1:Sn B sl t L m1) (h2:Sn B sl u L m2):Sn B sl (tIfS c t u) L (n.bind λb=>if b = true then m1 else m2):=λa ha G D σ H s k=>by
 cases n with
 | none=>cases ha
 | some b =>
  obtain ⟨F,O,g,z⟩:=s
  refine hc b rfl F O H σ _ z λF' H' gr=>?_
  cases b with
  | true=>exact iteT (h1 a (by simpa using ha) G D σ H' (Sg.grow g z gr) k)
  | false=>exact iteF (h2 a (by simpa using ha) G D σ H' (Sg.grow g z gr) k)
theorem sx_if {c:TT} {n:Option Bool} {L:S->SL K} {m1 m2:Option (Out S β)} (hc:Et B sl c n) (h1:Sx B sl t al L m1) (h2:Sx B sl u al L m2):Sx B sl (tIfS c t u) al L (n.bind λb=>if b = true then m1 else m2):=λa ha G D σ H s k=>by
 cases n with
 | none=>cases ha
 | some b =>
  obtain ⟨F,O,g,z⟩:=s
  refine hc b rfl F O H σ _ z λF' H' gr=>?_
  cases b with
  | true=>exact iteT (h1 a (by simpa using ha) G D σ H' (Sg.grow g z gr) k)
  | false=>exact iteF (h2 a (by simpa using ha) G D σ H' (Sg.grow g z gr) k)
theorem vZ {c:TT} {n:Option Bool} {m1 m2:Option β} (hc:Et B sl c n) (h1:SB B sl t al m1) (h2:SB B sl u al m2):SB B sl (tSeq (tIfS c t zNu) u) al (n.bind λb=>if b = true then m1 else m2):=λa ha G D σ H s k=>by
 cases n with
 | none=>cases ha
 | some b =>
  obtain ⟨F,O,g,z⟩:=s
  refine hc b rfl F O H σ _ z λF' H' gr=>?_
  cases b with
  | true=>exact iteT (h1 a (by simpa using ha) G _ σ H' (Sg.grow g z gr) k)
  | false=>exact iteF (h2 a (by simpa using ha) G D σ H' (Sg.grow g z gr) k)
theorem zDz {c:TT} {n:Option Bool} {m1:Option β} {L:S->SL K} {m2:Option (Out S β)} (hc:Et B sl c n) (h1:SB B sl t al m1) (h2:Sx B sl u al L m2) :
  Sx B sl (tSeq (tIfS c t zNu) u) al L (n.bind λb=>if b = true then m1.bind λb=>some (.rt b) else m2):=λa ha G D σ H s k=>by
 cases n with
 | none=>cases ha
 | some b =>
  obtain ⟨F,O,g,z⟩:=s
  refine hc b rfl F O H σ _ z λF' H' gr=>?_
  cases b with
  | true =>
   have e:=(show (m1.bind λb=>some (Out.rt b)) = some a by simpa using ha)
   cases m1 with
   | none=>cases e
   | some b=>cases e; exact iteT (h1 b rfl G _ σ H' (Sg.grow g z gr) k)
  | false=>exact iteF (h2 a (by simpa using ha) G D σ H' (Sg.grow g z gr) k)
theorem Sg.set {s:Slot K} {i:Nat} {n:Bool} {a:α} {v:V} {O:Own} (g:Same G F) (h:At B sl F O H σ) (hs:sl[i]? = some s) (ho:isOw s = false) (r:rp K (reg B F H (mdb n)) v a):Sg B G (sl.set i (.fz n a)) (σ.set i (some v)) H :=
 ⟨F,O,g,h.1,h.2.put (λ_ _ _ z=>.fz r z) hs ho⟩
theorem yJ (n:Bool) (i:Nat) (hs:sl[i]? = some s) (ho:isOw s = false) (h:Ex B sl (mdb n) te m):Sn B sl (tAsg te (zBc i)) (λa=>sl.set i (.fz n a)) m:=λa ha G D σ H s k=>by
 obtain ⟨F,O,g,z⟩:=s
 exact h a ha F O H σ _ z λv F' H' gr r=>k _ _ (Sg.set (g.trans gr.ff) (z.grow gr) hs ho r)
theorem zCv (h:Ex B sl md te m):Sn B sl (zHm te) (λ_=>sl) m:=λa ha G D σ H s k=>by
 obtain ⟨F,O,g,z⟩:=s
 exact h a ha F O H σ _ z λv F' H' gr r=>k _ _ (Sg.grow g z gr)
theorem At.own {s:Slot K} {i:Nat} {n:Bool} {xs:List α} {vs:List V} {p:Addr} (h:At B sl F O H σ) (hs:sl[i]? = some s) (ho:isOw s = false) (hp:H p = none) (r:A2 (rp K (reg B F H (mdb n))) vs xs) :
  ∃ O',At B (sl.set i (.ow n xs)) F O' (upd H p (.lst vs)) (σ.set i (some (.ref p))):=by
 obtain ⟨k,z0⟩:=h
 obtain ⟨O1,O2,rfl,z⟩:=z0.own (s':=.ow n xs) (x:=some (.ref p)) (c:=(p,.lst vs)) (λ_ _ _ z=>.ow r z) hs ho
 exact ⟨_,k.add hp,z.mono (.refl _) (zTq hp) (same_new hp _)⟩
theorem zA4 {s:Slot K} {m:Option (List α)} (n:Bool) (i:Nat) (hs:sl[i]? = some s) (ho:isOw s = false) (h:Eo B sl (mdb n) te m):Sn B sl (tAsg te (zBc i)) (λa=>sl.set i (.ow n a)) m:=λa ha G D σ H s k=>by
 obtain ⟨F,O,g,z⟩:=s
 refine h a ha F O H σ _ z λp vs F' H' gr hp r=>k _ _ ?_
 obtain ⟨O',z'⟩:=(z.grow gr).own hs ho hp r
 exact ⟨F',O',g.trans gr.ff,z'⟩
theorem zJe (i:Nat) (hs:sl[i]? = some s) (ho:isOw s = false):Sn B sl (tAsg zS5 (zBc i)) (λ_=>sl.set i (.od ([]:List (Key × α)))) (some ()):=λa ha G D σ H s k=>by
 obtain ⟨F,O,g,k0,z0⟩:=s
 intro p hp
 refine k _ _ ?_
 obtain ⟨O1,O2,rfl,z'⟩:=z0.own (s':=.od ([]:List (Key × α))) (x:=some (.ref p)) (c:=(p,.dK [])) (λ_ _ _ z=>.od trivial z) hs ho
 exact ⟨F,_,g,k0.add hp,z'.mono (.refl _) (zTq hp) (same_new hp _)⟩
theorem vO {α:Type}:∀ {l:List α} {i:Nat} {x:α},l[i]? = some x->l.set i x = l
 | [],_,_,h=>by simp at h
 | _ :: _,0,_,h=>by simp at h; subst h; rfl
 | _ :: l,i + 1,_,h=>congrArg _ (vO (l:=l) (i:=i) (by simpa using h))
theorem zHe {P:Slot K->Bool} (hs:P s = true):∀ {l:SL K} {i:Nat},l.all P = true->(l.set i s).all P = true
 | [],_,h=>h
 | _ :: _,0,h=>by rw [all_cons,Bool.and_eq_true] at h; rw [List.set_cons_zero,all_cons,Bool.and_eq_true]; exact ⟨hs,h.2⟩
 | _ :: l,i + 1,h=>by rw [all_cons,Bool.and_eq_true] at h; rw [List.set_cons_succ,all_cons,Bool.and_eq_true]; exact ⟨h.1,zHe hs h.2⟩
theorem At.chg {i:Nat} {n:Bool} {xs:List α} (h:At B sl F O H σ) (hs:sl[i]? = some (.ow n xs)) (hh:sl.all (λs=>!isHs s) = true):∃ p vs,σ[i]? = some (some (.ref p)) /\ H p = some (.lst vs) /\ A2 (rp K (reg B F H (mdb n))) vs xs /\
  ∀ (ws:List V) (ys:List α),A2 (rp K (reg B F H (mdb n))) ws ys->∃ O',At B (sl.set i (.ow n ys)) F O' (upd H p (.lst ws)) σ:=by
 obtain ⟨k,z0⟩:=h
 obtain ⟨O1,O2,p,vs,rfl,h1,h2,h3,_⟩:=z0.ow_at hs
 refine ⟨p,vs,h1,k.one.2.2,h2,λws ys r=>⟨_,k.chg (.lst ws),?_⟩⟩
 have z:=h3 (.ow n ys) (some (.ref p)) (p,.lst ws) λ_ _ _ z=>.ow r z
 rw [vO h1] at z
 exact z.mut zPc (zHe rfl hh)
theorem At.chgD (h:At B sl F O H σ) (hs:sl[i]? = some (.od kvs)) (hh:sl.all (λs=>!isHs s) = true):∃ p ks,σ[i]? = some (some (.ref p)) /\ H p = some (.dK ks) /\ A2 (λ(x:Key × V) (y:Key × α)=>x.1 = y.1 /\ rp K F x.2 y.2) ks kvs /\
  ∀ (ws:List (Key × V)) (ys:List (Key × α)),A2 (λ(x:Key × V) (y:Key × α)=>x.1 = y.1 /\ rp K F x.2 y.2) ws ys->∃ O',At B (sl.set i (.od ys)) F O' (upd H p (.dK ws)) σ:=by
 obtain ⟨k,z0⟩:=h
 obtain ⟨O1,O2,p,vs,rfl,h1,h2,h3,_⟩:=z0.od_at hs
 refine ⟨p,vs,h1,k.one.2.2,h2,λws ys r=>⟨_,k.chg (.dK ws),?_⟩⟩
 have z:=h3 (.od ys) (some (.ref p)) (p,.dK ws) λ_ _ _ z=>.od r z
 rw [vO h1] at z
 exact z.mut zPc (zHe rfl hh)
theorem xP (i:Nat) (hs:sl[i]? = some (.ow n xs)) (hh:sl.all (λs=>!isHs s) = true) (h:Ex B sl (mdb n) te m) :
  Sn B sl (zHm (tBM K "list" zD5 (tVar i) (xK te tNil))) (λys=>sl.set i (.ow n ys)) (m.bind λa=>push xs a):=λys ha G D σ H s k=>by
 cases m with
 | none=>cases ha
 | some a =>
  have ha':push xs a = some ys:=ha
  unfold push at ha'
  split at ha'
  case isFalse=>cases ha'
  rename_i hl
  cases ha'
  obtain ⟨F,O,g,z⟩:=s
  obtain ⟨p,vs,h1,h2,h3,_⟩:=z.chg hs hh
  refine ⟨_,h1,.inl ⟨rfl,_,SqL.of h2⟩,?_⟩
  refine h a rfl F O H σ _ z λv F' H' gr r=>?_
  obtain ⟨p',vs',h1',h2',h3',h4'⟩:=(z.grow gr).chg hs hh
  have e:=h1.symm.trans h1'
  cases e
  obtain ⟨O',z'⟩:=h4' (vs' ++ [v]) (xs ++ [a]) (h3'.snoc r)
  exact ⟨p,vs',v,rfl,rfl,h2',zDj (by rw [h3'.len]; exact hl),k _ _ ⟨F',O',g.trans gr.ff,z'⟩⟩
end
section
variable {K:PySem.W.Frag} {B:Bs} {F H F' H' G:Hp} {O:Own} {sl sl2:SL K} {σ:St} {md:Md} {α β γ:Type} [Rp K α] [Rp K β] [Rp K γ] {tb u v:TS} {te:TE} {m:Option α} {S S':Type} {al n:Bool}
theorem zCi {S α β:Type} (step:S->α->Option (Out S β)):∀ (xs ys:List α) (s:S),vJ step (xs ++ ys) s = (vJ step xs s).bind λo=>o.thn λs'=>vJ step ys s'
 | [],ys,s=>rfl
 | x :: xs,ys,s=>by
  show (step s x).bind _ = ((step s x).bind _).bind _
  cases step s x with
  | none=>rfl
  | some o =>
   cases o with
   | nx s'=>exact zCi step xs ys s'
   | rt b=>rfl
theorem zMw {S α β:Type} {step:S->α->Option (Out S β)} {xs:List α} {s a:S} {x:α} (h:vJ step (xs.take i) s = some (.nx a)) (hx:xs[i]? = some x):vJ step (xs.take (i + 1)) s = step a x:=by
 have e2:xs.take (i + 1) = xs.take i ++ [x]:=by rw [take_add_one,hx] <;> rfl
 rw [e2,zCi,h]
 show (step a x).bind _ = step a x
 cases step a x with
 | none=>rfl
 | some o=>cases o <;> rfl
theorem zPt {S α β:Type} {step:S->α->Option (Out S β)} {xs:List α} {s:S} {o:Out S β} {b:β} (h:vJ step xs s = some o) (hi:vJ step (xs.take i) s = some (.rt b)):o = .rt b:=by
 rw [<- take_append_drop i xs,zCi,hi] at h
 cases h
 rfl
theorem zMx {S α β:Type} {step:S->α->Option (Out S β)} {xs:List α} {s:S} {o:Out S β} (i:Nat) (h:vJ step xs s = some o):∃ o',vJ step (xs.take i) s = some o':=by
 rw [<- take_append_drop i xs,zCi] at h
 cases q:vJ step (xs.take i) s with
 | none=>rw [q] at h; cases h
 | some o'=>exact ⟨o',rfl⟩
def Yl (K:PySem.W.Frag) (B:Bs) (F':Hp) (n:Bool) (J:It) {α:Type} [Rp K α] (xs:List α):Prop:=∀ (i:Nat) (F2:Hp) (O2:Own) (H2:Hp),Same F' F2->Ok B F2 O2 H2 ->
 (xs.length <= i->J.stop i H2) /\ ∀ x,xs[i]? = some x->J.go i H2 /\ ∀ v H3,J.yld i H2 v H3->∃ F3,Grow B F2 H2 O2 F3 H3 /\ rp K (reg B F3 H3 (mdb n)) v x
def Ei (B:Bs) (sl:SL K) (n:Bool) (wi:TI) {α:Type} [Rp K α] (mi:Option (List α)):Prop :=
 ∀ xs,mi = some xs->∀ (F:Hp) (O:Own) (H:Hp) (σ:St) (R:It->Hp->Prop),At B sl F O H σ->(∀ (J:It) (F' H':Hp),Grow B F H O F' H'->Yl K B F' n J xs->R J H')->wi σ H R
def Tg (B:Bs) (sl:SL K) (n:Bool) (g:TG) {α:Type} [Rp K α] (L:α->SL K):Prop :=
 ∀ (v:V) (x:α) (F:Hp) (O:Own) (H:Hp) (σ:St) (Q:St->Hp->Prop),At B sl F O H σ->rp K (reg B F H (mdb n)) v x->(∀ σ',At B (L x) F O H σ'->Q σ' H)->g v σ H Q
theorem yG (i:Nat) (hs:sl[i]? = some s) (ho:isOw s = false):Tg B sl n (zBc i) (λx:α=>sl.set i (.fz n x)):=λv x F O H σ Q a r k=>k _ ⟨a.1,a.2.put (λ_ _ _ z=>.fz r z) hs ho⟩
theorem zNr (k:Ok B F O H) (h:reg B F H (mdb n) p = some o):H p = some o:=zFs k n p o h
theorem zAy (i j:Nat) (hs:sl[i]? = some s) (ho:isOw s = false) (hs':∀ x:Slot K,(sl.set i x)[j]? = some s') (ho':isOw s' = false) :
  Tg B sl n (gTup K 2 (zMv (zBc i) (zMv (zBc j) gNil))) (λx:α × β=>(sl.set i (.fz n x.1)).set j (.fz n x.2)):=λv x F O H σ Q a r k=>by
 obtain ⟨p,w1,w2,rfl,h1,h2,h3⟩:=r
 refine ⟨p,[w1,w2],rfl,.inl (.inl (zNr a.1 h1)),rfl,w1,[w2],rfl,w2,[],rfl,rfl,?_⟩
 exact k _ ⟨a.1,(a.2.put (s':=.fz n x.1) (λ_ _ _ z=>.fz h2 z) hs ho).put (λ_ _ _ z=>.fz h3 z) (hs' _) ho'⟩
theorem vC {L:S->SL K} {Lx:S->α->SL K} {step:S->α->Option S} (s0:S) (h0:Le sl (L s0)) (hi:Ei B (L s0) n wi mi) (hg:∀ s,Tg B (L s) n g (Lx s)) (hb:∀ s x,Sn B (Lx s x) tb L (step s x)) :
  Sn B sl (tFor wi g tb) L (mi.bind λxs=>xQ step xs s0):=λs1 hs1 G D σ H q k=>by
 cases mi with
 | none=>cases hs1
 | some xs =>
  have hs1:xQ step xs s0 = some s1:=hs1
  obtain ⟨F,O,g0,a⟩:=q.le h0
  refine hi xs rfl F O H σ _ a λJ F' H' gr yl=>?_
  refine ⟨λi m σ H=>m = xs.length - i /\ i <= xs.length /\ ∃ s,xQ step (xs.take i) s0 = some s /\ Sg B F' (L s) σ H,⟨xs.length,rfl,Nat.zero_le _,s0,rfl,F',O,.refl _,a.grow gr⟩,?_⟩
  rintro i m σ H ⟨rfl,hil,s,hs,F2,O2,sf,a2⟩
  obtain ⟨y1,y2⟩:=yl i F2 O2 H sf a2.1
  by_cases hlt:i < xs.length
  ·obtain ⟨go,y3⟩:=y2 xs[i] (List.getElem?_eq_getElem hlt)
   obtain ⟨s',s'',e1,e2,e3⟩:=zMy hs1 (List.getElem?_eq_getElem hlt)
   rw [hs] at e1
   cases e1
   refine .inr ⟨go,Sg B F' (L s''),λσ' H' z=>⟨xs.length - (i + 1),by omega,rfl,hlt,s'',e3,z⟩,λv H3 yd=>?_⟩
   obtain ⟨F3,g3,r3⟩:=y3 v H3 yd
   exact hg s v xs[i] F3 O2 H3 σ _ (a2.grow g3) r3 λσ' a'=>hb s xs[i] s'' e2 F' _ σ' H3 ⟨F3,O2,sf.trans g3.ff,a'⟩ λσ2 H2 z=>z
  ·have e:i = xs.length:=by omega
   subst e
   rw [take_length,hs1] at hs
   cases hs
   exact .inl ⟨y1 (Nat.le_refl _),k σ H ⟨F2,O2,(g0.trans gr.ff).trans sf,a2⟩⟩
theorem zFp {L:S->SL K} {Lx:S->α->SL K} {step:S->α->Option (Out S β)} (s0:S) (h0:Le sl (L s0)) (hi:Ei B (L s0) n wi mi) (hg:∀ s,Tg B (L s) n g (Lx s)) (hb:∀ s x,Sx B (Lx s x) tb al L (step s x)) :
  Sx B sl (tFor wi g tb) al L (mi.bind λxs=>vJ step xs s0):=λo ho G D σ H q k=>by
 cases mi with
 | none=>cases ho
 | some xs =>
  have ho:vJ step xs s0 = some o:=ho
  obtain ⟨F,O,g0,a⟩:=q.le h0
  refine hi xs rfl F O H σ _ a λJ F' H' gr yl=>?_
  refine ⟨λi m σ H=>m = xs.length - i /\ i <= xs.length /\ ∃ s,vJ step (xs.take i) s0 = some (.nx s) /\ Sg B F' (L s) σ H,⟨xs.length,rfl,Nat.zero_le _,s0,rfl,F',O,.refl _,a.grow gr⟩,?_⟩
  rintro i m σ H ⟨rfl,hil,s,hs,F2,O2,sf,a2⟩
  obtain ⟨y1,y2⟩:=yl i F2 O2 H sf a2.1
  by_cases hlt:i < xs.length
  ·obtain ⟨go,y3⟩:=y2 xs[i] (List.getElem?_eq_getElem hlt)
   have e2:=zMw hs (List.getElem?_eq_getElem hlt)
   obtain ⟨o',e3⟩:=zMx (i + 1) ho
   refine .inr ⟨go,λσ H=>∃ s',o' = .nx s' /\ Sg B F' (L s') σ H,λσ' H' ⟨s',e,z⟩=>⟨xs.length - (i + 1),by omega,rfl,hlt,s',by rw [e3,e],z⟩,λv H3 yd=>?_⟩
   obtain ⟨F3,g3,r3⟩:=y3 v H3 yd
   refine hg s v xs[i] F3 O2 H3 σ _ (a2.grow g3) r3 λσ' a'=>hb s xs[i] o' (by rw [<- e2,e3]) F' _ σ' H3 ⟨F3,O2,sf.trans g3.ff,a'⟩ ?_
   cases o' with
   | nx s'=>exact λσ2 H2 z=>⟨s',rfl,z⟩
   | rt b =>
    have:=zPt ho e3
    subst this
    exact k
  ·have e:i = xs.length:=by omega
   subst e
   rw [take_length,ho] at hs
   cases hs
   exact .inl ⟨y1 (Nat.le_refl _),k σ H ⟨F2,O2,(g0.trans gr.ff).trans sf,a2⟩⟩
theorem zRb {L:S->SL K} {cM:S->Option Bool} {bM:S->Option S} (fuel:Nat) (s0:S) (h0:Le sl (L s0)) (hc:∀ s,Et B (L s) c (cM s)) (hb:∀ s,Sn B (L s) tb L (bM s)):Sn B sl (zS2 c tb) L (zDb cM bM fuel s0):=λs1 hs1 G D σ H q k=>by
 refine ⟨λm σ H=>∃ s,zDb cM bM m s = some s1 /\ Sg B G (L s) σ H,⟨fuel,s0,hs1,q.le h0⟩,?_⟩
 rintro m σ H ⟨s,hs,F,O,g,a⟩
 cases m with
 | zero=>cases hs
 | succ m =>
  have hs:((cM s).bind λb=>if b = true then (bM s).bind λs'=>zDb cM bM m s' else some s) = some s1:=hs
  cases e:cM s with
  | none=>rw [e] at hs; cases hs
  | some b =>
   rw [e] at hs
   refine hc s b e F O H σ _ a λF' H' gr=>?_
   cases b with
   | true =>
    have hs:((bM s).bind λs'=>zDb cM bM m s') = some s1:=by simpa using hs
    cases e2:bM s with
    | none=>rw [e2] at hs; cases hs
    | some s' =>
     rw [e2] at hs
     exact iteT ⟨Sg B G (L s'),λσ' H' z=>⟨m,Nat.lt_succ_self _,s',hs,z⟩,hb s s' e2 G _ σ H' (Sg.grow g a gr) λ_ _ z=>z⟩
   | false =>
    have hs:some s = some s1:=by simpa using hs
    cases hs
    exact iteF (k σ H' (Sg.grow g a gr))
theorem xC {mi:Option (List α)} (h:Ex B sl (mdb n) te mi):Ei B sl n (iList K te) mi:=λxs hx F O H σ R a k=>by
 refine h xs hx F O H σ _ a λv F' H' gr r=>?_
 obtain ⟨p,vs,rfl,h1,h2⟩:=r
 refine ⟨p,rfl,⟨vs,SqL.of (zFs gr.ok n p _ h1)⟩,k _ F' H' gr λi F2 O2 H2 sf k2=>?_⟩
 have hq:SqL K H2 p vs:=SqL.of (k2.fh _ _ (sf _ _ (by cases n with | true=>exact dif_le _ _ h1 | false=>exact h1)))
 refine ⟨λhl=>⟨vs,hq,by rw [h2.len]; exact hl⟩,λx hx=>?_⟩
 obtain ⟨w,hw,rw⟩:=h2.at2 hx
 refine ⟨⟨vs,w,hq,hw⟩,λv H3 yd=>?_⟩
 obtain ⟨e,y⟩:=yd
 subst e
 have:=(hw.symm.trans (y vs hq))
 cases this
 exact ⟨F2,.refl k2,Rp.mono (uI n sf) rw⟩
theorem zGk {k i:Nat} {x:Int} (h:((List.range k).map Int.ofNat)[i]? = some x):i < k /\ x = i:=by
 rw [getElem?_map] at h
 by_cases q:i < k
 ·rw [getElem?_range q] at h; cases h; exact ⟨q,rfl⟩
 ·rw [List.getElem?_eq_none (by rw [length_range]; omega)] at h; cases h
theorem wD (h:Ex B sl .hp te mi):Ei B sl n (iRng1 (xK te tNil)) (mi.bind wJ):=λxs hx F O H σ R a k=>by
 cases mi with
 | none=>cases hx
 | some j =>
  have hx:wJ j = some xs:=hx
  unfold wJ at hx
  split at hx
  case isFalse=>cases hx
  rename_i hb
  cases hx
  refine h j rfl F O H σ _ a λv F' H' gr r=>?_
  cases r
  refine ⟨j,rfl,hb.1,hb.2,k _ F' H' gr λi F2 O2 H2 sf k2=>⟨λhl=>?_,λx hx=>?_⟩⟩
  ·rw [length_map,length_range] at hl; exact hl
  ·obtain ⟨h1,rfl⟩:=zGk hx
   refine ⟨h1,λv H3 yd=>?_⟩
   obtain ⟨rfl,rfl⟩:=yd
   exact ⟨F2,.refl k2,by show V.int (0 + (i:Int)) = V.int i; rw [Int.zero_add]⟩
def zC5 {α:Type} (xs:List α):List (Int × α):=((List.range xs.length).map Int.ofNat).zip xs
theorem uF {α:Type} {xs:List α} {i:Nat} {x:Int × α} (h:(zC5 xs)[i]? = some x):x.1 = i /\ xs[i]? = some x.2:=by
 unfold zC5 at h
 rw [List.getElem?_zip_eq_some] at h
 exact ⟨(zGk h.1).2,h.2⟩
theorem zAo {α:Type} (xs:List α):(zC5 xs).length = xs.length:=by unfold zC5; simp
theorem zEx {mi:Option (List α)} (h:Ex B sl (mdb n) te mi):Ei B sl n (iEnum K (xK te tNil)) (mi.bind λxs=>some (zC5 xs)):=λxs hx F O H σ R a k=>by
 cases mi with
 | none=>cases hx
 | some zs =>
  cases (show some (zC5 zs) = some xs from hx)
  refine h zs rfl F O H σ _ a λv F' H' gr r=>?_
  obtain ⟨p,vs,rfl,h1,h2⟩:=r
  refine ⟨p,rfl,⟨vs,SqL.of (zFs gr.ok n p _ h1)⟩,k _ F' H' gr λi F2 O2 H2 sf k2=>?_⟩
  have hq:SqL K H2 p vs:=SqL.of (k2.fh _ _ (sf _ _ (by cases n with | true=>exact dif_le _ _ h1 | false=>exact h1)))
  refine ⟨λhl=>⟨vs,hq,by rw [h2.len,<- zAo]; exact hl⟩,λx hx=>?_⟩
  obtain ⟨e1,e2⟩:=uF hx
  obtain ⟨w,hw,rw⟩:=h2.at2 e2
  refine ⟨⟨vs,w,hq,hw⟩,λv H3 yd=>?_⟩
  obtain ⟨t,x',rfl,ht,rfl,y⟩:=yd
  have:=(hw.symm.trans (y vs hq))
  cases this
  have g3:=Grow.new k2 ht (.tup [.int i,w])
  refine ⟨_,g3,t,.int i,w,rfl,?_,?_,Rp.mono (uI n (sf.trans g3.ff)) rw⟩
  ·exact zD4 k2 ht (mdb n)
  ·rw [e1]; rfl
def xM {α β:Type} (c:α->Option Bool) (f:α->Option β) (xs:List α):Option (List β):=if xs.length < cap then xR c f xs else none
theorem zCn {α β:Type} (c:α->Option Bool) (f:α->Option β):∀ (xs ys:List α),xR c f (xs ++ ys) = (xR c f xs).bind λa=>(xR c f ys).bind λb=>some (a ++ b)
 | [],ys=>by
  rw [nil_append]
  show xR c f ys = (xR c f ys).bind λb=>some ([] ++ b)
  cases xR c f ys <;> rfl
 | x :: xs,ys=>by
  show (c x).bind _ = ((c x).bind _).bind _
  cases c x with
  | none=>rfl
  | some b =>
   cases b with
   | true =>
    show (f x).bind _ = ((f x).bind _).bind _
    cases f x with
    | none=>rfl
    | some y =>
     show (xR c f (xs ++ ys)).bind _ = ((xR c f xs).bind _).bind _
     rw [zCn c f xs ys]
     cases xR c f xs with
     | none=>rfl
     | some a =>
      show ((xR c f ys).bind _).bind _ = (xR c f ys).bind _
      cases xR c f ys <;> rfl
   | false=>exact zCn c f xs ys
theorem zEy {α β:Type} (c:α->Option Bool) (f:α->Option β):∀ {xs:List α} {ys:List β},xR c f xs = some ys->ys.length <= xs.length
 | [],ys,h=>by cases h; exact Nat.le_refl _
 | x :: xs,ys,h=>by
  have h:((c x).bind λb=>if b = true then (f x).bind λy=>(xR c f xs).bind λys=>some (y :: ys) else xR c f xs) = some ys:=h
  cases e:c x with
  | none=>rw [e] at h; cases h
  | some b =>
   rw [e] at h
   cases b with
   | true =>
    have h:((f x).bind λy=>(xR c f xs).bind λys=>some (y :: ys)) = some ys:=by simpa using h
    cases e2:f x with
    | none=>rw [e2] at h; cases h
    | some y =>
     rw [e2] at h
     cases e3:xR c f xs with
     | none=>rw [e3] at h; cases h
     | some zs =>
      rw [e3] at h
      cases h
      exact Nat.succ_le_succ (zEy c f e3)
   | false =>
    have h:xR c f xs = some ys:=by simpa using h
    exact Nat.le_succ_of_le (zEy c f h)
theorem zM4 {α β:Type} {c:α->Option Bool} {f:α->Option β} {xs:List α} {zs:List β} (i:Nat) (h:xR c f xs = some zs):∃ ys,xR c f (xs.take i) = some ys:=by
 rw [<- take_append_drop i xs,zCn] at h
 cases q:xR c f (xs.take i) with
 | none=>rw [q] at h; cases h
 | some o'=>exact ⟨o',rfl⟩
theorem zM5 {α β:Type} {c:α->Option Bool} {f:α->Option β} {xs:List α} {zs ys:List β} {x:α} (h:xR c f (xs.take (i + 1)) = some zs) (hy:xR c f (xs.take i) = some ys) (hx:xs[i]? = some x) :
  (c x = some false /\ zs = ys) \/ ∃ y,c x = some true /\ f x = some y /\ zs = ys ++ [y]:=by
 have e2:xs.take (i + 1) = xs.take i ++ [x]:=by rw [take_add_one,hx] <;> rfl
 rw [e2,zCn,hy] at h
 have h:(((c x).bind λb=>if b = true then (f x).bind λy=>some [y] else some []).bind λb=>some (ys ++ b)) = some zs:=h
 cases e:c x with
 | none=>rw [e] at h; cases h
 | some b =>
  rw [e] at h
  cases b with
  | true =>
   have h:(((f x).bind λy=>some [y]).bind λb=>some (ys ++ b)) = some zs:=by simpa using h
   cases e2:f x with
   | none=>rw [e2] at h; cases h
   | some y=>rw [e2] at h; cases h; exact .inr ⟨y,rfl,rfl,rfl⟩
  | false =>
   have h:some (ys ++ []) = some zs:=by simpa using h
   rw [append_nil] at h
   cases h
   exact .inl ⟨rfl,rfl⟩
abbrev capS:Slot K->Slot K
 | .un=>.un
 | @Slot.fz _ n _ i a=>@Slot.fz _ n _ i a
 | @Slot.hs _ _ i a=>@Slot.hs _ _ i a
 | @Slot.nu _ _ i a=>@Slot.hs _ _ i a
 | @Slot.ow _ _ _ i xs=>@Slot.hs _ _ _ xs
 | @Slot.od _ _ _ _=>.un
theorem Grow.lift (k:Ok B F O H) (g:Grow B F H [] F' H'):Grow B F H O F' H' :=
 ⟨g.ff,g.hh,⟨g.ok.fh,g.ok.h0,g.ok.fa,λx hx=>by
  obtain ⟨a1,a2,a3⟩:=k.fo x hx
  exact ⟨g.nw _ a1 (by rw [a3]; intro z; cases z),a2,g.hh _ _ a3⟩,k.nd⟩,g.nw⟩
theorem Ok.nil (k:Ok B F O H):Ok B F [] H:=⟨k.fh,k.h0,k.fa,λx hx=>(by cases hx),(by simp)⟩
theorem SlotsOk.one (a:At B sl F O H σ) (L:Hp) (j:Nat) (hs:sl[j]? = some s):∀ {sl':SL K} {σ':St},SlotsOk B F L H sl' σ' []->SlotsOk B F L H (capS s :: sl') ((σ[j]?).getD none :: σ') []:=λ{sl' σ'} h=>by
 cases s with
 | un=>exact .un h
 | fz n b=>obtain ⟨v,h1,h2⟩:=a.2.fz_at hs; rw [h1]; exact .fz h2 h
 | hs b=>obtain ⟨v,h1,h2⟩:=a.2.hs_at hs; rw [h1]; exact .hs h2 h
 | nu b=>obtain ⟨v,h1,h2⟩:=a.2.nu_at hs; rw [h1]; exact .hs (Rp.mono (dif_le.trans zR5) h2) h
 | ow n xs =>
  obtain ⟨k,z0⟩:=a
  obtain ⟨O1,O2,p,vs,rfl,h1,h2,_⟩:=z0.ow_at hs
  rw [h1]
  exact .hs ⟨p,vs,rfl,k.one.2.2,h2.imp λ_ _=>Rp.mono (zFs k n)⟩ h
 | od kvs=>exact .un h
def slIn (sl:SL K) (n:Nat) (ix:List Nat):SL K:=replicate n .un ++ ix.map λj=>capS ((sl[j]?).getD .un)
theorem slIn_ok (a:At B sl F O H σ) (L:Hp) (n:Nat):∀ (ix:List Nat),(∀ j ∈ ix,j < sl.length)->SlotsOk B F L H (slIn sl n ix) (σIn σ n ix) []:=λix hix=>by
 unfold slIn σIn
 induction n with
 | zero =>
  show SlotsOk B F L H ([] ++ _) ([] ++ _) []
  rw [nil_append,nil_append]
  induction ix with
  | nil=>exact .nil
  | cons j ix ih =>
   rw [map_cons,map_cons]
   have hl:=hix j mem_cons_self
   have hj:sl[j]? = some sl[j]:=List.getElem?_eq_getElem hl
   have z:=SlotsOk.one a L j hj (ih λk hk=>hix k (mem_cons_of_mem _ hk))
   rw [show (sl[j]?).getD .un = sl[j] by rw [hj] <;> rfl]
   exact z
 | succ n ih=>exact .un ih
inductive Le0:SL K->SL K->Prop
 | nil:Le0 [] []
 | eq {s:Slot K} {a b:SL K}:Le0 a b->Le0 (s :: a) (s :: b)
 | un {s:Slot K} {a b:SL K}:Le0 a b->Le0 (s :: a) (.un :: b)
theorem SlotsOk.le0 (l:Le0 sl sl2):∀ {σ:St},SlotsOk B F L H sl σ []->SlotsOk B F L H sl2 σ []:=by
 induction l with
 | nil=>intro σ h; exact h
 | eq _ ih =>
  intro σ h
  cases h with
  | un h=>exact .un (ih h)
  | fz r h=>exact .fz r (ih h)
  | hs r h=>exact .hs r (ih h)
  | nu r h=>exact .nu r (ih h)
 | un _ ih =>
  intro σ h
  cases h with
  | un h=>exact .un (ih h)
  | fz r h=>exact .un (ih h)
  | hs r h=>exact .un (ih h)
  | nu r h=>exact .un (ih h)
theorem wA {c:α->Option Bool} {f:α->Option β} {ix:List Nat} (hix:(ix.all λj=>decide (j < sl.length)) = true) (hI:slI = slIn sl no ix)
  (hi:Ei B sl n wi mi) (hg:Tg B slI n g Lx) (hc:∀ x,Et B (Lx x) tc (c x)) (he:∀ x,Ex B (Lx x) md te (f x)) (hle:∀ x,Le0 (Lx x) slI) :
  Eo B sl md (zQ4 no ix wi g tc te) (mi.bind λxs=>xM c f xs):=λzs hz F O H σ Q a k=>by
 cases mi with
 | none=>cases hz
 | some xs =>
  have hz:xM c f xs = some zs:=hz
  unfold xM at hz
  split at hz
  case isFalse=>cases hz
  rename_i hcap
  have hcl:=zDj hcap
  refine hi xs rfl F O H σ _ a λJ F' H' gr yl=>?_
  have a':=a.grow gr
  refine ⟨λi m ys σ2 H2=>m = xs.length - i /\ i <= xs.length /\ ∃ (F2:Hp) (ws:List β),xR c f (xs.take i) = some ws /\ Grow B F' H' O F2 H2 /\ SlotsOk B F2 (lo F2 [] H2) H2 slI σ2 [] /\ A2 (rp K (reg B F2 H2 md)) ys ws,
   ⟨xs.length,rfl,Nat.zero_le _,F',[],rfl,.refl a'.1,?_,trivial⟩,?_⟩
  ·rw [hI]
   exact slIn_ok a' _ no ix λj hj=>by simpa using (all_eq_true.mp hix) j hj
  rintro i m ys σ2 H2 ⟨rfl,hil,F2,ws,hw,g2,s2,r2⟩
  have hyl:ys.length <= xs.length:=by
   rw [r2.len]
   exact Nat.le_trans (zEy c f hw) (by rw [length_take]; omega)
  obtain ⟨y1,y2⟩:=yl i F2 O H2 g2.ff g2.ok
  by_cases hlt:i < xs.length
  ·obtain ⟨go,y3⟩:=y2 xs[i] (List.getElem?_eq_getElem hlt)
   obtain ⟨ws',hw'⟩:=zM4 (i + 1) hz
   refine .inr ⟨go,by omega,λys σ2 H2=>∃ (F2:Hp),Grow B F' H' O F2 H2 /\ SlotsOk B F2 (lo F2 [] H2) H2 slI σ2 [] /\ A2 (rp K (reg B F2 H2 md)) ys ws',λys' σ' H' ⟨F3,z1,z2,z3⟩=>⟨xs.length - (i + 1),by omega,rfl,hlt,F3,ws',hw',z1,z2,z3⟩,λv H3 yd=>?_⟩
   obtain ⟨F3,g3,r3⟩:=y3 v H3 yd
   have g23:=g2.trans g3
   have at3:At B slI F3 [] H3 σ2:=⟨g3.ok.nil,s2.mono g3.ff (zPb ⟨g3.ff,g3.hh,g3.ok.nil,g3.nw⟩) g3.hh⟩
   refine hg v xs[i] F3 [] H3 σ2 _ at3 r3 λσ4 a4=>?_
   have back:∀ {F5 H5:Hp},Grow B F3 H3 [] F5 H5->Grow B F' H' O F5 H5 /\ SlotsOk B F5 (lo F5 [] H5) H5 slI σ4 []:=λ{F5 H5} g5=>⟨g23.trans (Grow.lift g3.ok g5),(a4.grow g5).2.le0 (hle xs[i])⟩
   rcases zM5 hw' hw (List.getElem?_eq_getElem hlt) with ⟨e1,rfl⟩ | ⟨y,e1,e2,rfl⟩
   ·refine hc xs[i] false e1 F3 [] H3 σ4 _ a4 λF5 H5 g5=>iteF ?_
    obtain ⟨z1,z2⟩:=back g5
    exact ⟨F5,z1,z2,r2.imp λ_ _=>Rp.mono (xG (g3.trans (Grow.lift g3.ok g5)) md)⟩
   ·refine hc xs[i] true e1 F3 [] H3 σ4 _ a4 λF5 H5 g5=>iteT ?_
    refine he xs[i] y e2 F5 [] H5 σ4 _ (a4.grow g5) λw F6 H6 g6 r6=>?_
    obtain ⟨z1,z2⟩:=back (g5.trans g6)
    exact ⟨F6,z1,z2,(r2.imp λ_ _=>Rp.mono (xG (g3.trans (Grow.lift g3.ok (g5.trans g6))) md)).snoc r6⟩
  ·have e:i = xs.length:=by omega
   subst e
   rw [take_length,hz] at hw
   cases hw
   exact .inl ⟨y1 (Nat.le_refl _),by omega,λp hp=>k p ys F2 H2 (gr.trans g2) hp r2⟩
abbrev isF:Slot K->Bool
 | @Slot.fz _ false _ _ _=>true
 | _=>false
theorem zD3 {as:SL K} (k:Nat) (hf:as.all isF = true) (r:Ar F as vs):SlotsOk ⟨F,H⟩ F L' H (as ++ replicate k .un) (vs.map some ++ replicate k none) []:=by
 induction r with
 | nil =>
  show SlotsOk _ _ _ _ ([] ++ _) ([] ++ _) []
  rw [nil_append,nil_append]
  induction k with
  | zero=>exact .nil
  | succ k ih=>exact .un ih
 | @cons n _ _ _ _ _ _ r _ ih =>
  rw [all_cons,Bool.and_eq_true] at hf
  cases n with
  | false=>exact .fz r (ih hf.2)
  | true=>exact absurd hf.1 (by simp)
theorem Ar.len (r:Ar F as vs):vs.length = as.length:=by
 induction r with
 | nil=>rfl
 | cons _ _ ih=>rw [length_cons,length_cons,ih]
theorem zQ8 {A:Type} {as:A->SL K} {f:A->Option β} {N:List Str} (hf:∀ a,(as a).all isF = true) (hl:∀ a,(as a).length = np)
  (hb:∀ Fa a,SB ⟨Fa,H⟩ (as a ++ replicate (N.length - np) .un) t al (f a)) (h:spF K al as f vs H Q E):t { nx:=λ_ H'=>Q .non H',rt:=Q } (L2.start N vs) H:=by
 obtain ⟨a,b,Fa,s,hfa,r,q⟩:=h
 have e:L2.start N vs = vs.map some ++ replicate (N.length - np) none:=by
  unfold L2.start
  rw [r.len,hl]
 rw [e]
 refine hb Fa a b hfa Fa _ _ H ⟨Fa,[],.refl _,⟨s,.refl _,λb o h=>.inl h,λx hx=>(by cases hx),(by simp)⟩,zD3 _ (hf a) r⟩ (λv H' z=>q v H' z.1 z.2)
theorem zS8 {A:Type} {as:A->SL K} {f:A->Option β} (hl:∀ a,(as a).length = np) (h:spF K al as f vs H Q E):vs.length = np:=by
 obtain ⟨a,b,Fa,s,hfa,r,q⟩:=h
 rw [r.len,hl]
end
open PySem.SeqAt (EqAt RcAt RcNeAt)
class Eqv (K:PySem.W.Frag) (α:Type) [Rp K α] [DecidableEq α] where
 dep:Nat
 det:∀ {H:Hp} {v:V} {a b:α},rp K H v a->rp K H v b->a = b
 eqA:∀ {X:Cx} {pins:List (Addr × Obj)} {σ:St} {H:Hp} {s:Shared},Inv X pins σ H s->∀ {A:Around},A.units + dep < cLine->∀ {v w:V} {u u':Value} {a b:α},rp K H v a->rp K H w b->RelV v u->RelV w u'->EqAt A s u u' (decide (a = b))
 rcA:∀ {X:Cx} {pins:List (Addr × Obj)} {σ:St} {H:Hp} {s:Shared},Inv X pins σ H s->∀ {A:Around},A.units + dep < cLine->∀ {v w:V} {u u':Value} {a b:α},rp K H v a->rp K H w b->RelV v u->RelV w u'->RcAt A s u u' (decide (a = b))
 neA:∀ {X:Cx} {pins:List (Addr × Obj)} {σ:St} {H:Hp} {s:Shared},Inv X pins σ H s->∀ {A:Around},A.units + dep < cLine->∀ {v w:V} {u u':Value} {a b:α},rp K H v a->rp K H w b->RelV v u->RelV w u'->RcNeAt A s u u' (!decide (a = b))
section
variable {K:PySem.W.Frag}
theorem beqd {α:Type} [BEq α] [LawfulBEq α] [DecidableEq α] (a b:α):(a == b) = decide (a = b):=by
 by_cases h:a = b
 ·subst h; simp
 ·simp [h]
instance:Eqv K Int where
 dep:=0
 det h1 h2:=by cases h1; cases h2; rfl
 eqA _ _ _ _ _ _ _ _ _ h1 h2 r1 r2:=by cases h1; cases h2; obtain ⟨t,rfl⟩:=r1; obtain ⟨t',rfl⟩:=r2; rw [<- beqd]; exact EqAt.int_int _ _ _ _
 rcA _ _ _ _ _ _ _ _ _ h1 h2 r1 r2:=by cases h1; cases h2; obtain ⟨t,rfl⟩:=r1; obtain ⟨t',rfl⟩:=r2; rw [<- beqd]; exact RcAt.int_int _ _ _ _
 neA _ _ _ _ _ _ _ _ _ h1 h2 r1 r2:=by cases h1; cases h2; obtain ⟨t,rfl⟩:=r1; obtain ⟨t',rfl⟩:=r2; rw [<- beqd]; exact RcNeAt.int_int _ _ _ _
instance:Eqv K Str where
 dep:=0
 det h1 h2:=by cases h1; cases h2; rfl
 eqA _ _ _ _ _ _ _ _ _ h1 h2 r1 r2:=by cases h1; cases h2; obtain ⟨t,rfl⟩:=r1; obtain ⟨t',rfl⟩:=r2; rw [<- beqd]; exact EqAt.str_str _ _ _ _
 rcA _ _ _ _ _ _ _ _ _ h1 h2 r1 r2:=by cases h1; cases h2; obtain ⟨t,rfl⟩:=r1; obtain ⟨t',rfl⟩:=r2; rw [<- beqd]; exact RcAt.str_str _ _ _ _
 neA _ _ _ _ _ _ _ _ _ h1 h2 r1 r2:=by cases h1; cases h2; obtain ⟨t,rfl⟩:=r1; obtain ⟨t',rfl⟩:=r2; rw [<- beqd]; exact RcNeAt.str_str _ _ _ _
instance:Eqv K Bool where
 dep:=0
 det h1 h2:=by cases h1; cases h2; rfl
 eqA _ _ _ _ _ _ _ _ _ h1 h2 r1 r2:=by cases h1; cases h2; cases r1; cases r2; rw [<- beqd]; exact EqAt.bool_bool _ _
 rcA _ _ _ _ _ _ _ _ _ h1 h2 r1 r2:=by cases h1; cases h2; cases r1; cases r2; rw [<- beqd]; exact RcAt.bool_bool _ _
 neA _ _ _ _ _ _ _ _ _ h1 h2 r1 r2:=by cases h1; cases h2; cases r1; cases r2; rw [<- beqd]; exact RcNeAt.bool_bool _ _
theorem zOv {a b:Int}:decide (some a = some b) = decide (a = b):=by simp
instance:Eqv K (Option Int) where
 dep:=0
 det {H v a b} h1 h2:=by
  cases a with
  | none=>cases b with
   | none=>rfl
   | some y=>exact absurd h1 h2.1
  | some x=>cases b with
   | none=>exact absurd h2 h1.1
   | some y=>cases h1.2; cases h2.2; rfl
 eqA {X pins σ H s} _ {A} _ {v w u u' a b} h1 h2 r1 r2:=by
  cases a with
  | none =>
   cases h1; cases r1
   cases b with
   | none=>cases h2; cases r2; exact EqAt.same _
   | some y=>cases h2.2; obtain ⟨t',rfl⟩:=r2; exact EqAt.none_int _ _
  | some x =>
   cases h1.2; obtain ⟨t,rfl⟩:=r1
   cases b with
   | none=>cases h2; cases r2; exact EqAt.int_none _ _
   | some y=>cases h2.2; obtain ⟨t',rfl⟩:=r2; rw [zOv,<- beqd]; exact EqAt.int_int _ _ _ _
 rcA {X pins σ H s} _ {A} _ {v w u u' a b} h1 h2 r1 r2:=by
  cases a with
  | none =>
   cases h1; cases r1
   cases b with
   | none=>cases h2; cases r2; exact RcAt.none_none
   | some y=>cases h2.2; obtain ⟨t',rfl⟩:=r2; exact RcAt.none_int _ _
  | some x =>
   cases h1.2; obtain ⟨t,rfl⟩:=r1
   cases b with
   | none=>cases h2; cases r2; exact RcAt.int_none _ _
   | some y=>cases h2.2; obtain ⟨t',rfl⟩:=r2; rw [zOv,<- beqd]; exact RcAt.int_int _ _ _ _
 neA {X pins σ H s} _ {A} _ {v w u u' a b} h1 h2 r1 r2:=by
  cases a with
  | none =>
   cases h1; cases r1
   cases b with
   | none=>cases h2; cases r2; exact RcNeAt.none_none
   | some y=>cases h2.2; obtain ⟨t',rfl⟩:=r2; exact RcNeAt.none_int _ _
  | some x =>
   cases h1.2; obtain ⟨t,rfl⟩:=r1
   cases b with
   | none=>cases h2; cases r2; exact RcNeAt.int_none _ _
   | some y=>cases h2.2; obtain ⟨t',rfl⟩:=r2; rw [zOv,<- beqd]; exact RcNeAt.int_int _ _ _ _
theorem A2.det {α β:Type} {R:α->β->Prop} (h:∀ x y z,R x y->R x z->y = z):∀ {xs:List α} {ys zs:List β},A2 R xs ys->A2 R xs zs->ys = zs
 | [],[],[],_,_=>rfl
 | _ :: _,_ :: _,_ :: _,h1,h2=>by rw [h _ _ _ h1.1 h2.1,A2.det h h1.2 h2.2]
 | [],_ :: _,_,h1,_=>h1.elim
 | [],[],_ :: _,_,h2=>h2.elim
 | _ :: _,[],_,h1,_=>h1.elim
 | _ :: _,_ :: _,[],_,h2=>h2.elim
theorem uY {α:Type} [DecidableEq α]:∀ {xs ys:List α},xs.length = ys.length->((List.range xs.length).all λj=>decide (xs[j]? = ys[j]?)) = decide (xs = ys)
 | [],[],_=>by simp
 | x :: xs,y :: ys,h=>by
  have ih:=uY (xs:=xs) (ys:=ys) (by simpa using h)
  rw [length_cons,range_succ_eq_map,all_cons,List.all_map]
  have e:((λj=>decide ((x :: xs)[j]? = (y :: ys)[j]?)) ∘ Nat.succ) = λj=>decide (xs[j]? = ys[j]?):=by
   funext j
   simp
  rw [e,ih]
  by_cases h1:x = y <;> by_cases h2:xs = ys <;> simp [h1,h2]
 | [],_ :: _,h=>by simp at h
 | _ :: _,[],h=>by simp at h
theorem zNb {α:Type} [Rp K α] {xs:List α} (r:Vals vs us) (h:A2 (rp K H) vs xs) (j:Nat) (hj:j < us.toArray.size):∃ v x,xs[j]? = some x /\ rp K H v x /\ RelV v us.toArray[j]:=by
 have l1:j < vs.length:=by rw [r.length]; simpa using hj
 obtain ⟨u,hu,ru⟩:=r.get (List.getElem?_eq_getElem l1)
 obtain ⟨x,hx,rx⟩:=h.at1 (List.getElem?_eq_getElem l1)
 refine ⟨vs[j],x,hx,rx,?_⟩
 have e1:us.toArray[j] = u:=by
  have:us[j]? = some u:=hu
  rw [List.getElem?_eq_getElem (by simpa using hj)] at this
  simpa using this
 rw [e1]
 exact ru
theorem zBa {A:Around}:A.in1.units = A.units + 1:=rfl
instance {α:Type} [Rp K α] [DecidableEq α] [Eqv K α]:Eqv K (List α) where
 dep:=Eqv.dep K α + 1
 det {H v a b} h1 h2:=by
  obtain ⟨p,vs,rfl,h1,r1⟩:=h1
  obtain ⟨p',vs',e,h2,r2⟩:=h2
  cases e
  cases h1.symm.trans h2
  exact A2.det (R:=rp K H) (λ_ _ _ z1 z2=>Eqv.det (K:=K) z1 z2) r1 r2
 rcA {X pins σ H s} I {A} hu {v w u u' a b} h1 h2 q1 q2:=by
  obtain ⟨p,vs,rfl,h1,r1⟩:=h1
  obtain ⟨p',ws,rfl,h2,r2⟩:=h2
  cases q1; cases q2
  obtain ⟨us,s1,p1,_⟩:=I.list (SqL.of h1)
  obtain ⟨us',s2,p2,_⟩:=I.list (SqL.of h2)
  have n1:us.toArray.size = a.length:=by rw [size_toArray,<- r1.len]; exact s1.length.symm
  have n2:us'.toArray.size = b.length:=by rw [size_toArray,<- r2.len]; exact s2.length.symm
  by_cases hl:a.length = b.length
  ·have z:=RcAt.lists (e:=λj=>decide (a[j]? = b[j]?)) p1.isList p2.isList (by rw [n1,n2]; exact hl) (Nat.lt_of_le_of_lt (Nat.le_add_right _ _) hu) (λj h1 h2=>by
    obtain ⟨v,x,e1,e2,e3⟩:=zNb s1 r1 j h1
    obtain ⟨w,y,f1,f2,f3⟩:=zNb s2 r2 j h2
    rw [e1,f1]
    have z:=Eqv.eqA (K:=K) I (A:=A.in1) (by rw [zBa]; omega) e2 f2 e3 f3
    simpa using z)
   rw [n1,uY hl] at z
   exact z
  ·rw [show decide (a = b) = false by simp; intro e; exact hl (by rw [e])]
   exact RcAt.lists_lengths p1.isList p2.isList (by rw [n1,n2]; exact bne_iff_ne.mpr hl) (Nat.lt_of_le_of_lt (Nat.le_add_right _ _) hu)
 neA {X pins σ H s} I {A} hu {v w u u' a b} h1 h2 q1 q2:=by
  obtain ⟨p,vs,rfl,h1,r1⟩:=h1
  obtain ⟨p',ws,rfl,h2,r2⟩:=h2
  cases q1; cases q2
  obtain ⟨us,s1,p1,_⟩:=I.list (SqL.of h1)
  obtain ⟨us',s2,p2,_⟩:=I.list (SqL.of h2)
  have n1:us.toArray.size = a.length:=by rw [size_toArray,<- r1.len]; exact s1.length.symm
  have n2:us'.toArray.size = b.length:=by rw [size_toArray,<- r2.len]; exact s2.length.symm
  by_cases hl:a.length = b.length
  ·have z:=RcNeAt.lists (e:=λj=>decide (a[j]? = b[j]?)) p1.isList p2.isList (by rw [n1,n2]; exact hl) (Nat.lt_of_le_of_lt (Nat.le_add_right _ _) hu) (λj h1 h2=>by
    obtain ⟨v,x,e1,e2,e3⟩:=zNb s1 r1 j h1
    obtain ⟨w,y,f1,f2,f3⟩:=zNb s2 r2 j h2
    rw [e1,f1]
    have z:=Eqv.eqA (K:=K) I (A:=A.in1) (by rw [zBa]; omega) e2 f2 e3 f3
    simpa using z)
   rw [n1,uY hl] at z
   exact z
  ·rw [show decide (a = b) = false by simp; intro e; exact hl (by rw [e])]
   exact RcNeAt.lists_lengths p1.isList p2.isList (by rw [n1,n2]; exact bne_iff_ne.mpr hl) (Nat.lt_of_le_of_lt (Nat.le_add_right _ _) hu)
 eqA {X pins σ H s} I {A} hu {v w u u' a b} h1 h2 q1 q2:=by
  obtain ⟨p,vs,rfl,h1,r1⟩:=h1
  obtain ⟨p',ws,rfl,h2,r2⟩:=h2
  cases q1; cases q2
  by_cases hp:p = p'
  ·subst hp
   cases h1.symm.trans h2
   rw [show a = b from A2.det (R:=rp K H) (λ_ _ _ z1 z2=>Eqv.det (K:=K) z1 z2) r1 r2]
   simp
   exact EqAt.same _
  ·refine EqAt.of_refs hp ?_
   obtain ⟨us,s1,p1,_⟩:=I.list (SqL.of h1)
   obtain ⟨us',s2,p2,_⟩:=I.list (SqL.of h2)
   have n1:us.toArray.size = a.length:=by rw [size_toArray,<- r1.len]; exact s1.length.symm
   have n2:us'.toArray.size = b.length:=by rw [size_toArray,<- r2.len]; exact s2.length.symm
   by_cases hl:a.length = b.length
   ·have z:=RcAt.lists (e:=λj=>decide (a[j]? = b[j]?)) p1.isList p2.isList (by rw [n1,n2]; exact hl) (Nat.lt_of_le_of_lt (Nat.le_add_right _ _) hu) (λj h1 h2=>by
     obtain ⟨v,x,e1,e2,e3⟩:=zNb s1 r1 j h1
     obtain ⟨w,y,f1,f2,f3⟩:=zNb s2 r2 j h2
     rw [e1,f1]
     have z:=Eqv.eqA (K:=K) I (A:=A.in1) (by rw [zBa]; omega) e2 f2 e3 f3
     simpa using z)
    rw [n1,uY hl] at z
    exact z
   ·rw [show decide (a = b) = false by simp; intro e; exact hl (by rw [e])]
    exact RcAt.lists_lengths p1.isList p2.isList (by rw [n1,n2]; exact bne_iff_ne.mpr hl) (Nat.lt_of_le_of_lt (Nat.le_add_right _ _) hu)
theorem zRw {α β:Type} [DecidableEq α] [DecidableEq β] (a b:α × β):((List.range (min 2 2)).all (λj=>if j = 0 then decide (a.1 = b.1) else decide (a.2 = b.2)) && ((2:Nat) == 2)) = decide (a = b):=by
 obtain ⟨a1,a2⟩:=a
 obtain ⟨b1,b2⟩:=b
 by_cases h1:a1 = b1 <;> by_cases h2:a2 = b2 <;> simp [range_succ,h1,h2]
theorem vals2 (h:Vals [v1,v2] us):∃ u1 u2,us = [u1,u2] /\ RelV v1 u1 /\ RelV v2 u2:=by
 cases h with
 | cons a1 h=>cases h with
  | cons a2 h=>cases h; exact ⟨_,_,rfl,a1,a2⟩
section
variable {α β:Type} [Rp K α] [DecidableEq α] [Eqv K α] [Rp K β] [DecidableEq β] [Eqv K β] {X:Cx} {pins:List (Addr × Obj)} {σ:St} {H:Hp} {s:Shared} {A:Around} {a b:α × β} {p p':Addr} {v1 v2 w1 w2:V}
theorem zMf (I:Inv X pins σ H s) (hu:A.units + (Eqv.dep K α + Eqv.dep K β + 1) < cLine) (r1:rp K H v1 a.1) (r2:rp K H v2 a.2) (z1:rp K H w1 b.1) (z2:rp K H w2 b.2) (a1:RelV v1 u1) (a2:RelV v2 u2) (b1:RelV w1 t1) (b2:RelV w2 t2) :
  ∀ (j:Nat) (h1:j < #[u1,u2].size) (h2:j < #[t1,t2].size),EqAt A.in1 s #[u1,u2][j] #[t1,t2][j] (if j = 0 then decide (a.1 = b.1) else decide (a.2 = b.2)):=by
 intro j h1 h2
 have hj:j = 0 \/ j = 1:=by
  have:j < 2:=h1
  omega
 rcases hj with rfl | rfl
 ·exact Eqv.eqA (K:=K) I (A:=A.in1) (by rw [zBa]; omega) r1 z1 a1 b1
 ·exact Eqv.eqA (K:=K) I (A:=A.in1) (by rw [zBa]; omega) r2 z2 a2 b2
theorem zJo (I:Inv X pins σ H s) (hu:A.units + (Eqv.dep K α + Eqv.dep K β + 1) < cLine) (h1:H p = some (.tup [v1,v2])) (h2:H p' = some (.tup [w1,w2])) (r1:rp K H v1 a.1) (r2:rp K H v2 a.2) (z1:rp K H w1 b.1) (z2:rp K H w2 b.2) :
  RcAt A s (.ref p) (.ref p') (decide (a = b)) /\ RcNeAt A s (.ref p) (.ref p') (!decide (a = b)):=by
 obtain ⟨us,s1,p1,_⟩:=I.tuple (.inl (.inl h1))
 obtain ⟨us',s2,p2,_⟩:=I.tuple (.inl (.inl h2))
 obtain ⟨u1,u2,rfl,a1,a2⟩:=vals2 s1
 obtain ⟨t1,t2,rfl,b1,b2⟩:=vals2 s2
 have he:=zMf (A:=A) I hu r1 r2 z1 z2 a1 a2 b1 b2
 have hu':A.units < cLine:=Nat.lt_of_le_of_lt (Nat.le_add_right _ _) hu
 have q1:=RcAt.tuples p1 p2 hu' he
 have q2:=RcNeAt.tuples p1 p2 hu' he
 rw [<- zRw]
 exact ⟨q1,q2⟩
end
instance {α β:Type} [Rp K α] [DecidableEq α] [Eqv K α] [Rp K β] [DecidableEq β] [Eqv K β]:Eqv K (α × β) where
 dep:=Eqv.dep K α + Eqv.dep K β + 1
 det {H v a b} h1 h2:=by
  obtain ⟨p,v1,v2,rfl,h1,r1,r2⟩:=h1
  obtain ⟨p',w1,w2,e,h2,q1,q2⟩:=h2
  cases e
  cases h1.symm.trans h2
  exact Prod.ext (Eqv.det (K:=K) r1 q1) (Eqv.det (K:=K) r2 q2)
 rcA {X pins σ H s} I {A} hu {v w u u' a b} h1 h2 q1 q2:=by
  obtain ⟨p,v1,v2,rfl,h1,r1,r2⟩:=h1
  obtain ⟨p',w1,w2,rfl,h2,z1,z2⟩:=h2
  cases q1; cases q2
  exact (zJo I hu h1 h2 r1 r2 z1 z2).1
 neA {X pins σ H s} I {A} hu {v w u u' a b} h1 h2 q1 q2:=by
  obtain ⟨p,v1,v2,rfl,h1,r1,r2⟩:=h1
  obtain ⟨p',w1,w2,rfl,h2,z1,z2⟩:=h2
  cases q1; cases q2
  exact (zJo I hu h1 h2 r1 r2 z1 z2).2
 eqA {X pins σ H s} I {A} hu {v w u u' a b} h1 h2 q1 q2:=by
  obtain ⟨p,v1,v2,rfl,h1,r1,r2⟩:=h1
  obtain ⟨p',w1,w2,rfl,h2,z1,z2⟩:=h2
  cases q1; cases q2
  by_cases hp:p = p'
  ·subst hp
   cases h1.symm.trans h2
   rw [show a = b from Prod.ext (Eqv.det (K:=K) r1 z1) (Eqv.det (K:=K) r2 z2)]
   simp
   exact EqAt.same _
  ·exact EqAt.of_refs hp (zJo I hu h1 h2 r1 r2 z1 z2).1
def rEqv (K:PySem.W.Frag) (α:Type) [Rp K α] [DecidableEq α] (neg:Bool):R2:=λx y H Q=>∃ a b:α,rp K H x a /\ rp K H y b /\ Q (.bl (if neg = true then !decide (a = b) else decide (a = b))) H
theorem vU (K:PySem.W.Frag) (α:Type) [Rp K α] [DecidableEq α] [Eqv K α] {X:Cx} (hr:Room k X.A) (hd:Eqv.dep K α <= 64:=by exact Nat.le_of_ble_eq_true rfl):OpR X (compareOp .Eq) (rEqv K α false):=by
 intro pins s σ H x y v u Q I rx ry h
 obtain ⟨a,b,h1,h2,q⟩:=h
 exact Eqv.rcA (K:=K) I (A:=X.A) (by have:=hr.units; omega) h1 h2 rx ry _ _ _ _ ⟨.bl (decide (a = b)),H,I,rfl,q⟩
theorem zAl (K:PySem.W.Frag) (α:Type) [Rp K α] [DecidableEq α] [Eqv K α] {X:Cx} (hr:Room k X.A) (hd:Eqv.dep K α <= 64:=by exact Nat.le_of_ble_eq_true rfl):OpR X (compareOp .NotEq) (rEqv K α true):=by
 intro pins s σ H x y v u Q I rx ry h
 obtain ⟨a,b,h1,h2,q⟩:=h
 exact Eqv.neA (K:=K) I (A:=X.A) (by have:=hr.units; omega) h1 h2 rx ry _ _ _ _ ⟨.bl (!decide (a = b)),H,I,rfl,q⟩
variable {B:Bs} {sl:SL K} {md md1:Md} {α β:Type} [Rp K α] [Rp K β] {t1 t2 t:TE}
theorem vW [DecidableEq α] {m1 m2:Option α} (h1:Ex B sl .hp t1 m1) (h2:Ex B sl .hp t2 m2):Ex B sl md (tOp (rEqv K α false) t1 t2) (m1.bind λa=>m2.bind λb=>some (decide (a = b))) :=
 zEr (f:=λa b=>some (decide (a = b))) (λa b c v w H Q e r1 r2 q=>by cases e; exact ⟨a,b,r1,r2,q⟩) h1 h2
theorem zAm [DecidableEq α] {m1 m2:Option α} (h1:Ex B sl .hp t1 m1) (h2:Ex B sl .hp t2 m2):Ex B sl md (tOp (rEqv K α true) t1 t2) (m1.bind λa=>m2.bind λb=>some (!decide (a = b))) :=
 zEr (f:=λa b=>some (!decide (a = b))) (λa b c v w H Q e r1 r2 q=>by cases e; exact ⟨a,b,r1,r2,q⟩) h1 h2
section
variable {m1 m2:Option Int}
theorem zLl {g:Int->Int->V} {f:Int->Int->α} [Sc K α] (hg:∀ i j,g i j = Sc.val K (f i j)) (h1:Ex B sl .hp t1 m1) (h2:Ex B sl .hp t2 m2):Ex B sl md (tOp (rI0 g) t1 t2) (m1.bind λa=>m2.bind λb=>some (f a b)) :=
 zEr (f:=λa b=>some (f a b)) (λa b c v w H Q e r1 r2 q=>by cases e; cases r1; cases r2; exact ⟨a,b,rfl,rfl,by rw [hg]; exact q⟩) h1 h2
theorem uB (h1:Ex B sl .hp t1 m1) (h2:Ex B sl .hp t2 m2):Ex B sl md (tOp (rI0 λi j=>.int (i + j)) t1 t2) (m1.bind λa=>m2.bind λb=>some (a + b)):=zLl (λ_ _=>rfl) h1 h2
theorem zP0 (h1:Ex B sl .hp t1 m1) (h2:Ex B sl .hp t2 m2):Ex B sl md (tOp (rI0 λi j=>.int (i - j)) t1 t2) (m1.bind λa=>m2.bind λb=>some (a - b)):=zLl (λ_ _=>rfl) h1 h2
theorem zKa (h1:Ex B sl .hp t1 m1) (h2:Ex B sl .hp t2 m2):Ex B sl md (tOp (rI0 λi j=>.bl (decide (i < j))) t1 t2) (m1.bind λa=>m2.bind λb=>some (decide (a < b))):=zLl (λ_ _=>rfl) h1 h2
theorem zSi (h1:Ex B sl .hp t1 m1) (h2:Ex B sl .hp t2 m2):Ex B sl md (tOp (rI0 λi j=>.bl (decide (j < i))) t1 t2) (m1.bind λa=>m2.bind λb=>some (decide (b < a))):=zLl (λ_ _=>rfl) h1 h2
def mulM (a b:Int):Option Int:=if (-(2 ^ 64) < a /\ a < 2 ^ 64) \/ (-(2 ^ 64) < b /\ b < 2 ^ 64) then some (a * b) else none
def modM (a b:Int):Option Int:=if 0 < b then some (a % b) else none
def divM (a b:Int):Option Int:=if 0 < b /\ b < 1073741824 then some (a / b) else none
def powM (a b:Int):Option Int:=if 0 <= b /\ b <= 1000000 /\ a.natAbs < 2 ^ 64 then some (a ^ b.toNat) else none
theorem zP2 (h1:Ex B sl .hp t1 m1) (h2:Ex B sl .hp t2 m2):Ex B sl md (tOp (rI CMul λi j=>.int (i * j)) t1 t2) (m1.bind λa=>m2.bind λb=>mulM a b) :=
 zEr (f:=mulM) (λa b c v w H Q e r1 r2 q=>by
  unfold mulM at e
  split at e
  case isFalse=>cases e
  rename_i hc
  cases e; cases r1; cases r2
  exact ⟨a,b,rfl,rfl,hc,q⟩) h1 h2
theorem xE (h1:Ex B sl .hp t1 m1) (h2:Ex B sl .hp t2 m2):Ex B sl md (tOp (rI (λ_ j=>0 < j) λi j=>.int (i % j)) t1 t2) (m1.bind λa=>m2.bind λb=>modM a b) :=
 zEr (f:=modM) (λa b c v w H Q e r1 r2 q=>by
  unfold modM at e
  split at e
  case isFalse=>cases e
  rename_i hc
  cases e; cases r1; cases r2
  exact ⟨a,b,rfl,rfl,hc,q⟩) h1 h2
theorem wS (h1:Ex B sl .hp t1 m1) (h2:Ex B sl .hp t2 m2):Ex B sl md (tOp (rI CDiv λi j=>.int (i / j)) t1 t2) (m1.bind λa=>m2.bind λb=>divM a b) :=
 zEr (f:=divM) (λa b c v w H Q e r1 r2 q=>by
  unfold divM at e
  split at e
  case isFalse=>cases e
  rename_i hc
  cases e; cases r1; cases r2
  exact ⟨a,b,rfl,rfl,hc,q⟩) h1 h2
theorem ex_pow (h1:Ex B sl .hp t1 m1) (h2:Ex B sl .hp t2 m2):Ex B sl md (tOp (rI CPow λi j=>.int (i ^ j.toNat)) t1 t2) (m1.bind λa=>m2.bind λb=>powM a b) :=
 zEr (f:=powM) (λa b c v w H Q e r1 r2 q=>by
  unfold powM at e
  split at e
  case isFalse=>cases e
  rename_i hc
  cases e; cases r1; cases r2
  exact ⟨a,b,rfl,rfl,hc,q⟩) h1 h2
end
theorem A2.atI (h:A2 R vs xs) (e:L2.atI xs i = some a):∃ v,L2.atI vs i = some v /\ R v a:=by
 unfold L2.atI at e ⊢
 rw [h.len]
 cases q:ixN xs.length i with
 | none=>rw [q] at e; cases e
 | some j=>rw [q] at e; exact h.at2 e
theorem xF {m1:Option (List α)} {m2:Option Int} (h1:Ex B sl md t1 m1) (h2:Ex B sl .hp t2 m2):Ex B sl md (tOp (rIxL K) t1 t2) (m1.bind λxs=>m2.bind λi=>L2.atI xs i):=λc hc F O H σ Q s k=>by
 obtain ⟨xs,i,e1,e2,e3⟩:=zDa hc
 refine h1 xs e1 F O H σ _ s λv F' H' g r1=>?_
 refine h2 i e2 F' O H' σ _ (s.grow g) λw F2 H2 g2 r2=>?_
 cases r2
 obtain ⟨p,vs,rfl,z1,z2⟩:=r1
 obtain ⟨u,y1,y2⟩:=z2.atI e3
 have hle:Same (reg B F' H' md) H2:=(match md with
  | .nw=>dif_le.trans g.ok.fh
  | .fz=>g.ok.fh
  | .hp=>.refl _:Same (reg B F' H' md) H').trans g2.hh
 exact ⟨p,vs,i,u,rfl,rfl,SqL.of (hle _ _ z1),y1,k u F2 H2 (g.trans g2) (Rp.mono (xG g2 md) y2)⟩
theorem zDi {m:Option (α × β)} (h1:Ex B sl md t1 m) (h2:Ex B sl .hp t2 (some (0:Int))):Ex B sl md (tOp (rIxT K) t1 t2) (m.bind λx=>some x.1):=λc hc F O H σ Q s k=>by
 cases m with
 | none=>cases hc
 | some x =>
  cases (show some x.1 = some c from hc)
  refine h1 x rfl F O H σ _ s λv F' H' g r1=>?_
  refine h2 0 rfl F' O H' σ _ (s.grow g) λw F2 H2 g2 r2=>?_
  cases r2
  obtain ⟨p,v1,v2,rfl,z1,z2,z3⟩:=r1
  have hle:Same (reg B F' H' md) H2:=(match md with
   | .nw=>dif_le.trans g.ok.fh
   | .fz=>g.ok.fh
   | .hp=>.refl _:Same (reg B F' H' md) H').trans g2.hh
  exact ⟨p,[v1,v2],0,v1,rfl,rfl,.inl (.inl (hle _ _ z1)),rfl,k v1 F2 H2 (g.trans g2) (Rp.mono (xG g2 md) z2)⟩
theorem uX {m:Option (α × β)} (h1:Ex B sl md t1 m) (h2:Ex B sl .hp t2 (some (1:Int))):Ex B sl md (tOp (rIxT K) t1 t2) (m.bind λx=>some x.2):=λc hc F O H σ Q s k=>by
 cases m with
 | none=>cases hc
 | some x =>
  cases (show some x.2 = some c from hc)
  refine h1 x rfl F O H σ _ s λv F' H' g r1=>?_
  refine h2 1 rfl F' O H' σ _ (s.grow g) λw F2 H2 g2 r2=>?_
  cases r2
  obtain ⟨p,v1,v2,rfl,z1,z2,z3⟩:=r1
  have hle:Same (reg B F' H' md) H2:=(match md with
   | .nw=>dif_le.trans g.ok.fh
   | .fz=>g.ok.fh
   | .hp=>.refl _:Same (reg B F' H' md) H').trans g2.hh
  exact ⟨p,[v1,v2],1,v2,rfl,rfl,.inl (.inl (hle _ _ z1)),rfl,k v2 F2 H2 (g.trans g2) (Rp.mono (xG g2 md) z3)⟩
abbrev rLen (K:PySem.W.Frag):List V->Hp->VK->Prop:=λxs H Q=>∃ p ys,xs = [.ref p] /\ (SqL K H p ys \/ SqT K H p ys) /\ Q (.int ys.length) H
theorem xT {m:Option (List α)} (h:Ex B sl .hp t m):Ex B sl md (tCB (rLen K) (xK t tNil)) (m.bind λxs=>some (xs.length:Int)):=λc hc F O H σ Q s k=>by
 cases m with
 | none=>cases hc
 | some xs =>
  cases (show some (xs.length:Int) = some c from hc)
  refine h xs rfl F O H σ _ s λv F' H' g r1=>?_
  obtain ⟨p,vs,rfl,z1,z2⟩:=r1
  exact ⟨p,vs,rfl,.inl (SqL.of z1),k _ F' H' g (by show V.int vs.length = V.int xs.length; rw [z2.len])⟩
abbrev rList (K:PySem.W.Frag):List V->Hp->VK->Prop:=λxs H Q=>∃ p ys,xs = [V.ref p] /\ (SqL K H p ys \/ SqT K H p ys) /\ ∀ l,H l = none->Q (.ref l) (upd H l (.lst ys))
theorem A2.sc {F F':Hp} [Sc K α] {vs:List V} {xs:List α} (h:A2 (rp K F) vs xs):A2 (rp K F') vs xs:=h.imp λ_ _=>zRh
theorem zCk [Sc K α] {m:Option (List α)} (h:Ex B sl .hp t m):Eo B sl md (tCB (rList K) (xK t tNil)) m:=λc hc F O H σ Q s k=>by
 refine h c hc F O H σ _ s λv F' H' g r1=>?_
 obtain ⟨p,vs,rfl,z1,z2⟩:=r1
 exact ⟨p,vs,rfl,.inl (SqL.of z1),λl hl=>k l vs F' H' g hl z2.sc⟩
class Fl (K:PySem.W.Frag) (α:Type) [Rp K α] [Sc K α] [DecidableEq α]:Prop where
 flat:∀ a:α,zFl (Sc.val K a) = true
 eq:∀ a b:α,eqV (Sc.val K a) (Sc.val K b) = decide (a = b)
instance:Fl K Int:=⟨λ_=>rfl,λa b=>by show (a == b) = _; exact beqd a b⟩
instance:Fl K Str:=⟨λ_=>rfl,λa b=>by show (a == b) = _; exact beqd a b⟩
instance:Fl K Bool:=⟨λ_=>rfl,λa b=>by show (a == b) = _; exact beqd a b⟩
instance:Fl K (Option Int):=⟨λa=>by cases a <;> rfl,λa b=>by
 cases a with
 | none=>cases b with
  | none=>rfl
  | some y=>rfl
 | some x=>cases b with
  | none=>rfl
  | some y=>show (x == y) = _; rw [beqd]; simp⟩
theorem A2.vals [Sc K α]:∀ {vs:List V} {xs:List α},A2 (rp K F) vs xs->vs = xs.map (Sc.val K)
 | [],[],_=>rfl
 | _ :: _,_ :: _,h=>by rw [map_cons,Sc.is.mp h.1,A2.vals h.2]
 | [],_ :: _,h=>h.elim
 | _ :: _,[],h=>h.elim
theorem zLh [Sc K α] [DecidableEq α] [Fl K α] (a:α):∀ xs:List α,inV (Sc.val K a) (xs.map (Sc.val K)) = decide (a ∈ xs)
 | []=>by simp [inV]
 | x :: xs=>by
  have ih:=zLh a xs
  unfold inV at ih ⊢
  rw [map_cons,any_cons,ih,Fl.eq]
  by_cases h1:x = a
  ·subst h1; simp
  ·by_cases h2:a ∈ xs <;> simp [h1,h2,Ne.symm h1]
theorem zJ4 [Sc K α] [DecidableEq α] [Fl K α] (xs:List α):(xs.map (Sc.val K)).all zFl = true:=by
 rw [List.all_map,all_eq_true]
 intro x _
 exact Fl.flat x
theorem zFm [Sc K α] [DecidableEq α] [Fl K α] {m1:Option α} {m2:Option (List α)} (h1:Ex B sl .hp t1 m1) (h2:Ex B sl .hp t2 m2):Ex B sl md (tOp (rIn K false) t1 t2) (m1.bind λa=>m2.bind λxs=>some (decide (a ∈ xs))) :=
 zEr (f:=λa xs=>some (decide (a ∈ xs))) (λa b c v w H Q e r1 r2 q=>by
  cases e
  obtain ⟨p,vs,rfl,z1,z2⟩:=r2
  have ev:=Sc.is.mp r1
  have es:=z2.vals
  subst ev es
  refine ⟨p,_,rfl,.inl (SqL.of z1),Fl.flat a,zJ4 b,?_⟩
  have:=zLh (K:=K) a b
  simp only [Bool.false_eq_true,if_false]
  rw [this]
  exact q) h1 h2
theorem zF2 [Sc K α] [DecidableEq α] [Fl K α] {m1:Option α} {m2:Option (List α)} (h1:Ex B sl .hp t1 m1) (h2:Ex B sl .hp t2 m2):Ex B sl md (tOp (rIn K true) t1 t2) (m1.bind λa=>m2.bind λxs=>some (!decide (a ∈ xs))) :=
 zEr (f:=λa xs=>some (!decide (a ∈ xs))) (λa b c v w H Q e r1 r2 q=>by
  cases e
  obtain ⟨p,vs,rfl,z1,z2⟩:=r2
  have ev:=Sc.is.mp r1
  have es:=z2.vals
  subst ev es
  refine ⟨p,_,rfl,.inl (SqL.of z1),Fl.flat a,zJ4 b,?_⟩
  have:=zLh (K:=K) a b
  simp only [if_true]
  rw [this]
  exact q) h1 h2
theorem zLm {m:Option (Option α)} (h:Ex B sl .hp t m):Ex B sl md (tIsN t) (m.bind λa=>some a.isNone):=λc hc F O H σ Q s k=>by
 cases m with
 | none=>cases hc
 | some a =>
  cases (show some a.isNone = some c from hc)
  refine h a rfl F O H σ _ s λv F' H' g r1=>?_
  cases a with
  | none=>cases r1; exact k _ F' H' g rfl
  | some x=>rw [decide_eq_false r1.1]; exact k _ F' H' g rfl
theorem zJ8 {m:Option (Option α)} (h:Ex B sl .hp t m):Ex B sl md (tNotN t) (m.bind λa=>some a.isSome):=λc hc F O H σ Q s k=>by
 cases m with
 | none=>cases hc
 | some a =>
  cases (show some a.isSome = some c from hc)
  refine h a rfl F O H σ _ s λv F' H' g r1=>?_
  cases a with
  | none=>cases r1; exact k _ F' H' g rfl
  | some x=>rw [decide_eq_false r1.1]; exact k _ F' H' g rfl
theorem zA0 {m:Option (Option α)} (h:Ex B sl md t m):Ex B sl md t (m.bind λa=>a):=λc hc F O H σ Q s k=>by
 cases m with
 | none=>cases hc
 | some a =>
  cases a with
  | none=>cases hc
  | some x =>
   have e:x = c:=Option.some.inj hc
   subst e
   exact h (some x) rfl F O H σ _ s λv F' H' g r1=>k v F' H' g r1.2
theorem ex_slen {m:Option Scr} (h:Ex B sl .hp t m):Ex B sl md (tCB (rLen K) (xK t tNil)) (m.bind λxs=>some (xs.ns.length:Int)):=λc hc F O H σ Q s k=>by
 cases m with
 | none=>cases hc
 | some xs =>
  cases (show some (xs.ns.length:Int) = some c from hc)
  refine h xs rfl F O H σ _ s λv F' H' g r1=>?_
  obtain ⟨p,rfl,z1⟩:=r1
  exact ⟨p,_,rfl,.inl z1,k _ F' H' g (by show V.int (xs.ns.map V.int).length = V.int xs.ns.length; rw [length_map])⟩
theorem atI_map (h:L2.atI ns i = some z):L2.atI (ns.map V.int) i = some (.int z):=by
 unfold L2.atI at h ⊢
 rw [length_map]
 cases q:ixN ns.length i with
 | none=>rw [q] at h; cases h
 | some j =>
  rw [q] at h
  show (ns.map V.int)[j]? = _
  have h:ns[j]? = some z:=h
  rw [getElem?_map,h] <;> rfl
theorem ex_six {m1:Option Scr} {m2:Option Int} (h1:Ex B sl .hp t1 m1) (h2:Ex B sl .hp t2 m2):Ex B sl md (tOp (rIxL K) t1 t2) (m1.bind λxs=>m2.bind λi=>L2.atI xs.ns i) :=
 zEr (f:=λ(xs:Scr) (i:Int)=>L2.atI xs.ns i) (λa b c v w H Q e r1 r2 q=>by
  have r2:w = .int b:=r2
  subst r2
  obtain ⟨p,rfl,z1⟩:=r1
  have q:Q (.int c) H:=q
  exact ⟨p,a.ns.map V.int,b,.int c,rfl,rfl,z1,atI_map e,q⟩) h1 h2
theorem zP3 {m1 m2:Option Int} (h1:Ex B sl .hp t1 m1) (h2:Ex B sl .hp t2 m2):Ex B sl md (tCB (λxs H Q=>∃ i j,xs = [.int i,.int j] /\ Q (.int (if j < i then j else i)) H) (xK t1 (xK t2 tNil))) (m1.bind λa=>m2.bind λb=>some (min a b)):=λc hc F O H σ Q s k=>by
 obtain ⟨a,b,e1,e2,e3⟩:=zDa hc
 cases e3
 refine h1 a e1 F O H σ _ s λv F' H' g r1=>?_
 refine h2 b e2 F' O H' σ _ (s.grow g) λw F2 H2 g2 r2=>?_
 cases r1; cases r2
 exact ⟨a,b,rfl,by rw [show (if b < a then b else a) = min a b by split <;> omega]; exact k _ F2 H2 (g.trans g2) rfl⟩
class Ty (K:PySem.W.Frag) (α:Type) [Rp K α] where
 ty:Value
 is:∀ {H:Hp} {v:V} {a:α},rp K H v a->TyOf K H v ty
instance:Ty K Int:=⟨.type "int",λh=>by cases h; exact .int _⟩
instance:Ty K Bool:=⟨.type "bool",λh=>by cases h; exact .bl _⟩
instance:Ty K Str:=⟨.type "str",λh=>by cases h; exact .str _⟩
instance:Ty K (List α):=⟨.type "list",λ⟨p,vs,e,h,_⟩=>by rw [e]; exact .lst h⟩
instance:Ty K (α × β):=⟨.type "tuple",λ⟨p,_,_,e,h,_⟩=>by rw [e]; exact .tup h⟩
theorem zBv [Ty K α] {c:Value} {y:V} {b:Bool} {m:Option α} (hb:kitOne K (Ty.ty K α) c = some b) (hy:RelV y c) (h:Ex B sl .hp t m):Ex B sl md (tCB (rIsi K c) (xK t (xK (tC y) tNil))) (m.bind λ_=>some b):=λd hd F O H σ Q s k=>by
 cases m with
 | none=>cases hd
 | some a =>
  cases (show some b = some d from hd)
  refine h a rfl F O H σ _ s λv F' H' g r1=>?_
  exact ⟨v,y,_,b,rfl,hy,Ty.is r1,hb,k _ F' H' g rfl⟩
end
def src (xss:List LI) (j:Nat):LI:=((List.range xss.length).filter λk=>decide ((j:Int) ∈ xss.getD k [])).map Int.ofNat
theorem filter_congr' {α:Type} {p q:α->Bool}:∀ {l:List α},(∀ x ∈ l,p x = q x)->l.filter p = l.filter q
 | [],_=>rfl
 | a :: l,h=>by
  rw [filter_cons,filter_cons,h a mem_cons_self,filter_congr' λx hx=>h x (mem_cons_of_mem _ hx)]
theorem zQ7 (xss:List LI) (xs:LI) (j:Nat):src (xss ++ [xs]) j = src xss j ++ (if (j:Int) ∈ xs then [(xss.length:Int)] else []):=by
 unfold src
 rw [length_append,length_singleton,range_succ,List.filter_append,map_append]
 congr 1
 ·congr 1
  refine filter_congr' λk hk=>?_
  have hk':k < xss.length:=mem_range.mp hk
  rw [getD_eq_getElem?_getD,getD_eq_getElem?_getD,getElem?_append_left hk']
 ·rw [filter_cons,List.filter_nil,getD_eq_getElem?_getD,getElem?_append_right (Nat.le_refl _),Nat.sub_self]
  by_cases h:(j:Int) ∈ xs
  ·simp [h]
  ·simp [h]
theorem zQ6 {xss:List LI} {i:Nat} {xs:LI} (h:xss[i]? = some xs) (j:Nat):src (xss.take (i + 1)) j = src (xss.take i) j ++ (if (j:Int) ∈ xs then [(i:Int)] else []):=by
 have hi:i < xss.length:=(List.getElem?_eq_some_iff.mp h).1
 rw [take_add_one,h]
 have e:(some xs:Option LI).toList = [xs]:=rfl
 rw [e,zQ7,length_take,Nat.min_eq_left (Nat.le_of_lt hi)]
theorem src_len (xss:List LI) (j:Nat):(src xss j).length <= xss.length:=by
 unfold src
 rw [length_map]
 exact Nat.le_trans (length_filter_le _ _) (by rw [length_range]; exact Nat.le_refl _)
theorem int_at {ns:LI} {i:Nat} {y:V} (h:(ns.map V.int)[i]? = some y):∃ z,y = .int z /\ ns[i]? = some z:=by
 rw [getElem?_map] at h
 cases e:ns[i]? with
 | none=>rw [e] at h; cases h
 | some z=>rw [e] at h; exact ⟨z,(Option.some.inj h).symm,rfl⟩
theorem zOd {bs:List Addr} {i:Nat} {y:V} (h:(bs.map V.ref)[i]? = some y):∃ b,y = .ref b /\ bs[i]? = some b:=by
 rw [getElem?_map] at h
 cases e:bs[i]? with
 | none=>rw [e] at h; cases h
 | some z=>rw [e] at h; exact ⟨z,(Option.some.inj h).symm,rfl⟩
theorem zOc {bs:List Addr} {i:Nat} {b:Addr} (h:bs[i]? = some b):(bs.map V.ref)[i]? = some (.ref b):=by rw [getElem?_map,h] <;> rfl
theorem yA {α:Type} {xs:List α} {x:α} (h:xs[i]? = some x):i < xs.length:=(List.getElem?_eq_some_iff.mp h).1
theorem zPa {i:Nat} (h:i < 1920):((i:Int)).natAbs.log2 < 1920:=by
 rw [Int.natAbs_natCast]
 exact Nat.lt_of_le_of_lt (Nat.log2_le_self i) h
theorem zBo {ns:LI} (nd:ns.Nodup) (h:ns[i]? = some z):¬ z ∈ ns.take i:=λhz=>by
 obtain ⟨j,hj⟩:=mem_iff_getElem?.mp hz
 have hji:j < i:=by
  have:=yA hj
  rw [length_take] at this
  omega
 rw [getElem?_take_of_lt hji] at hj
 have hi:=yA h
 have hjl:=yA hj
 rw [List.getElem?_eq_getElem hi] at h
 rw [List.getElem?_eq_getElem hjl] at hj
 have e:ns[j] = ns[i]:=(Option.some.inj hj).trans (Option.some.inj h).symm
 have:=(getElem_inj nd).mp e
 omega
theorem uE {α:Type} {ns:List α} {z x:α} (h:ns[i]? = some z):x ∈ ns.take (i + 1) ↔ x ∈ ns.take i \/ x = z:=by
 rw [take_add_one,h]
 simp
def RowsR (K:PySem.W.Frag) (H:Hp) (bs:List Addr) (xss:List LI):Prop:=bs.length = xss.length /\ ∀ (i:Nat) (b:Addr),bs[i]? = some b->∃ xs:LI,xss[i]? = some xs /\ SqL K H b (xs.map V.int)
theorem RowsR.same (r:RowsR K H bs xss) (s:Same H H'):RowsR K H' bs xss:=⟨r.1,λi b h=>let ⟨xs,h1,h2⟩:=r.2 i b h; ⟨xs,h1,s.seq h2⟩⟩
def zSy (n:Nat) (xss:List LI):Prop:=xss.length = n /\ ∀ xs ∈ xss,xs ≠ [] /\ xs.Nodup /\ xs.length <= 100 /\ ∀ z ∈ xs,0 <= z /\ z < (n:Int)
def RowF (H:Hp) (cs:List Addr) (row:Nat->LI):Prop:=∀ (j:Nat) (c:Addr),cs[j]? = some c->H c = some (.lst ((row j).map V.int))
structure Bl (K:PySem.W.Frag) (mg:Str->Option Value):Prop where
 len:mg "len" = none
 range:mg "range" = none
 isi:mg "isinstance" = none
 int:mg "int" = none
 bool:mg "bool" = none
 list:mg "list" = none
 enum:mg "enumerate" = none
 ii:kitOne K (.type "int") (.type "int") = some true
 ib:kitOne K (.type "int") (.type "bool") = some false
 ll:kitOne K (.type "list") (.type "list") = some true
theorem ki_ii:kitOne K (.type "int") (.type "int") = some true:=rfl
theorem ki_ll:kitOne K (.type "list") (.type "list") = some true:=rfl
theorem ki_ib:kitOne K (.type "int") (.type "bool") = some false:=by
 first | rfl | (unfold kitOne kitCls; decide +kernel)
theorem zBf:bootBuiltins "isinstance" = some (.builtin "isinstance"):=by decide +kernel
theorem zQp:bootBuiltins "int" = some (.type "int"):=by decide +kernel
theorem zQq:bootBuiltins "bool" = some (.type "bool"):=by decide +kernel
theorem zB5:bootBuiltins "list" = some (.type "list"):=by decide +kernel
structure News (H H':Hp) (cs:List Addr) (xss:List (List V)):Prop where
 len:cs.length = xss.length
 at_:∀ (i:Nat) (c:Addr),cs[i]? = some c->∃ xs,xss[i]? = some xs /\ H' c = some (.lst xs)
 new:∀ c ∈ cs,H c = none
 nd:cs.Nodup
theorem News.nil:News H H' [] []:=⟨rfl,λi c h=>(by simp at h),λc h=>(by cases h),nodup_nil⟩
theorem News.snoc (n:News H H1 cs xss) (s:Same H H1) (h:H1 l = none):News H (upd H1 l (.lst xs)) (cs ++ [l]) (xss ++ [xs]):=by
 have hl:∀ c ∈ cs,c ≠ l:=λc hc e=>by
  obtain ⟨i,hi⟩:=mem_iff_getElem?.mp hc
  obtain ⟨ys,_,q⟩:=n.at_ i c hi
  rw [e,h] at q
  cases q
 refine ⟨by rw [length_append,length_append,n.len] <;> rfl,λi c hc=>?_,λc hc=>?_,?_⟩
 ·by_cases hi:i < cs.length
  ·rw [getElem?_append_left hi] at hc
   obtain ⟨ys,h1,h2⟩:=n.at_ i c hc
   refine ⟨ys,?_,?_⟩
   ·rw [getElem?_append_left (by rw [<- n.len]; exact hi)]; exact h1
   ·rw [zQ (hl c (mem_of_getElem? hc))]; exact h2
  ·rw [getElem?_append_right (by omega)] at hc
   have hi2:i - cs.length = 0:=by
    have:=yA hc
    simp at this
    omega
   rw [hi2] at hc
   have e:l = c:=Option.some.inj hc
   subst e
   refine ⟨xs,?_,zR⟩
   rw [getElem?_append_right (by rw [<- n.len]; omega),<- n.len,hi2] <;> rfl
 ·rcases mem_append.mp hc with hc | hc
  ·exact n.new c hc
  ·rw [mem_singleton.mp hc]; exact s.free h
 ·rw [nodup_append]
  refine ⟨n.nd,by simp,λa ha b hb e=>?_⟩
  rw [mem_singleton.mp hb] at e
  exact hl a ha e
theorem News.notin (n:News H H' cs xss) (h:H' r = none):r ∉ cs:=λhc=>by
 obtain ⟨i,hi⟩:=mem_iff_getElem?.mp hc
 obtain ⟨ys,_,q⟩:=n.at_ i r hi
 rw [h] at q
 cases q
structure Mach (C:Addr) where
 steps:List LI
 marks:List (Str × LI)
 fair:List LI
 sources:List LI
def mth:List Str:=["many","next_of","before","marked","fair_at","names_at"]
def srcs (xss:List LI):List LI:=(List.range xss.length).map (src xss)
def hid (H:Hp) (p:Addr):Hp:=λb=>if b = p then none else H b
section
variable {K:PySem.W.Frag} {C:Addr}
instance:Rp K (Mach C):=⟨λF v m=>∃ p dx fs vS vM vF vB,v = .ref p /\ F p = some (.ins C dx fs) /\ fs.lookup ("steps":Str) = some vS /\ rp K F vS m.steps /\ fs.lookup ("marks":Str) = some vM /\ rp K F vM m.marks /\ fs.lookup ("fair":Str) = some vF /\ rp K F vF m.fair /\
 fs.lookup ("sources":Str) = some vB /\ rp K F vB m.sources /\ ∀ g ∈ mth,fs.lookup g = none,
 λs ⟨p,dx,fs,vS,vM,vF,vB,h1,h2,h3,h4,h5,h6,h7,h8,h9,h10,h11⟩=>⟨p,dx,fs,vS,vM,vF,vB,h1,s _ _ h2,h3,Rp.mono s h4,h5,Rp.mono s h6,h7,Rp.mono s h8,h9,Rp.mono s h10,h11⟩⟩
instance:Nn K (Mach C):=⟨λ⟨_,_,_,_,_,_,_,h,_⟩=>by rw [h]; intro e; cases e⟩
theorem zB6 (ns:LI):A2 (rp K F) (ns.map V.int) ns:=A2.of_map (R:=rp K F) (f:=V.int) (λ_=>rfl) ns
theorem zQv:∀ {cs:List Addr} {xss:List LI},cs.length = xss.length->(∀ (i:Nat) (c:Addr),cs[i]? = some c->∃ xs,xss[i]? = some xs /\ F c = some (.lst (xs.map V.int)))->A2 (rp K F) (cs.map V.ref) xss
 | [],[],_,_=>trivial
 | c :: cs,xs :: xss,hl,h=>by
  obtain ⟨ys,e1,e2⟩:=h 0 c rfl
  cases e1
  exact ⟨⟨c,_,rfl,e2,zB6 _⟩,zQv (by simpa using hl) λi c' hc=>h (i + 1) c' hc⟩
 | [],_ :: _,hl,_=>by simp at hl
 | _ :: _,[],hl,_=>by simp at hl
theorem srcs_at {xss:List LI} (h:i < xss.length):(srcs xss)[i]? = some (src xss i):=by
 unfold srcs
 rw [getElem?_map,getElem?_range h]
 rfl
theorem rowf_rp {cs:List Addr} {xss:List LI} (hl:cs.length = xss.length) (n:RowF H' cs (src xss)) (h:∀ c ∈ cs,∀ o,H' c = some o->D c = some o):A2 (rp K D) (cs.map V.ref) (srcs xss):=by
 refine zQv (by rw [hl]; unfold srcs; simp) λi c hc=>?_
 have hi:=yA hc
 exact ⟨_,srcs_at (by omega),h c (mem_of_getElem? hc) _ (n i c hc)⟩
end
section
variable {K:PySem.W.Frag} {B:Bs} {F H F' H' G:Hp} {O:Own} {sl:SL K} {σ:St} {md:Md} {α β:Type} [Rp K α] [Rp K β] {te ta:TE} {C:Addr}
theorem zKb {pr:Mach C->α} (cl:Cls K C) (na:NoAttr K C f) (hp:∀ (R:Hp) (v:V) (x:Mach C),rp K R v x->∃ p dx fs w,v = .ref p /\ R p = some (.ins C dx fs) /\ fs.lookup f = some w /\ rp K R w (pr x)) (h:Ex B sl md ta m) :
  Ex B sl md (tFld K ta f) (m.bind λx=>some (pr x)):=λc hc F O H σ Q s k=>by
 cases m with
 | none=>cases hc
 | some x =>
  cases (show some (pr x) = some c from hc)
  refine h x rfl F O H σ _ s λv F' H' g r=>?_
  obtain ⟨p,dx,fs,w,rfl,h1,h2,h3⟩:=hp _ v x r
  have hle:Same (reg B F' H' md) H':=match md with
   | .nw=>dif_le.trans g.ok.fh
   | .fz=>g.ok.fh
   | .hp=>.refl _
  exact ⟨p,C,dx,fs,w,rfl,hle _ _ h1,cl,na,h2,k w F' H' g h3⟩
theorem zEs {m:Option (Mach C)} (cl:Cls K C) (na:NoAttr K C "steps") (h:Ex B sl md ta m):Ex B sl md (tFld K ta "steps") (m.bind λx=>some x.steps) :=
 zKb cl na (λR v x ⟨p,dx,fs,vS,vM,vF,vB,h1,h2,h3,h4,_⟩=>⟨p,dx,fs,vS,h1,h2,h3,h4⟩) h
theorem zIm {m:Option (Mach C)} (cl:Cls K C) (na:NoAttr K C "marks") (h:Ex B sl md ta m):Ex B sl md (tFld K ta "marks") (m.bind λx=>some x.marks) :=
 zKb cl na (λR v x ⟨p,dx,fs,vS,vM,vF,vB,h1,h2,_,_,h5,h6,_⟩=>⟨p,dx,fs,vM,h1,h2,h5,h6⟩) h
theorem zLn {m:Option (Mach C)} (cl:Cls K C) (na:NoAttr K C "fair") (h:Ex B sl md ta m):Ex B sl md (tFld K ta "fair") (m.bind λx=>some x.fair) :=
 zKb cl na (λR v x ⟨p,dx,fs,vS,vM,vF,vB,h1,h2,_,_,_,_,h7,h8,_⟩=>⟨p,dx,fs,vF,h1,h2,h7,h8⟩) h
theorem zB2 {A:Type} {as:A->SL K} {f:Mach C × A->Option β} {ma:Option A} (hg:g ∈ mth) (h0:Ex B sl .hp ta mm) (h:Ea B sl .hp t as ma) :
  Ex B sl md (zNv C g (spF K false (λx:Mach C × A=>.fz false x.1 :: as x.2) f) [] E0 ta t) (mm.bind λx=>ma.bind λa=>f (x,a)):=λc hc F O H σ Q s kk=>by
 cases mm with
 | none=>cases hc
 | some x =>
  cases ma with
  | none=>cases hc
  | some a =>
   have hc:f (x,a) = some c:=hc
   refine h0 x rfl F O H σ _ s λv F1 H1 g1 r1=>?_
   obtain ⟨p,dx,fs,vS,vM,vF,vB,rfl,h2,h3,h4,h5,h6,h7,h8,h9,h10,h11⟩:=id r1
   refine ⟨p,dx,fs,rfl,h2,h11 g hg,?_⟩
   refine h a rfl F1 O H1 σ _ (s.grow g1) λvs F' H' g2 r=>?_
   rw [append_nil]
   refine ⟨(x,a),c,H',.refl _,hc,.cons (Rp.mono g2.hh r1) r,λv H2 s2 r2=>?_⟩
   have g3:=g2.ok.called s2
   refine kk v _ H2 (g1.trans (g2.trans g3)) ?_
   have r3:=Rp.mono (zJ6 (F:=F') g2.ok.h0 s2) r2
   exact match md with
   | .nw=>r3
   | .fz=>Rp.mono dif_le r3
   | .hp=>Rp.mono (dif_le.trans g3.ok.fh) r3
def En (B:Bs) (sl:SL K) (t:TE) {α:Type} [Rp K α] (m:Option α):Prop :=
 ∀ a,m = some a->∀ (F:Hp) (O:Own) (H:Hp) (σ:St) (Q:VK),At B sl F O H σ->(∀ (v:V) (F' H1 H2:Hp),Grow B F H O F' H1->Same H1 H2->rp K (dif H2 H1) v a->Q v H2)->t σ H Q
theorem en_call {A:Type} {as:A->SL K} {f:A->Option β} {ta:TA} {ma:Option A} (h:Ea B sl .hp ta as ma):En B sl (zQ5 (spF K false as f) [] E0 ta) (ma.bind f):=λc hc F O H σ Q s kk=>by
 cases ma with
 | none=>cases hc
 | some a =>
  refine h a rfl F O H σ _ s λvs F' H' g r=>?_
  rw [append_nil]
  exact ⟨a,c,H',.refl _,hc,r,λv H2 s2 r2=>kk v F' H' H2 g s2 r2⟩
theorem En.ex {m:Option α} (h:En B sl te m):Ex B sl md te m:=λc hc F O H σ Q s kk=>h c hc F O H σ Q s λv F' H1 H2 g s2 r2=>by
 have g2:=g.ok.called s2
 refine kk v _ H2 (g.trans g2) ?_
 have r3:=Rp.mono (zJ6 (F:=F') g.ok.h0 s2) r2
 exact match md with
 | .nw=>r3
 | .fz=>Rp.mono dif_le r3
 | .hp=>Rp.mono (dif_le.trans g2.ok.fh) r3
theorem zIf (h1:F b = none) (h2:∀ x ∈ O,x.1 ≠ b):lo F O H b = H b:=by
 unfold lo
 rw [if_neg]
 rw [h1]
 simp
 exact λx hx=>h2 _ hx rfl
theorem sn_nu {s:Slot K} {m:Option α} (i:Nat) (hs:sl[i]? = some s) (ho:isOw s = false) (h:En B sl te m):Sn B sl (tAsg te (zBc i)) (λa=>sl.set i (.nu a)) m:=λa ha G D σ H s k=>by
 obtain ⟨F,O,g,z⟩:=s
 refine h a ha F O H σ _ z λv F' H1 H2 gr s2 r=>k _ _ ?_
 have z1:=z.grow gr
 have k2:Ok B F' O H2:=⟨gr.ok.fh.trans s2,gr.ok.h0.trans s2,gr.ok.fa,λx hx=>⟨(gr.ok.fo x hx).1,(gr.ok.fo x hx).2.1,s2 _ _ (gr.ok.fo x hx).2.2⟩,gr.ok.nd⟩
 have hlo:Same (lo F' O H1) (lo F' O H2):=λb o e=>by
  unfold lo at e ⊢
  split at e
  ·cases e
  ·rename_i hh
   rw [if_neg hh]
   exact s2 _ _ e
 refine ⟨F',O,g.trans gr.ff,k2,(z1.2.mono (.refl _) hlo s2).put (λ_ _ _ y=>.nu (Rp.mono (λb o e=>?_) r) y) hs ho⟩
 have hb:H1 b = none:=by
  cases q:H1 b with
  | none=>rfl
  | some u=>unfold dif at e; rw [q] at e; cases e
 rw [xU (gr.ok.h0.free hb),zIf (gr.ok.fh.free hb) λx hx q=>by rw [<- q,(gr.ok.fo x hx).2.2] at hb; cases hb]
 exact dif_le _ _ e
structure LOpq where
 n:Unit
instance:Rp K LOpq:=⟨λF v _=>∃ p vs,v = .ref p /\ F p = some (.lst vs),λs ⟨p,vs,h1,h2⟩=>⟨p,vs,h1,s _ _ h2⟩⟩
class IsL (K:PySem.W.Frag) (α:Type) [Rp K α]:Prop where
 il:∀ {F:Hp} {v:V} {a:α},rp K F v a->∃ p vs,v = .ref p /\ F p = some (.lst vs)
instance:IsL K (List α):=⟨λ⟨p,vs,h1,h2,_⟩=>⟨p,vs,h1,h2⟩⟩
instance:IsL K LOpq:=⟨λh=>h⟩
abbrev zEm:Slot K->Bool
 | @Slot.hs _ _ _ _=>true
 | @Slot.nu _ _ _ _=>true
 | _=>false
theorem zCg (h:dif (lo F O H) B.H0 b = some o):F b = none /\ B.H0 b = none /\ (∀ x ∈ O,x.1 ≠ b) /\ H b = some o:=by
 have h0:B.H0 b = none:=by
  cases q:B.H0 b with
  | none=>rfl
  | some u=>unfold dif at h; rw [q] at h; cases h
 rw [xU h0] at h
 unfold lo at h
 split at h
 ·cases h
 ·rename_i hh
  simp at hh
  exact ⟨hh.1,h0,λx hx e=>hh.2 x.2 (by rw [<- e]; exact hx),h⟩
theorem Ok.poke (k:Ok B F O H) (h1:F p = none) (h2:B.H0 p = none) (h3:∀ x ∈ O,x.1 ≠ p):Ok B F O (upd H p o) :=
 ⟨k.fh.put h1 o,k.h0.put h2 o,k.fa,λx hx=>⟨(k.fo x hx).1,(k.fo x hx).2.1,by rw [zQ (h3 x hx)]; exact (k.fo x hx).2.2⟩,k.nd⟩
theorem SlotsOk.calm (h:SlotsOk B F L H sl σ O) (hn:sl.all (λs=>!zEm s) = true):SlotsOk B F L' H' sl σ O:=by
 induction h with
 | nil=>exact .nil
 | un _ ih=>exact .un (ih (by rw [all_cons,Bool.and_eq_true] at hn; exact hn.2))
 | fz r _ ih=>exact .fz (Rp.mono (uI _ (.refl _)) r) (ih (by rw [all_cons,Bool.and_eq_true] at hn; exact hn.2))
 | hs r _ ih=>rw [all_cons,Bool.and_eq_true] at hn; exact absurd hn.1 (by simp)
 | nu r _ ih=>rw [all_cons,Bool.and_eq_true] at hn; exact absurd hn.1 (by simp)
 | ow r _ ih=>exact .ow (r.imp λ_ _=>Rp.mono (uI _ (.refl _))) (ih (by rw [all_cons,Bool.and_eq_true] at hn; exact hn.2))
 | od r _ ih=>exact .od r (ih (by rw [all_cons,Bool.and_eq_true] at hn; exact hn.2))
theorem zKq (h:SlotsOk B F L H sl σ O) (hs:sl[i]? = some s) (ho:isOw s = false):SlotsOk B F L H (sl.set i .un) σ O:=by
 have hi:i < σ.length:=by rw [h.len]; exact (List.getElem?_eq_some_iff.mp hs).1
 have z:=h.put (s':=.un) (x:=σ[i]) (λ_ _ _ y=>.un y) hs ho
 rw [vO (List.getElem?_eq_getElem hi)] at z
 exact z
instance (n:Nat) (xss:List LI):Decidable (zSy n xss):=by unfold zSy; infer_instance
end
section
variable {K:PySem.W.Frag} {X:Cx}
theorem zA8 (K:PySem.W.Frag) (h:X.K = K:=by rfl):OpR X (compareOp .In) (rIn K false):=by subst h; exact zOt
theorem zCz (K:PySem.W.Frag) (h:X.K = K:=by rfl):OpR X (compareOp .NotIn) (rIn K true):=by subst h; exact zH1
theorem ixLK (K:PySem.W.Frag) (h:X.K = K:=by rfl):IxR X (rIxL K):=by subst h; exact zPj
theorem ixTK (K:PySem.W.Frag) (h:X.K = K:=by rfl):IxR X (rIxT K):=by subst h; exact ix_tup
theorem xJ (K:PySem.W.Frag) (h:X.K = K:=by rfl):zAx X (.builtin "len") (rLen K):=by subst h; exact zIx
theorem zE1 (K:PySem.W.Frag) (h:X.K = K:=by rfl):zAx X (.type "list") (rList K):=by subst h; exact zIw
theorem zBe (K:PySem.W.Frag) (hc:∀ y u,RelV y c->RelV y u->u = c) (h:X.K = K:=by rfl):zAx X (.builtin "isinstance") (rIsi K c):=by subst h; exact zSt hc
theorem zEb (K:PySem.W.Frag) (he:PE X e ta) (h:X.K = K:=by rfl) (hb:attributeBase e f X.env (eval e X.env) = eval e X.env:=by rfl):PE X (.Attribute e f pos) (tFld K ta f):=by subst h; exact zTj he hb
theorem yW (K:PySem.W.Frag) (hl:PE X l tl) (h:X.K = K:=by rfl):PI X tg l (iList K tl):=by subst h; exact zJl hl
theorem zEo (K:PySem.W.Frag) (hm:X.mg "enumerate" = none) (ha:PA X [a] ta) (h:X.K = K:=by rfl) (hg:Gl X "enumerate":=by rfl) (hs:starEach [a] X.env = [(false,eval a X.env)]:=by rfl) :
  PI X (.Tuple elts k tp) (.Call (.Name "enumerate" p) [a] [] pos) (iEnum K ta):=by subst h; exact zOj hg hm ha hs
theorem zBs (K:PySem.W.Frag) {o e:Expr} {es:List Expr} {to:TE} {t:TA} {name:Str} {apos cpos:Pos} {T id:String} {r:V->List V->Hp->VK->Prop} (pa:PlainAttrs T) (slot:PySem.Slot T name id) (hty:typeOf (.builtin id) = pure (.type "method_descriptor")) (hm:MtM X id r) (ho:PE X o to) (ha:PA X (e :: es) t)
  (h:X.K = K:=by rfl) (hbase:attributeBase o name X.env (eval o X.env) = eval o X.env:=by rfl)
  (hfew:((backTo cpos (starEach (e :: es) X.env)).all (λx=>!x.1) && (backToKw cpos (keywordEach [] X.env)).all (λx=>x.1.isSome)
   && decide ((e :: es).length + ([]:List Keyword).length + (if ([]:List Keyword).isEmpty then 0 else 1) < 30)) = true:=by rfl)
  (hline:(apos.endLine == cpos.line) = true:=by rfl) (hs:starEach (e :: es) X.env = (false,eval e X.env) :: starEach es X.env:=by rfl) (hplain:(backTo cpos (starEach es X.env)).any (·.1) = false:=by rfl) :
  PE X (.Call (.Attribute o name apos) (e :: es) [] cpos) (tBM K T r to t):=by subst h; exact pe_bm pa slot hty hm ho ha hbase hfew hline hs hplain
theorem zOp (K:PySem.W.Frag) {o:Expr} {to:TE} {name:Str} {apos cpos:Pos} {T id:String} {r:V->List V->Hp->VK->Prop} (pa:PlainAttrs T) (slot:PySem.Slot T name id) (hty:typeOf (.builtin id) = pure (.type "method_descriptor")) (hm:MtM X id r) (ho:PE X o to)
  (h:X.K = K:=by rfl) (hbase:attributeBase o name X.env (eval o X.env) = eval o X.env:=by rfl) (hline:(apos.endLine == cpos.line) = true:=by rfl):PE X (.Call (.Attribute o name apos) [] [] cpos) (tBM0 K T r to):=by subst h; exact pe_bm0 pa slot hty hm ho hbase hline
theorem bt_max:bootBuiltins "max" = some (.builtin "max"):=by decide +kernel
theorem zT9:bootBuiltins "min" = some (.builtin "min"):=by decide +kernel
theorem bt_all:bootBuiltins "all" = some (.builtin "all"):=by decide +kernel
theorem zE2:bootBuiltins "sorted" = some (.builtin "sorted"):=by decide +kernel
theorem zA1:Et B sl tIf0 (some true):=λa ha F O H σ Q s k=>by cases ha; exact k F H (.refl s.1)
theorem zTa {B:Bs} {sl sl2:SL K} {t:TS} {al:Bool} {β:Type} [Rp K β] {m:Option β} (l:Le sl sl2) (h:SB B sl2 t al m):SB B sl t al m:=λa ha G D σ H q k=>h a ha G D σ H (q.le l) k
theorem zB3 {α:Type}:∀ c:List α,some [] = some c->c.length <= 0:=λc h=>by cases h; exact Nat.le_refl _
theorem vX {α:Type} {m:Option α} {ma:Option (List α)} (h:∀ b,ma = some b->b.length <= n):∀ c,(m.bind λa=>ma.bind λb=>some (a :: b)) = some c->c.length <= n + 1:=λc e=>by
 cases m with
 | none=>cases e
 | some a =>
  cases ma with
  | none=>cases e
  | some b=>cases e; exact Nat.succ_le_succ (h b rfl)
theorem bnd {α β:Type} (a:α) (f:α->Option β):(some a).bind f = f a:=(λ(x:Option α) (e:x = some a)=>by subst e; rfl:∀ x:Option α,x = some a->x.bind f = f a) _ rfl
def fuel:Nat:=100000
structure Cal (P:Program) (w:World) (K:PySem.W.Frag) (mg:Str->Option Value) (base:Heap) (k:Nat) (x:Str) (ps:List Str) (sp:Sp):Prop where
 ex:∃ f fd,FnOk P w K mg base CX0 k f fd ps sp /\ Binds K fd ps [] /\ keepIn K (.ref f) = true /\ mg x = some (.ref f)
structure CalM (P:Program) (w:World) (K:PySem.W.Frag) (mg:Str->Option Value) (base:Heap) (k:Nat) (C:Addr) (m:Str) (ps:List Str) (sp:Sp):Prop where
 ex:∃ f fd,FnOk P w K mg base CX0 k f fd ps sp /\ Binds K fd ps [] /\ Meth K C m f
 cl:Cls K C
theorem Cal.mono (c:Cal P w K mg base j x ps sp) (h:j <= k):Cal P w K mg base k x ps sp:=by
 obtain ⟨f,fd,h1,h2⟩:=c.ex
 exact ⟨f,fd,h1.mono h,h2⟩
theorem CalM.mono (c:CalM P w K mg base j C x ps sp) (h:j <= k):CalM P w K mg base k C x ps sp:=by
 obtain ⟨f,fd,h1,h2⟩:=c.ex
 exact ⟨⟨f,fd,h1.mono h,h2⟩,c.cl⟩
theorem zZ (c:Cal X.prog X.w X.K X.mg X.base k x ps sp) (hr:Room k X.A) (ha:PA X (e :: es) t) (hg:Gl X x:=by rfl) (hdb:(x == ("__debug__":Str)) = false:=by decide)
  (he:starEach (e :: es) X.env = (false,eval e X.env) :: starEach es X.env:=by rfl) (hpl:(backTo pos (starEach es X.env)).any (·.1) = false:=by rfl):PE X (.Call (.Name x p) (e :: es) [] pos) (zQ5 sp [] E0 t):=by
 obtain ⟨f,fd,h1,h2,h3,h4⟩:=c.ex
 exact pe_call h1 hr hg h4 h3 h2 .nil zRv ha hdb he hpl
theorem zFu (c:CalM X.prog X.w X.K X.mg X.base k C m ps sp) (hr:Room k X.A) (he:PE X o ta) (ha:PA X (e :: es) t)
  (hst:starEach (e :: es) X.env = (false,eval e X.env) :: starEach es X.env:=by rfl) (hpl:(backTo pos (starEach es X.env)).any (·.1) = false:=by rfl)
  (ht:eval (.Call (.Attribute o m apos) (e :: es) [] pos) X.env = (do
   let ov <- eval o X.env
   standAt apos.atName
   let (f,first) <- holding [ov] (getMethod ov m pl)
   callWith pos f first (backTo pos (starEach (e :: es) X.env)) (backToKw pos (keywordEach [] X.env))):=by rfl):PE X (.Call (.Attribute o m apos) (e :: es) [] pos) (zNv C m sp [] E0 ta t):=by
 obtain ⟨f,fd,h1,h2,h3⟩:=c.ex
 exact pe_meth he c.cl h3 h1 hr h2 .nil zRv ha hst hpl ht
theorem p_calM0 (c:CalM X.prog X.w X.K X.mg X.base k C m ps sp) (hr:Room k X.A) (he:PE X o ta)
  (ht:eval (.Call (.Attribute o m apos) [] [] pos) X.env = (do
   let ov <- eval o X.env
   standAt apos.atName
   let (f,first) <- holding [ov] (getMethod ov m pl)
   callWith pos f first (backTo pos (starEach [] X.env)) (backToKw pos (keywordEach [] X.env))):=by rfl):PE X (.Call (.Attribute o m apos) [] [] pos) (zNv C m sp [] E0 ta tNil):=by
 obtain ⟨f,fd,h1,h2,h3⟩:=c.ex
 exact zRs he c.cl h3 h1 hr h2 .nil zRv ht
end
section
variable {P:Program} {w:World} {K:PySem.W.Frag} {mg:Str->Option Value} {base:Heap}
theorem yM {A β:Type} [Rp K β] {as:A->SL K} {fM:A->Option β} (F:Fun K x qual st f fd) (S:FnScope N ps (zK st)) (hf:∀ a,(as a).all isF = true) (hl:∀ a,(as a).length = ps.length)
  (hb:∀ (cdv:Value) (A:Around) (outer:List Env) (s:Shared) (H:Hp) (E:XK),Room k (A.deeper (PyProof.Rows.envOfC qual (zK st) s.heap.objs.size f cdv)) ->
   ∃ t,PSs (cxOf CX0 P w K mg base N qual (zK st) f cdv A outer s H E).nox (wI st) t /\ ∀ Fa a,SB ⟨Fa,H⟩ (as a ++ replicate (N.length - ps.length) .un) t al (fM a)) :
  FnOk P w K mg base CX0 (k + 1) f fd ps (spF K al as fM) :=
 F.ok S (λvs H Q E h=>zS8 hl h) λcdv A outer s H vs Q E hr h=>by
  obtain ⟨t,p,q⟩:=hb cdv A outer s H E hr
  exact ⟨t,p,zQ8 hf hl q h⟩
end
def W {α:Type} (m:Option α) (P:α->Prop):Prop:=∃ a,m = some a /\ P a
section
variable {α β S:Type}
theorem W_some:W (some a) P ↔ P a:=⟨λ⟨_,e,h⟩=>by cases e; exact h,λh=>⟨a,rfl,h⟩⟩
theorem zBg:W (none:Option α) P ↔ False:=⟨λ⟨_,e,_⟩=>(by cases e),False.elim⟩
theorem zB {m:Option α}:W (m.bind f) Q ↔ W m λa=>W (f a) Q:=by
 cases m with
 | none=>exact ⟨λ⟨_,e,_⟩=>(by cases e),λ⟨_,e,_⟩=>(by cases e)⟩
 | some a=>exact ⟨λh=>⟨a,rfl,h⟩,λ⟨_,e,h⟩=>by cases e; exact h⟩
theorem W_els:W ((Out.nx s:Out S β).els f) Q ↔ W (f s) Q:=Iff.rfl
theorem W_thn {S':Type} {f:S->Option (Out S' β)} {Q:Out S' β->Prop}:W ((Out.nx s:Out S β).thn f) Q ↔ W (f s) Q:=Iff.rfl
theorem W.imp {Q:α->Prop} (h:W m P) (f:∀ a,P a->Q a):W m Q:=let ⟨a,e,p⟩:=h; ⟨a,e,f a p⟩
theorem vA:W (modM a b) Q ↔ 0 < b /\ Q (a % b):=by
 unfold modM
 split
 ·rename_i h; rw [W_some]; exact ⟨λq=>⟨h,q⟩,λq=>q.2⟩
 ·rename_i h; rw [zBg]; exact ⟨False.elim,λq=>h q.1⟩
theorem zAd:W (divM a b) Q ↔ (0 < b /\ b < 1073741824) /\ Q (a / b):=by
 unfold divM
 split
 ·rename_i h; rw [W_some]; exact ⟨λq=>⟨h,q⟩,λq=>q.2⟩
 ·rename_i h; rw [zBg]; exact ⟨False.elim,λq=>h q.1⟩
theorem W_mul:W (mulM a b) Q ↔ ((-(2 ^ 64) < a /\ a < 2 ^ 64) \/ (-(2 ^ 64) < b /\ b < 2 ^ 64)) /\ Q (a * b):=by
 unfold mulM
 split
 ·rename_i h; rw [W_some]; exact ⟨λq=>⟨h,q⟩,λq=>q.2⟩
 ·rename_i h; rw [zBg]; exact ⟨False.elim,λq=>h q.1⟩
theorem W_pow:W (powM a b) Q ↔ (0 <= b /\ b <= 1000000 /\ a.natAbs < 2 ^ 64) /\ Q (a ^ b.toNat):=by
 unfold powM
 split
 ·rename_i h; rw [W_some]; exact ⟨λq=>⟨h,q⟩,λq=>q.2⟩
 ·rename_i h; rw [zBg]; exact ⟨False.elim,λq=>h q.1⟩
theorem zBw:W (push xs a) Q ↔ xs.length < cap /\ Q (xs ++ [a]):=by
 unfold push
 split
 ·rename_i h; rw [W_some]; exact ⟨λq=>⟨h,q⟩,λq=>q.2⟩
 ·rename_i h; rw [zBg]; exact ⟨False.elim,λq=>h q.1⟩
def rng (n:Int):LI:=(List.range n.toNat).map Int.ofNat
theorem vL:W (wJ n) Q ↔ (-(2 ^ 62) <= n /\ n < 2 ^ 62) /\ Q (rng n):=by
 unfold wJ rng
 split
 ·rename_i h; rw [W_some]; exact ⟨λq=>⟨h,q⟩,λq=>q.2⟩
 ·rename_i h; rw [zBg]; exact ⟨False.elim,λq=>h q.1⟩
theorem zDe {n:Int} {i:Nat} {x:Int} (h:(rng n)[i]? = some x):x = i /\ (i:Int) < n:=by
 obtain ⟨a,b⟩:=zGk h
 exact ⟨b,by omega⟩
theorem mem_rng:x ∈ rng n ↔ 0 <= x /\ x < n:=by
 unfold rng
 rw [mem_map]
 constructor
 ·rintro ⟨a,h,rfl⟩
  rw [mem_range] at h
  exact ⟨Int.natCast_nonneg _,by show (a:Int) < n; omega⟩
 ·intro ⟨h1,h2⟩
  exact ⟨x.toNat,mem_range.mpr (by omega),by show ((x.toNat:Nat):Int) = x; omega⟩
theorem wH (h:0 <= i):L2.atI xs i = xs[i.toNat]?:=by
 unfold L2.atI ixN
 rw [if_pos h]
 by_cases q:i < xs.length
 ·rw [if_pos q]; rfl
 ·rw [if_neg q,List.getElem?_eq_none (by omega)]; rfl
theorem W_at (h0:0 <= i):W (L2.atI xs i) Q ↔ ∃ a,xs[i.toNat]? = some a /\ Q a:=by
 rw [wH h0]
 exact Iff.rfl
theorem uC {step:S->α->Option S} {Q:S->Prop} (I:Nat->S->Prop) (h0:I 0 s) (hs:∀ i x s,xs[i]? = some x->I i s->W (step s x) (I (i + 1))) (hd:∀ s,I xs.length s->Q s):W (xQ step xs s) Q:=by
 have key:∀ (ys:List α) (i:Nat) (s:S),(∀ j x,ys[j]? = some x->xs[i + j]? = some x)->i + ys.length = xs.length->I i s->W (xQ step ys s) Q:=by
  intro ys
  induction ys with
  | nil=>intro i s _ hl h; exact ⟨s,rfl,hd s ((show i = xs.length from hl) ▸ h)⟩
  | cons y ys ih =>
   intro i s hy hl h
   show W ((step s y).bind λs'=>xQ step ys s') Q
   rw [zB]
   refine (hs i y s (hy 0 y rfl) h).imp λs' h'=>ih (i + 1) s' (λj x hx=>?_) (by rw [length_cons] at hl; omega) h'
   have:=hy (j + 1) x (by simpa using hx)
   rw [show i + 1 + j = i + (j + 1) by omega]
   exact this
 exact key xs 0 s (λj x h=>by rw [Nat.zero_add]; exact h) (Nat.zero_add _) h0
theorem zF1 {step:S->α->Option (Out S β)}:vJ step (x :: xs) s = (step s x).bind λo=>o.thn λs'=>vJ step xs s':=by
 rw [vJ]
 congr 1
theorem zHf {step:S->α->Option (Out S β)} {Q:Out S β->Prop} (I:Nat->S->Prop) (h0:I 0 s) (hs:∀ i x s,xs[i]? = some x->I i s->W (step s x) λo=>∃ s',o = .nx s' /\ I (i + 1) s') (hd:∀ s,I xs.length s->Q (.nx s)):W (vJ step xs s) Q:=by
 have key:∀ (ys:List α) (i:Nat) (s:S),(∀ j x,ys[j]? = some x->xs[i + j]? = some x)->i + ys.length = xs.length->I i s->W (vJ step ys s) Q:=by
  intro ys
  induction ys with
  | nil=>intro i s _ hl h; exact ⟨.nx s,rfl,hd s ((show i = xs.length from hl) ▸ h)⟩
  | cons y ys ih =>
   intro i s hy hl h
   rw [zF1,zB]
   refine (hs i y s (hy 0 y rfl) h).imp ?_
   rintro o ⟨s',rfl,h'⟩
   refine ih (i + 1) s' (λj x hx=>?_) (by rw [length_cons] at hl; omega) h'
   have:=hy (j + 1) x (by simpa using hx)
   rw [show i + 1 + j = i + (j + 1) by omega]
   exact this
 exact key xs 0 s (λj x h=>by rw [Nat.zero_add]; exact h) (Nat.zero_add _) h0
theorem W_while {c:S->Option Bool} {body:S->Option S} (I:S->Prop) (μ:S->Nat) (h0:I s) (hk:μ s < k) (hs:∀ s,I s->W (c s) λb=>if b = true then W (body s) λs'=>I s' /\ μ s' < μ s else Q s):W (zDb c body k s) Q:=by
 induction k generalizing s with
 | zero=>omega
 | succ k ih =>
  show W ((c s).bind λb=>if b = true then (body s).bind λs'=>zDb c body k s' else some s) Q
  rw [zB]
  refine (hs s h0).imp λb h=>?_
  cases b with
  | true =>
   have h:W (body s) λs'=>I s' /\ μ s' < μ s:=by simpa using h
   simp only [if_true]
   rw [zB]
   exact h.imp λs' ⟨h1,h2⟩=>ih h1 (by omega)
  | false=>simpa [W_some] using h
theorem zIt (c:α->Bool) (f:α->β):∀ xs:List α,xR (λx=>some (c x)) (λx=>some (f x)) xs = some ((xs.filter c).map f)
 | []=>rfl
 | x :: xs=>by
  have ih:=zIt c f xs
  show (some (c x)).bind _ = _
  cases h:c x with
  | true =>
   show ((some (f x)).bind λy=>(xR _ _ xs).bind λys=>some (y :: ys)) = _
   rw [ih,filter_cons,if_pos h]
   rfl
  | false =>
   show xR _ _ xs = _
   rw [ih,filter_cons,if_neg (by rw [h]; decide)]
theorem zQx (c:α->Bool) (f:α->β):W (xM (λx=>some (c x)) (λx=>some (f x)) xs) Q ↔ xs.length < cap /\ Q ((xs.filter c).map f):=by
 unfold xM
 split
 ·rename_i h; rw [zIt,W_some]; exact ⟨λq=>⟨h,q⟩,λq=>q.2⟩
 ·rename_i h; rw [zBg]; exact ⟨False.elim,λq=>h q.1⟩
theorem zPu (xs:List α):xs.filter (λ_=>true) = xs:=List.filter_eq_self.mpr λ_ _=>rfl
theorem zKi (f:α->β):W (xM (λ_=>some true) (λx=>some (f x)) xs) Q ↔ xs.length < cap /\ Q (xs.map f):=by
 rw [zQx (λ_=>true) f,zPu]
theorem zB7 [Decidable c]:W (if c then a else b) Q ↔ (c->W a Q) /\ (¬ c->W b Q):=by
 by_cases h:c
 ·rw [if_pos h]; exact ⟨λq=>⟨λ_=>q,λn=>absurd h n⟩,λq=>q.1 h⟩
 ·rw [if_neg h]; exact ⟨λq=>⟨λn=>absurd n h,λ_=>q⟩,λq=>q.2 h⟩
theorem yT (h:n <= 1000):n < cap:=Nat.lt_of_le_of_lt h (by decide)
def Rise (n:Int) (xs:LI):Prop:=xs.Pairwise (· < ·) /\ ∀ x ∈ xs,0 <= x /\ x < n
theorem Rise.nodup (h:Rise n xs):xs.Nodup:=h.1.imp λq=>Int.ne_of_lt q
theorem zOa (h:Rise k xs) (h0:0 <= k) (hk:k < n):Rise n (xs ++ [k]):=by
 refine ⟨List.pairwise_append.mpr ⟨h.1,by simp,λx hx y hy=>?_⟩,λx hx=>?_⟩
 ·rw [mem_singleton.mp hy]; exact (h.2 x hx).2
 ·rcases mem_append.mp hx with q | q
  ·have:=h.2 x q; omega
  ·rw [mem_singleton.mp q]; omega
theorem rise_up (h:Rise n xs) (l:n <= m):Rise m xs:=⟨h.1,λx hx=>by have:=h.2 x hx; omega⟩
theorem uW:∀ {n:Nat} {xs:LI},xs.Nodup->(∀ x ∈ xs,0 <= x /\ x < (n:Int))->xs.length <= n
 | 0,xs,_,h=>by
  cases xs with
  | nil=>exact Nat.le_refl _
  | cons x xs=>have:=h x mem_cons_self; omega
 | n + 1,xs,nd,h=>by
  by_cases q:(n:Int) ∈ xs
  ·have l:=List.length_erase_of_mem q
   have ih:=uW (n:=n) (xs:=xs.erase (n:Int)) (nd.erase _) λx hx=>by
    have h1:=h x (List.mem_of_mem_erase hx)
    have h2:x ≠ (n:Int):=λe=>by rw [e] at hx; exact (List.Nodup.not_mem_erase nd) hx
    omega
   omega
  ·have ih:=uW (n:=n) nd λx hx=>by
    have h1:=h x hx
    have h2:x ≠ (n:Int):=λe=>q (e ▸ hx)
    omega
   omega
end
end Ts
namespace L2
open PySem PySem.Spec PyProof.Rows
theorem zG1:∀ {ns:LI} {its:List Value},Vals (ns.map V.int) its->IntsAre its ns
 | [],[],_=>.nil
 | n :: ns,_ :: its,h=>by
  cases h with
  | cons r t =>
   obtain ⟨k,rfl⟩:=r
   exact .cons n k (zG1 t)
theorem uV:∀ {ns:LI} {its:List Value},IntsAre its ns->Vals (ns.map V.int) its
 | _,_,.nil=>.nil
 | _,_,.cons n t h=>.cons ⟨t,rfl⟩ (uV h)
section
variable {X:Cx}
def rBest (K:PySem.W.Frag) (R:Int->Int->Prop):List V->Hp->VK->Prop:=λxs H Q=>∃ (p:Addr) (ns:LI),xs = [.ref p] /\ SqL K H p (ns.map V.int) /\ ns ≠ [] /\ ∀ M,M ∈ ns->(∀ a ∈ ns,R M a)->Q (.int M) H
theorem zSu {arr:Array (Int × Tok)} (hns:ns = arr.toList.map (·.1)) (j:Nat) (hj:j < arr.size):numAt arr j ∈ ns:=by
 have e:=numAt_eq arr j
 rw [e,hns]
 refine PySem.getD_mem ?_
 rw [length_map,length_toList]
 exact hj
theorem zQj (K:PySem.W.Frag) (hc:X.calm = true) (hK:X.K = K:=by rfl):zAx X (.builtin "max") (rBest K (λM a=>a <= M)):=by
 subst hK
 intro pins s σ H xs us Q I r h
 obtain ⟨p,ns,rfl,hq,hne,q⟩:=h
 obtain ⟨u,rfl,rx⟩:=zFe r
 cases rx
 obtain ⟨its,r',pl,hz⟩:=I.list hq
 have hi:=zG1 r'
 obtain ⟨arr,e⟩:=hi.allInts.items
 have hns:ns = arr.toList.map (·.1):=(hi.numsOf.symm.trans (congrArg numsOf (show its = (intItems arr).toList by rw [<- e]))).trans (nums_intItems arr)
 have hsz:0 < arr.size:=by
  cases z:arr.size with
  | zero =>
   exfalso
   apply hne
   rw [hns,Array.eq_empty_of_size_eq_zero z]
   rfl
  | succ k=>omega
 have hl:=pl.isList
 rw [e] at hl
 refine max_intList (I.ok.hd hc) hl hsz λv h' tk hv hk=>?_
 obtain ⟨t,rfl⟩:=intItems_at hv
 obtain ⟨b1,b2⟩:=argBest_gt (numAt arr) (arr.size - 1)
 refine ⟨.int (numAt arr (argBest (λi j=>decide (numAt arr i > numAt arr j)) (arr.size - 1))),H,I.kept hk,⟨t,rfl⟩,q _ (zSu hns _ (by omega)) λa ha=>?_⟩
 rw [hns] at ha
 obtain ⟨j,hj,rfl⟩:=PySem.mem_getD ha
 rw [length_map,length_toList] at hj
 have z:=b2 j (by omega)
 rw [numAt_eq arr j] at z
 exact z
def rSort (K:PySem.W.Frag):List V->Hp->VK->Prop:=λxs H Q=>∃ (p:Addr) (ns:LI),xs = [.ref p] /\ SqL K H p (ns.map V.int) /\ ns.length < 64 /\ ∀ (l:Addr) (ns':LI),H l = none->ns'.Perm ns->ns'.Pairwise (· <= ·)->Q (.ref l) (upd H l (.lst (ns'.map V.int)))
theorem zF5 (K:PySem.W.Frag) (hK:X.K = K:=by rfl):zAx X (.builtin "sorted") (rSort K):=by
 subst hK
 intro pins s σ H xs us Q I r h
 obtain ⟨p,ns,rfl,hq,h64,q⟩:=h
 obtain ⟨u,rfl,rx⟩:=zFe r
 cases rx
 obtain ⟨its,r',pl,hz⟩:=I.list hq
 have hl:=r'.length
 rw [length_map] at hl
 refine sorted_ints pl.isList (zG1 r') (by omega) λout ns' a1 a2 a3=>?_
 obtain ⟨e,he⟩:=sortedAll_at s.heap its out
 have fr:H (s.heap.objs.size + 1) = none:=I.hok.fresh (Nat.le_succ _)
 refine ⟨.ref (s.heap.objs.size + 1),_,I.laid (t':=s.toks) (o:=.lst (ns'.map V.int)) (λb ob w=>sortedAll_old w) (Nat.le_succ _) ?_,rfl,q _ ns' fr a2 a3⟩
 refine ⟨?_,out.toList,e,uV a1,?_⟩
 ·rw [length_map,a2.length_eq]
  exact Nat.le_of_lt (Nat.lt_trans h64 (by decide))
 ·rw [toArray_toList]
  exact he
theorem zJb {bs:List Bool} (r:Vals (bs.map V.bl) its):TruthOf prog w A (λi v=>its.toArray[i]? = some v) (λi=>bs.getD i false):=by
 intro i v s Q E hv hq
 have hv:its[i]? = some v:=by simpa using hv
 have hi:i < bs.length:=by
  have:=(List.getElem?_eq_some_iff.mp hv).1
  rw [<- r.length,length_map] at this
  exact this
 obtain ⟨u,h1,h2⟩:=r.get (i:=i) (x:=.bl bs[i]) (by rw [getElem?_map,List.getElem?_eq_getElem hi] <;> rfl)
 rw [hv] at h1
 cases h1
 cases h2
 have hq:Q (bs.getD i false) s:=hq
 rw [getD_eq_getElem?_getD,List.getElem?_eq_getElem hi] at hq
 exact wpAny_truthy_bool hq
theorem zOf {bs:List Bool}:((List.range bs.length).all λi=>bs.getD i false) = bs.all id:=by
 rw [Bool.eq_iff_iff,all_eq_true,all_eq_true]
 constructor
 ·intro h x hx
  obtain ⟨i,hi,e⟩:=getElem_of_mem hx
  have z:=h i (mem_range.mpr hi)
  rw [getD_eq_getElem?_getD,List.getElem?_eq_getElem hi,e] at z
  exact z
 ·intro h i hi
  have hi:=mem_range.mp hi
  rw [getD_eq_getElem?_getD,List.getElem?_eq_getElem hi]
  exact h _ (getElem_mem hi)
def zTg (K:PySem.W.Frag) (f:List Bool->Bool):List V->Hp->VK->Prop:=λxs H Q=>∃ (p:Addr) (bs:List Bool),xs = [.ref p] /\ SqL K H p (bs.map V.bl) /\ Q (.bl (f bs)) H
theorem zBu {s:Shared} {h':Heap} (hk:∀ b o,b ∉ [s.heap.objs.size]->(s.heap.push { cls:=.type "list_iterator",data:=.fields #[.ref l,.int 0 0] }).get? b = some o->h'.get? b = some o) :
  ∀ b o,s.heap.get? b = some o->h'.get? b = some o:=λb o e=>hk b o (λm=>Nat.lt_irrefl _ (mem_singleton.mp m ▸ lt_size e)) (get?_push_of_some _ e)
theorem zQn (K:PySem.W.Frag) (hc:X.calm = true) (hK:X.K = K:=by rfl):zAx X (.builtin "all") (zTg K λbs=>bs.all id):=by
 subst hK
 intro pins s σ H xs us Q I r h
 obtain ⟨p,bs,rfl,hq,q⟩:=h
 obtain ⟨u,rfl,rx⟩:=zFe r
 cases rx
 obtain ⟨its,r',pl,hz⟩:=I.list hq
 have hl:=pl.isList
 have hlt:p < s.heap.objs.size:=by obtain ⟨_,e,_⟩:=hl; exact lt_size e
 refine call_all_walk (wpAny_pyIter_list hl ?_)
 refine ⟨_,_,_,_,_,_,_,rfl,Walks.list (A:=X.A.in1) (I.ok.hd hc) s.heap.objs.size p (Nat.ne_of_lt hlt) its.toArray,⟨⟨_,get?_push_size _ rfl,rfl,rfl⟩,hl.push _⟩,zJb r',λh' tk hk=>?_⟩
 have hn:its.toArray.size = bs.length:=by
  rw [size_toArray,<- r'.length,length_map]
 rw [hn,zOf]
 exact ⟨.bl (bs.all id),H,I.kept (zBu hk),rfl,q⟩
end
section
variable {prog:Program} {w:World} {A:Around} {R:Result->Shared->Prop} {It:Addr} {fp wr:List Addr} {n:Nat} {P:Nat->Value->Prop} {St:Nat->Heap->Prop} {kw:List (Str × Value)}
end
section
variable {X:Cx} {e e2:Expr} {te td:TE} {p pos kpos:Pos}
end
end L2
namespace Ts
open PySem L2
def lmax:LI->Int
 | []=>0
 | [x]=>x
 | x :: xs=>max x (lmax xs)
theorem zJ1:∀ {ns:LI} {a:Int},a ∈ ns->a <= lmax ns
 | [x],a,h=>by rw [mem_singleton.mp h]; exact Int.le_refl _
 | x :: y :: ns,a,h=>by
  show a <= max x (lmax (y :: ns))
  rcases mem_cons.mp h with rfl | h
  ·omega
  ·have:=zJ1 h; omega
theorem zGx:∀ {ns:LI},ns ≠ []->lmax ns ∈ ns
 | [x],_=>by simp [lmax]
 | x :: y :: ns,_=>by
  show max x (lmax (y :: ns)) ∈ _
  have:=zGx (ns:=y :: ns) (by simp)
  by_cases q:lmax (y :: ns) <= x
  ·rw [show max x (lmax (y :: ns)) = x by omega]; exact mem_cons_self
  ·rw [show max x (lmax (y :: ns)) = lmax (y :: ns) by omega]; exact mem_cons_of_mem _ this
def maxM (ns:LI):Option Int:=if ns = [] then none else some (lmax ns)
def zCh (ns:LI):LI:=ns.mergeSort (λa b=>decide (a <= b))
def zHp (ns:LI):Option LI:=if ns.length < 64 then some (zCh ns) else none
theorem xS (ns:LI):(zCh ns).Perm ns:=List.mergeSort_perm _ _
theorem zDh (ns:LI):(zCh ns).Pairwise (· <= ·):=by
 have:=List.pairwise_mergeSort (le:=λa b:Int=>decide (a <= b)) (λa b c h1 h2=>by simp at *; omega) (λa b=>by simp; omega) ns
 exact this.imp λh=>by simpa using h
theorem zD2:∀ {xs ys:LI},xs.Perm ys->xs.Pairwise (· <= ·)->ys.Pairwise (· <= ·)->xs = ys
 | [],ys,p,_,_=>(Perm.nil_eq p)
 | x :: xs,[],p,_,_=>by have:=p.length_eq; simp at this
 | x :: xs,y :: ys,p,h1,h2=>by
  have a1:=pairwise_cons.mp h1
  have a2:=pairwise_cons.mp h2
  have e:x = y:=by
   have q1:x ∈ y :: ys:=p.subset mem_cons_self
   have q2:y ∈ x :: xs:=p.symm.subset mem_cons_self
   rcases mem_cons.mp q1 with q1 | q1
   ·exact q1
   ·rcases mem_cons.mp q2 with q2 | q2
    ·exact q2.symm
    ·have:=a1.1 y q2; have:=a2.1 x q1; omega
  subst e
  rw [zD2 (Perm.cons_inv p) a1.2 a2.2]
section
variable {K:PySem.W.Frag} {B:Bs} {sl:SL K} {md:Md} {t t1 t2:TE} {n:Bool}
theorem ex_maxL (h:Ex B sl .hp t m):Ex B sl md (tCB (rBest K (λM a=>a <= M)) (xK t tNil)) (m.bind maxM):=λc hc F O H σ Q s k=>by
 cases m with
 | none=>cases hc
 | some ns =>
  have hc:maxM ns = some c:=hc
  unfold maxM at hc
  split at hc
  ·cases hc
  rename_i hne
  cases hc
  refine h ns rfl F O H σ _ s λv F' H' g r1=>?_
  obtain ⟨p,vs,rfl,z1,z2⟩:=r1
  have z3:vs = ns.map V.int:=z2.vals
  subst z3
  refine ⟨p,ns,rfl,SqL.of z1,hne,λM m1 m2=>?_⟩
  have e:M = lmax ns:=by have:=zJ1 m1; have:=m2 _ (zGx hne); omega
  rw [e]
  exact k _ F' H' g rfl
theorem zP5 (h:Ex B sl .hp t m):Eo B sl md (tCB (rSort K) (xK t tNil)) (m.bind zHp):=λc hc F O H σ Q s k=>by
 cases m with
 | none=>cases hc
 | some ns =>
  have hc:zHp ns = some c:=hc
  unfold zHp at hc
  split at hc
  case isFalse=>cases hc
  rename_i hl
  cases hc
  refine h ns rfl F O H σ _ s λv F' H' g r1=>?_
  obtain ⟨p,vs,rfl,z1,z2⟩:=r1
  have z3:vs = ns.map V.int:=z2.vals
  subst z3
  refine ⟨p,ns,rfl,SqL.of z1,hl,λl ns' hn p1 p2=>?_⟩
  rw [zD2 (p1.trans (xS ns).symm) p2 (zDh ns)]
  exact k l _ F' H' g hn (zB6 _)
theorem zSj (h:Ex B sl .hp t m):Ex B sl md (tCB (zTg K f) (xK t tNil)) (m.bind λbs=>some (f bs)):=λc hc F O H σ Q s k=>by
 cases m with
 | none=>cases hc
 | some bs =>
  cases (show some (f bs) = some c from hc)
  refine h bs rfl F O H σ _ s λv F' H' g r1=>?_
  obtain ⟨p,vs,rfl,z1,z2⟩:=r1
  have z3:vs = bs.map V.bl:=z2.vals
  subst z3
  exact ⟨p,bs,rfl,SqL.of z1,k _ F' H' g rfl⟩
theorem zP1 (h:Ex B sl .hp t m):Ex B sl md (tUn (rU λi=>.int (-i)) t) (m.bind λa=>some (-a)):=λc hc F O H σ Q s k=>by
 cases m with
 | none=>cases hc
 | some a =>
  cases (show some (-a) = some c from hc)
  refine h a rfl F O H σ _ s λv F' H' g r1=>?_
  cases r1
  exact ⟨a,rfl,k _ F' H' g rfl⟩
end
section
variable {β:Type}
def gK (kvs:List (Key × β)) (k:Key):Option β:=(kvs.find? λkv=>decide (kv.1 = k)).map (·.2)
def pK (kvs:List (Key × β)) (k:Key) (v:β):List (Key × β):=if (kvs.any λkv=>decide (kv.1 = k)) = true then kvs.map (λkv=>if kv.1 = k then (kv.1,v) else kv) else kvs ++ [(k,v)]
abbrev dget (kvs:List (Key × β)) (k:Int):Option β:=gK kvs (Sum.inl k)
def dput (kvs:List (Key × β)) (k:Int) (v:β):Option (List (Key × β)):=if kvs.length < cap then some (pK kvs (Sum.inl k) v) else none
theorem zTt:∀ (kvs:List (Key × β)) (k j:Key) (v:β),gK (pK kvs k v) j = if j = k then some v else gK kvs j:=λkvs k j v=>by
 unfold pK
 cases a:(kvs.any λkv=>decide (kv.1 = k)) with
 | true =>
  rw [if_pos rfl]
  induction kvs with
  | nil=>cases a
  | cons x kvs ih =>
   unfold gK at ih ⊢
   rw [map_cons,find?_cons,find?_cons]
   by_cases e:x.1 = k
   ·rw [if_pos e]
    by_cases f:j = k
    ·subst f
     rw [decide_eq_true (show (x.1,v).1 = j from e),if_pos rfl]; rfl
    ·rw [decide_eq_false (show ¬ (x.1,v).1 = j from λz=>f (z.symm.trans e)),if_neg f]
     show Option.map (λx=>x.2) (List.find? (λkv=>decide (kv.1 = j)) (List.map (λkv=>if kv.1 = k then (kv.1,v) else kv) kvs)) = Option.map (λx=>x.2) (List.find? (λkv=>decide (kv.1 = j)) kvs)
     clear ih a
     induction kvs with
     | nil=>rfl
     | cons y kvs ih =>
      rw [map_cons,find?_cons,find?_cons]
      by_cases g:y.1 = k
      ·rw [if_pos g,decide_eq_false (show ¬ (y.1,v).1 = j from λz=>f (z.symm.trans g))]; exact ih
      ·rw [if_neg g]
       by_cases h:y.1 = j
       ·rw [decide_eq_true h]
       ·rw [decide_eq_false h]; exact ih
   ·rw [if_neg e]
    have a':(kvs.any λkv=>decide (kv.1 = k)) = true:=by rw [any_cons,decide_eq_false e,Bool.false_or] at a; exact a
    by_cases f:x.1 = j
    ·rw [decide_eq_true f,if_neg λz=>e (f.trans z)]
    ·rw [decide_eq_false f]; exact ih a'
 | false =>
  rw [if_neg (by decide)]
  unfold gK
  rw [List.find?_append]
  have hn:kvs.find? (λkv=>decide (kv.1 = k)) = none:=by
   rw [find?_eq_none]
   intro x hx
   have:=List.any_eq_false.mp a x hx
   exact this
  by_cases f:j = k
  ·subst f; rw [hn,if_pos rfl]; simp
  ·rw [if_neg f]
   cases kvs.find? (λkv=>decide (kv.1 = j)) with
   | none=>simp [Ne.symm f]
   | some y=>rfl
theorem zTm (kvs:List (Key × β)) (k:Key) (v:β):(pK kvs k v).length <= kvs.length + 1:=by
 unfold pK
 split
 ·rw [length_map]; omega
 ·rw [length_append]; exact Nat.le_refl _
end
section
variable {K:PySem.W.Frag} {α:Type} [Rp K α]
abbrev DR (K:PySem.W.Frag) {α:Type} [Rp K α] (F:Hp):Key × V->Key × α->Prop:=λx y=>x.1 = y.1 /\ rp K F x.2 y.2
theorem A2.any:∀ {ks:List (Key × V)} {kvs:List (Key × α)},A2 (DR K F) ks kvs->(ks.any λkv=>decide (kv.1 = k)) = (kvs.any λkv=>decide (kv.1 = k))
 | [],[],_=>rfl
 | _ :: _,_ :: _,h=>by rw [any_cons,any_cons,h.1.1,A2.any h.2]
 | [],_ :: _,h=>h.elim
 | _ :: _,[],h=>h.elim
theorem A2.val:∀ {ks:List (Key × V)} {kvs:List (Key × α)},A2 (DR K F) ks kvs->(gK kvs k = none /\ valV ks k = none) \/ ∃ a v,gK kvs k = some a /\ valV ks k = some v /\ rp K F v a
 | [],[],_=>.inl ⟨rfl,rfl⟩
 | x :: ks,y :: kvs,h=>by
  unfold gK valV
  rw [find?_cons,find?_cons,h.1.1]
  by_cases e:y.1 = k
  ·rw [decide_eq_true e]; exact .inr ⟨y.2,x.2,rfl,rfl,h.1.2⟩
  ·rw [decide_eq_false e]; exact A2.val h.2
 | [],_ :: _,h=>h.elim
 | _ :: _,[],h=>h.elim
theorem A2.putM (r:rp K F v a):∀ {ks:List (Key × V)} {kvs:List (Key × α)},A2 (DR K F) ks kvs->A2 (DR K F) (ks.map λkv=>if kv.1 = k then (kv.1,v) else kv) (kvs.map λkv=>if kv.1 = k then (kv.1,a) else kv)
 | [],[],_=>trivial
 | x :: ks,y :: kvs,h=>by
  rw [map_cons,map_cons]
  refine ⟨?_,A2.putM r h.2⟩
  by_cases e:x.1 = k
  ·rw [if_pos e,if_pos (h.1.1 ▸ e)]; exact ⟨h.1.1,r⟩
  ·rw [if_neg e,if_neg (h.1.1 ▸ e)]; exact h.1
 | [],_ :: _,h=>h.elim
 | _ :: _,[],h=>h.elim
theorem A2.put {F:Hp} {k:Key} {v:V} {a:α} (r:rp K F v a) {ks:List (Key × V)} {kvs:List (Key × α)} (h:A2 (DR K F) ks kvs):A2 (DR K F) (putK ks k v) (pK kvs k a):=by
 unfold putK pK
 rw [h.any]
 split
 ·exact h.putM r
 ·exact h.snoc ⟨rfl,r⟩
structure Dc (α:Type) where
 kv:List (Key × α)
instance:Rp K (Dc α):=⟨λF v d=>∃ p ks,v = .ref p /\ F p = some (.dK ks) /\ A2 (DR K F) ks d.kv,λs ⟨p,ks,h1,h2,h3⟩=>⟨p,ks,h1,s _ _ h2,h3.imp λ_ _ z=>⟨z.1,Rp.mono s z.2⟩⟩⟩
instance:Nn K (Dc α):=⟨λ⟨_,_,h,_⟩=>by rw [h]; intro e; cases e⟩
variable {B:Bs} {sl:SL K} {md:Md} {t t2:TE} {F H G:Hp} {O:Own} {σ:St} {u:TS} {al:Bool}
theorem zPx {kvs:List (Key × α)} (i:Nat) (hs:sl[i]? = some (.od kvs)):Ex B sl .hp (tVar i) (some (Dc.mk kvs)):=λa' ha F O H σ Q s k=>by
 cases ha
 obtain ⟨k0,z0⟩:=s
 obtain ⟨O1,O2,p,ks,rfl,h1,h2,_⟩:=z0.od_at hs
 exact ⟨_,h1,k _ F H (.refl k0) ⟨p,ks,rfl,k0.one.2.2,h2.imp λ_ _ z=>⟨z.1,Rp.mono k0.fh z.2⟩⟩⟩
theorem ex_din {m:Option Int} {m2:Option (Dc α)} (h:Ex B sl .hp t m) (h2:Ex B sl .hp t2 m2):Ex B sl md (tDIn t t2) (m.bind λk=>m2.bind λd=>some (dget d.kv k).isSome):=λc hc F O H σ Q s kk=>by
 obtain ⟨k,d,e1,e2,e3⟩:=zDa hc
 cases e3
 refine h k e1 F O H σ _ s λv F' H' g r1=>?_
 refine h2 d e2 F' O H' σ _ (s.grow g) λw F2 H2 g2 r2=>?_
 cases r1
 obtain ⟨p,ks,rfl,z1,z2⟩:=r2
 refine ⟨p,_,rfl,DGet.k (k:=Sum.inl k) z1,?_⟩
 have e:(valV ks (Sum.inl k:Key)).isSome = (dget d.kv k).isSome:=by
  rcases z2.val (k:=Sum.inl k) with ⟨q1,q2⟩ | ⟨a,v,q1,q2,_⟩
  ·show _ = (gK d.kv (Sum.inl k)).isSome; rw [q1,q2]; rfl
  ·show _ = (gK d.kv (Sum.inl k)).isSome; rw [q1,q2]; rfl
 rw [e]
 exact kk _ F2 H2 (g.trans g2) rfl
theorem zN2 {kvs:List (Key × α)} {m:Option α} {mi:Option Int} {te ti:TE} (i:Nat) (hs:sl[i]? = some (.od kvs)) (hh:sl.all (λs=>!isHs s) = true) (hv:Ex B sl .fz te m) (hi:Ex B sl .hp ti mi) :
  Sn B sl (sDPut (tVar i) ti te) (λys=>sl.set i (.od ys)) (m.bind λa=>mi.bind λk=>dput kvs k a):=λys ha G D σ H s k=>by
 obtain ⟨a,ix,e1,e2,e3⟩:=zDa ha
 unfold dput at e3
 split at e3
 case isFalse=>cases e3
 rename_i hl
 cases e3
 obtain ⟨F,O,g,z⟩:=s
 refine hv a e1 F O H σ _ z λv F' H' gr r=>?_
 obtain ⟨p,ks,h1,h2,h3,_⟩:=(z.grow gr).chgD hs hh
 refine ⟨_,h1,?_⟩
 refine hi ix e2 F' O H' σ _ (z.grow gr) λw F2 H2 gr2 rw=>?_
 cases rw
 obtain ⟨p',ks',h1',h2',h3',h4'⟩:=((z.grow gr).grow gr2).chgD hs hh
 have e:=h1.symm.trans h1'
 cases e
 obtain ⟨O',z'⟩:=h4' (putK ks' (Sum.inl ix) v) (pK kvs (Sum.inl ix) a) (h3'.put (Rp.mono gr2.ff r))
 exact ⟨p,_,rfl,DPut.k (k:=Sum.inl ix) h2' (zDj (by rw [h3'.len]; exact hl)),k _ _ ⟨F2,O',(g.trans gr.ff).trans gr2.ff,z'⟩⟩
end
end Ts
namespace L2
open PySem PySem.Spec PyProof.Rows
section
variable {X:Cx} {tg:Expr}
end
end L2
namespace Ts
open PySem L2
section
variable {K:PySem.W.Frag} {B:Bs} {sl:SL K} {t1 t2 t3:TE} {n:Bool}
end
section
variable {K:PySem.W.Frag} {B:Bs} {sl:SL K} {md:Md} {t:TE} {u:TS} {al:Bool} {α:Type} [Rp K α]
abbrev rInt1:List V->Hp->VK->Prop:=λxs H Q=>(∃ i,xs = [.int i] /\ Q (.int i) H) \/ ∃ k,xs = [.bl k] /\ Q (.int (if k then 1 else 0)) H
theorem ex_intb (h:Ex B sl .hp t m):Ex B sl md (tCB rInt1 (xK t tNil)) (m.bind λb=>some (if b = true then (1:Int) else 0)):=λc hc F O H σ Q s k=>by
 cases m with
 | none=>cases hc
 | some b =>
  cases (show some (if b = true then (1:Int) else 0) = some c from hc)
  refine h b rfl F O H σ _ s λv F' H' g r1=>?_
  cases r1
  exact .inr ⟨b,rfl,k _ F' H' g rfl⟩
end
end Ts
namespace L2
open PySem PySem.Spec PyProof.Rows
section
variable {X:Cx}
theorem KV.key_at {ks:List (Key × V)} {vs:List (Key × Value)} (r:KV ks vs):ks.map (·.1) = vs.map (·.1):=by
 unfold KV at r
 induction r with
 | nil=>rfl
 | cons h _ ih=>rw [map_cons,map_cons,h.1,ih]
end
end L2
namespace Ts
open PySem L2
section
variable {K:PySem.W.Frag} {B:Bs} {sl:SL K} {md:Md} {t:TE} {α:Type} [Rp K α]
def zFk {β:Type}:List (Key × β)->Option LI
 | []=>some []
 | (.inl k,_) :: r=>(zFk r).bind λns=>some (k :: ns)
 | (.inr _,_) :: _=>none
theorem zLe {β:Type}:∀ {kvs:List (Key × β)} {ns:LI},zFk kvs = some ns->kvs.map (·.1) = ns.map Sum.inl
 | [],ns,h=>by cases h; rfl
 | (.inl k,v) :: r,ns,h=>by
  unfold zFk at h
  cases e:zFk r with
  | none=>rw [e] at h; cases h
  | some ms=>rw [e] at h; cases h; rw [map_cons,map_cons,zLe e]
 | (.inr _,_) :: _,ns,h=>by cases h
variable {S:Type} {n:Bool} {tb:TS}
end
end Ts
namespace L2
open PySem
open PySem PySem.Spec PyProof.Rows
def Its (x:Str):It:=⟨λi _=>i < x.cps.size,λi H v H'=>H' = H /\ ∃ c,x.cps[i]? = some c /\ v = .str ⟨#[c]⟩,λi _=>x.cps.size <= i⟩
theorem zL8 {P:Program} {w:World} {K:PySem.W.Frag} {tg:Expr} (it:Addr) (x:Str) (t:Tok):Turn P w K tg (Its x) [it] it (λi h=>h.IsStrIter it "str_ascii_iterator" x t i) where
 mem:=mem_singleton.mpr rfl
 obj:=λi h st b hb=>by
  have e:b = it:=mem_singleton.mp hb
  subst e
  obtain ⟨o,ho,hc,hd⟩:=st
  refine ⟨o,ho,λv z=>?_⟩
  rw [hd] at z
  cases z
 keep:=λi h h' st k=>by
  obtain ⟨o,ho,r⟩:=st
  exact ⟨o,k it (mem_singleton.mpr rfl) _ ho,r⟩
 item:=by
  intro X hP hw hK hc i pins s σ H E I hf st hg
  subst hP hw hK
  obtain ⟨f0,f1,f2,f3,f4,f5⟩:=hf it (mem_singleton.mpr rfl)
  refine (Walks.strAscii (prog:=X.prog) (w:=X.w) (I.ok.hd hc) it x t).item i s _ _ hg st λv h' tk hv st' kk=>?_
  obtain ⟨c,u,hx,rfl⟩:=hv
  have I1:Inv X pins σ H { s with heap:=h',toks:=tk }:=I.turned (λb o hb e=>kk b o (λz=>hb (mem_singleton.mp z)) e) f0 f1 f3 f4 f5
  obtain ⟨o,ho,hc,hd⟩:=id st'
  exact ⟨_,rfl,zPr (s:={ s with heap:=h',toks:=tk }) (n:="str_ascii_iterator") ho hc hd (by decide) ⟨.str ⟨#[c]⟩,H,I1,⟨u,rfl⟩,⟨rfl,c,hx,rfl⟩,st',λb hb=>(hf b hb).1⟩⟩
 done:=by
  intro X hP hw hK hc i pins s σ H E I hf st hg
  subst hP hw hK
  obtain ⟨f0,f1,f2,f3,f4,f5⟩:=hf it (mem_singleton.mpr rfl)
  exact wpAny_pyNext_ascii_end (I.ok.hd hc) st (Array.getElem?_eq_none hg) λh' eb=>⟨rfl,I.turned (t':=s.toks) (λb o hb e=>eb b o hb e) f0 f1 f3 f4 f5⟩
 self:=λ_ _ _ _ _ st h=>wpAny_pyIter_striter_ascii st h
theorem zNn {P:Program} {w:World} {K:PySem.W.Frag} {tg:Expr} (it:Addr) (x:Str) (t:Tok):Turn P w K tg (Its x) [it] it (λi h=>h.IsStrIter it "str_iterator" x t i) where
 mem:=mem_singleton.mpr rfl
 obj:=λi h st b hb=>by
  have e:b = it:=mem_singleton.mp hb
  subst e
  obtain ⟨o,ho,hc,hd⟩:=st
  refine ⟨o,ho,λv z=>?_⟩
  rw [hd] at z
  cases z
 keep:=λi h h' st k=>by
  obtain ⟨o,ho,r⟩:=st
  exact ⟨o,k it (mem_singleton.mpr rfl) _ ho,r⟩
 item:=by
  intro X hP hw hK hc i pins s σ H E I hf st hg
  subst hP hw hK
  obtain ⟨f0,f1,f2,f3,f4,f5⟩:=hf it (mem_singleton.mpr rfl)
  refine (Walks.strWide (prog:=X.prog) (w:=X.w) (I.ok.hd hc) it x t).item i s _ _ hg st λv h' tk hv st' kk=>?_
  obtain ⟨c,u,hx,rfl⟩:=hv
  have I1:Inv X pins σ H { s with heap:=h',toks:=tk }:=I.turned (λb o hb e=>kk b o (λz=>hb (mem_singleton.mp z)) e) f0 f1 f3 f4 f5
  obtain ⟨o,ho,hc,hd⟩:=id st'
  exact ⟨_,rfl,zPr (s:={ s with heap:=h',toks:=tk }) (n:="str_iterator") ho hc hd (by decide) ⟨.str ⟨#[c]⟩,H,I1,⟨u,rfl⟩,⟨rfl,c,hx,rfl⟩,st',λb hb=>(hf b hb).1⟩⟩
 done:=by
  intro X hP hw hK hc i pins s σ H E I hf st hg
  subst hP hw hK
  obtain ⟨f0,f1,f2,f3,f4,f5⟩:=hf it (mem_singleton.mpr rfl)
  exact wpAny_pyNext_wide_end (I.ok.hd hc) st (Array.getElem?_eq_none hg) λh' eb=>⟨rfl,I.turned (t':=s.toks) (λb o hb e=>eb b o hb e) f0 f1 f3 f4 f5⟩
 self:=λ_ _ _ _ _ st h=>wpAny_pyIter_striter_wide st h
section
variable {X:Cx} {tg:Expr}
def iStr (tl:TE):TI:=λσ H R=>tl σ H λx H1=>∃ y,x = .str y /\ R (Its y) H1
theorem pi_str (hl:PE X l tl):PI X tg l (iStr tl):=by
 intro pins s σ H R I h
 refine thn (hl pins s σ H _ I h) λv s1 ⟨x,H1,I1,r1,q1⟩=>?_
 obtain ⟨y,e,q⟩:=q1
 subst e
 obtain ⟨t,rfl⟩:=r1
 have fp:∀ b ∈ [s1.heap.objs.size],FpOk X pins H1 b:=λb hb=>by
  have e:b = s1.heap.objs.size:=mem_singleton.mp hb
  subst e
  exact I1.fpOk (Nat.le_refl _) (I1.hok.fresh (Nat.le_refl _))
 cases ha:y.cps.all (· < 128)
 ·exact wpAny_pyIter_wide ha ⟨s1.heap.objs.size,[s1.heap.objs.size],_,_,H1,rfl,I1.kept (t':=s1.toks) λb o e=>get?_push_of_some _ e,zNn _ y t,⟨_,get?_push_size _ rfl,rfl,rfl⟩,fp,q⟩
 ·exact wpAny_pyIter_ascii ha ⟨s1.heap.objs.size,[s1.heap.objs.size],_,_,H1,rfl,I1.kept (t':=s1.toks) λb o e=>get?_push_of_some _ e,zL8 _ y t,⟨_,get?_push_size _ rfl,rfl,rfl⟩,fp,q⟩
end
end L2
namespace Ts
open PySem L2
section
variable {K:PySem.W.Frag} {B:Bs} {sl:SL K} {md:Md} {t ta tb tc:TE} {n:Bool}
def zGd (x:Str):List Str:=x.cps.toList.map λc=>(⟨#[c]⟩:Str)
theorem ei_str (h:Ex B sl .hp t mi):Ei B sl n (iStr t) (mi.bind λx=>some (zGd x)):=λxs hx F O H σ R a k=>by
 cases mi with
 | none=>cases hx
 | some x =>
  cases (show some (zGd x) = some xs from hx)
  refine h x rfl F O H σ _ a λv F' H' gr r=>?_
  cases r
  refine ⟨x,rfl,k _ F' H' gr λi F2 O2 H2 sf k2=>⟨λhl=>?_,λy hy=>?_⟩⟩
  ·show x.cps.size <= i
   unfold zGd at hl
   rw [length_map,length_toList] at hl
   exact hl
  ·unfold zGd at hy
   rw [getElem?_map,getElem?_toList] at hy
   cases e:x.cps[i]? with
   | none=>rw [e] at hy; cases hy
   | some c =>
    rw [e] at hy
    cases hy
    have hi:i < x.cps.size:=(Array.getElem?_eq_some_iff.mp e).1
    refine ⟨hi,λv H3 yd=>?_⟩
    obtain ⟨rfl,c',e',rfl⟩:=yd
    rw [e] at e'
    cases e'
    exact ⟨F2,.refl k2,rfl⟩
theorem zLo {f g:Int->Int->Bool} (h1:Ex B sl .hp ta m1) (h2:Ex B sl .hp tb m2) (h3:Ex B sl .hp tc m3) :
  Ex B sl md (zS7 (rI0 λi j=>.bl (f i j)) (rI0 λi j=>.bl (g i j)) ta tb tc) (m1.bind λa=>m2.bind λb=>if f a b = true then m3.bind λc=>some (g b c) else some false):=λd hd F O H σ Q s k=>by
 obtain ⟨a,b,e1,e2,e3⟩:=zDa hd
 refine h1 a e1 F O H σ _ s λv F' H' g1 r1=>?_
 refine h2 b e2 F' O H' σ _ (s.grow g1) λw F2 H2 g2 r2=>?_
 cases r1
 cases r2
 refine ⟨a,b,rfl,rfl,_,rfl,?_⟩
 by_cases q:f a b = true
 ·rw [if_pos q] at e3 ⊢
  cases m3 with
  | none=>cases e3
  | some c =>
   cases (show some (g b c) = some d from e3)
   refine h3 c rfl F2 O H2 σ _ ((s.grow g1).grow g2) λu F3 H3 g3 r3=>?_
   cases r3
   exact ⟨b,c,rfl,rfl,k _ F3 H3 ((g1.trans g2).trans g3) rfl⟩
 ·rw [if_neg q] at e3 ⊢
  cases e3
  exact k _ F2 H2 (g1.trans g2) rfl
def rLenS:List V->Hp->VK->Prop:=λxs H Q=>∃ x:Str,xs = [.str x] /\ x.length < cap /\ Q (.int x.length) H
theorem zQk:zAx X (.builtin "len") rLenS:=by
 intro pins s σ H xs us Q I r h
 obtain ⟨x,rfl,hl,q⟩:=h
 exact zSs pins s σ H _ us Q I r ⟨_,_,rfl,⟨Nat.le_of_lt (zDj hl),rfl⟩,q⟩
def lenS (x:Str):Option Int:=if x.length < cap then some (x.length:Int) else none
theorem ex_lenS (h:Ex B sl .hp t m):Ex B sl md (tCB rLenS (xK t tNil)) (m.bind lenS):=λc hc F O H σ Q s k=>by
 cases m with
 | none=>cases hc
 | some x =>
  have hc:lenS x = some c:=hc
  unfold lenS at hc
  split at hc
  case isFalse=>cases hc
  rename_i hl
  cases hc
  refine h x rfl F O H σ _ s λv F' H' g r1=>?_
  cases r1
  exact ⟨x,rfl,hl,k _ F' H' g rfl⟩
def inS (i j:Str):Bool:=!(Builtin.Str.occurrences j i 0 j.length 1).isEmpty
abbrev rInS:R2:=λx y H Q=>∃ i j,x = .str i /\ y = .str j /\ Q (.bl (!(Builtin.Str.occurrences j i 0 j.length 1).isEmpty)) H
theorem ex_inS (h1:Ex B sl .hp ta m1) (h2:Ex B sl .hp tb m2):Ex B sl md (tOp rInS ta tb) (m1.bind λa=>m2.bind λb=>some (inS a b)) :=
 zEr (f:=λa b=>some (inS a b)) (λa b c v w H Q e r1 r2 q=>by
  cases e
  cases r1
  cases r2
  exact ⟨a,b,rfl,rfl,q⟩) h1 h2
theorem ex_inT {ws:List Str} (hT:∀ H,SqT K H p (ws.map V.str)) (h:Ex B sl .hp t m):Ex B sl md (tOp (rIn K false) t (tC (.ref p))) (m.bind λx=>some (decide (x ∈ ws))):=λc hc F O H σ Q s k=>by
 cases m with
 | none=>cases hc
 | some x =>
  cases (show some (decide (x ∈ ws)) = some c from hc)
  refine h x rfl F O H σ _ s λv F' H' g r1=>?_
  cases r1
  refine ⟨p,_,rfl,.inr (hT H'),Fl.flat (K:=K) x,zJ4 (K:=K) ws,?_⟩
  have:=zLh (K:=K) x ws
  simp only [Bool.false_eq_true,if_false]
  rw [show inV (V.str x) (ws.map V.str) = decide (x ∈ ws) from this]
  exact k _ F' H' g rfl
end
section
variable {P:Program} {w:World} {K:PySem.W.Frag} {mg:Str->Option Value} {base:Heap} {B:Bs} {sl:SL K} {al:Bool} {S β:Type} [Rp K β]
theorem zBm:Sn B sl zS4 L none:=λa ha=>by cases ha
theorem zG9 {A:Type} {as:A->SL K} {fM:A->Option Unit} (F:Fun K x qual st f fd) (S:FnScope N ps (zK st)) (hf:∀ a,(as a).all isF = true) (hl:∀ a,(as a).length = ps.length)
  (hb:∀ (cdv:Value) (A:Around) (outer:List Env) (s:Shared) (H:Hp) (E:XK),Room k (A.deeper (PyProof.Rows.envOfC qual (zK st) s.heap.objs.size f cdv)) ->
   ∃ t,PSs (cxOf CX0 P w K mg base N qual (zK st) f cdv A outer s H E).nox (wI st) t /\ ∀ Fa a,∃ L:Unit->SL K,Sn ⟨Fa,H⟩ (as a ++ replicate (N.length - ps.length) .un) t L (fM a)) :
  FnOk P w K mg base CX0 (k + 1) f fd ps (spF K al as fM) :=
 F.ok S (λvs H Q E h=>zS8 hl h) λcdv A outer s H vs Q E hr h=>by
  obtain ⟨t,p,q⟩:=hb cdv A outer s H E hr
  refine ⟨t,p,?_⟩
  obtain ⟨a,b,Fa,s,hfa,r,kk⟩:=h
  have e:L2.start N vs = vs.map some ++ replicate (N.length - ps.length) none:=by
   unfold L2.start
   rw [r.len,hl]
  rw [e]
  obtain ⟨L,q⟩:=q Fa a
  exact q b hfa Fa _ _ H ⟨Fa,[],.refl _,⟨s,.refl _,λb o h=>.inl h,λx hx=>(by cases hx),(by simp)⟩,zD3 _ (hf a) r⟩ λσ' H' ⟨F',O',g,a'⟩=>kk .non H' a'.1.h0 rfl
def fsI (a:Str) (i:Int):Option Str:=if i.natAbs.log2 < 1920 then some (a ++ Str.ofString (toString i)) else none
def fsS (a z:Str):Option Str:=if z.length <= 1000 then some (a ++ z) else none
theorem zT2 (a:Str) (h:Ex B sl .hp t m):Ex B sl md (tFs a t) (m.bind (fsI a)):=λc hc F O H σ Q s k=>by
 cases m with
 | none=>cases hc
 | some i =>
  have hc:fsI a i = some c:=hc
  unfold fsI at hc
  split at hc
  case isFalse=>cases hc
  rename_i hl
  cases hc
  refine h i rfl F O H σ _ s λv F' H' g r1=>?_
  cases r1
  exact .inl ⟨i,rfl,hl,k _ F' H' g rfl⟩
theorem ex_fsS (a:Str) (h:Ex B sl .hp t m):Ex B sl md (tFs a t) (m.bind (fsS a)):=λc hc F O H σ Q s k=>by
 cases m with
 | none=>cases hc
 | some i =>
  have hc:fsS a i = some c:=hc
  unfold fsS at hc
  split at hc
  case isFalse=>cases hc
  rename_i hl
  cases hc
  refine h i rfl F O H σ _ s λv F' H' g r1=>?_
  cases r1
  exact .inr ⟨i,rfl,hl,k _ F' H' g rfl⟩
theorem ki_ss:kitOne K (.type "str") (.type "str") = some true:=rfl
theorem zQo:bootBuiltins "str" = some (.type "str"):=by decide +kernel
end
section
variable {β:Type}
abbrev zIp (kvs:List (Key × β)) (k:Str):Option β:=gK kvs (Sum.inr k)
def zP9 (kvs:List (Key × β)) (k:Str) (v:β):Option (List (Key × β)):=if kvs.length < cap then some (pK kvs (Sum.inr k) v) else none
end
section
variable {K:PySem.W.Frag} {α:Type} [Rp K α]
variable {B:Bs} {sl:SL K} {md:Md} {t t2:TE} {F H G:Hp} {O:Own} {σ:St} {u:TS} {al:Bool}
theorem ex_dinS {m:Option Str} {m2:Option (Dc α)} (h:Ex B sl .hp t m) (h2:Ex B sl .hp t2 m2):Ex B sl md (tDIn t t2) (m.bind λk=>m2.bind λd=>some (zIp d.kv k).isSome):=λc hc F O H σ Q s kk=>by
 obtain ⟨k,d,e1,e2,e3⟩:=zDa hc
 cases e3
 refine h k e1 F O H σ _ s λv F' H' g r1=>?_
 refine h2 d e2 F' O H' σ _ (s.grow g) λw F2 H2 g2 r2=>?_
 cases r1
 obtain ⟨p,ks,rfl,z1,z2⟩:=r2
 refine ⟨p,_,rfl,DGet.k (k:=Sum.inr k) z1,?_⟩
 have e:(valV ks (Sum.inr k:Key)).isSome = (zIp d.kv k).isSome:=by
  rcases z2.val (k:=Sum.inr k) with ⟨q1,q2⟩ | ⟨a,v,q1,q2,_⟩
  ·show _ = (gK d.kv (Sum.inr k)).isSome; rw [q1,q2]; rfl
  ·show _ = (gK d.kv (Sum.inr k)).isSome; rw [q1,q2]; rfl
 rw [e]
 exact kk _ F2 H2 (g.trans g2) rfl
theorem zRd {kvs:List (Key × α)} {m:Option α} {mi:Option Str} {te ti:TE} (i:Nat) (hs:sl[i]? = some (.od kvs)) (hh:sl.all (λs=>!isHs s) = true) (hv:Ex B sl .fz te m) (hi:Ex B sl .hp ti mi) :
  Sn B sl (sDPut (tVar i) ti te) (λys=>sl.set i (.od ys)) (m.bind λa=>mi.bind λk=>zP9 kvs k a):=λys ha G D σ H s k=>by
 obtain ⟨a,ix,e1,e2,e3⟩:=zDa ha
 unfold zP9 at e3
 split at e3
 case isFalse=>cases e3
 rename_i hl
 cases e3
 obtain ⟨F,O,g,z⟩:=s
 refine hv a e1 F O H σ _ z λv F' H' gr r=>?_
 obtain ⟨p,ks,h1,h2,h3,_⟩:=(z.grow gr).chgD hs hh
 refine ⟨_,h1,?_⟩
 refine hi ix e2 F' O H' σ _ (z.grow gr) λw F2 H2 gr2 rw=>?_
 cases rw
 obtain ⟨p',ks',h1',h2',h3',h4'⟩:=((z.grow gr).grow gr2).chgD hs hh
 have e:=h1.symm.trans h1'
 cases e
 obtain ⟨O',z'⟩:=h4' (putK ks' (Sum.inr ix) v) (pK kvs (Sum.inr ix) a) (h3'.put (Rp.mono gr2.ff r))
 exact ⟨p,_,rfl,DPut.k (k:=Sum.inr ix) h2' (zDj (by rw [h3'.len]; exact hl)),k _ _ ⟨F2,O',(g.trans gr.ff).trans gr2.ff,z'⟩⟩
end
abbrev LLI:=List LI
abbrev MKs:=List (Str × LI)
structure RefTo (p:Addr) where
 u:Unit
def mkG (C:Addr) (fS:LLI->Option Unit) (fM:MKs->Int->Option Unit) (fF:LLI->Int->Option Unit) (fC fO:LLI->Option LLI) (xss:LLI) (mo:Option MKs) (fo:Option LLI):Option (Mach C) :=
 (fS xss).bind λ_=>(fM (mo.getD []) (xss.length:Int)).bind λ_=>(fF (fo.getD []) (xss.length:Int)).bind λ_=>(fC xss).bind λa=>(xM (λ_=>some true) (λx:Str × LI=>some (x.1,x.2)) (mo.getD [])).bind λb =>
  (fC (fo.getD [])).bind λc=>(fO a).bind λd=>some ⟨a,b,c,d⟩
theorem zAa {α β:Type} {m:Option α} {f:α->Option β} {b:β} (h:m.bind f = some b):∃ a,m = some a /\ f a = some b:=by
 cases m with
 | none=>cases h
 | some a=>exact ⟨a,rfl,h⟩
section
variable {K:PySem.W.Frag} {C:Addr} {B:Bs} {sl:SL K} {F H:Hp} {O:Own} {σ:St}
instance:Rp K (RefTo p):=⟨λ_ v _=>v = .ref p,λ_ h=>h⟩
def zNz (K:PySem.W.Frag) (C:Addr) (mk:LLI->Option MKs->Option LLI->Option (Mach C)):Sp:=λvs H Q _=>∃ (p dx:Addr) (vS vM vF:V) (xss:LLI) (mo:Option MKs) (fo:Option LLI) (M:Mach C),vs = [.ref p,vS,vM,vF] /\ H p = some (.ins C dx []) /\
 rp K (hid H p) vS xss /\ rp K (hid H p) vM mo /\ rp K (hid H p) vF fo /\ mk xss mo fo = some M /\ ∀ H':Hp,(∀ b o,b ≠ p->H b = some o->H' b = some o)->rp K (dif H' (hid H p)) (.ref p) M->Q .non H'
variable {mk:LLI->Option MKs->Option LLI->Option (Mach C)}
theorem zQ9 {H1:Hp} {x dx:Addr} (nx:H1 x = none) (ndx:H1 dx = none) {vS vM vF:V} {xss:LLI} {mo:Option MKs} {fo:Option LLI} {c:Mach C} (rS:rp K H1 vS xss) (rM:rp K H1 vM mo) (rF:rp K H1 vF fo) (hc:mk xss mo fo = some c) {Q:VK} {E:XK}
  (k:∀ H2:Hp,Same H1 H2->rp K (dif H2 H1) (.ref x) c->Q (.ref x) H2):zNz K C mk [.ref x,vS,vM,vF] (upd (upd H1 dx (.own x)) x (.ins C dx [])) (λv H2=>v = .non /\ Q (.ref x) H2) E:=by
 have sG:Same H1 (upd (upd H1 dx (.own x)) x (.ins C dx [])):=λb o e=>by rw [zQ (zS e nx),zQ (zS e ndx)]; exact e
 have sh:Same H1 (hid (upd (upd H1 dx (.own x)) x (.ins C dx [])) x):=λb o e=>by
  unfold hid
  rw [if_neg (zS e nx)]
  exact sG b o e
 refine ⟨x,dx,vS,vM,vF,xss,mo,fo,c,rfl,zR,Rp.mono sh rS,Rp.mono sh rM,Rp.mono sh rF,hc,λH2 kp r2=>⟨rfl,?_⟩⟩
 refine k H2 (λb o e=>kp b o (zS e nx) (sG b o e)) (Rp.mono (λb o e=>?_) r2)
 have hb:H1 b = none:=by
  cases q:H1 b with
  | none=>rfl
  | some u =>
   have:hid (upd (upd H1 dx (.own x)) x (.ins C dx [])) x b = some u:=sh b u q
   unfold dif at e
   rw [this] at e
   cases e
 rw [xU hb]
 exact dif_le _ _ e
theorem zP7 (h1:Ex B sl .hp t1 m1) (h2:Ex B sl .hp t2 m2) (h3:Ex B sl .hp t3 m3) :
  En B sl (tMake C (zNz K C mk) [] E0 (xK t1 (xK t2 (xK t3 tNil)))) (m1.bind λa=>m2.bind λb=>m3.bind λc=>mk a (some b) (some c)):=λc hc F O H σ Q s kk=>by
 obtain ⟨a,rfl,hc⟩:=zAa (m:=m1) hc
 obtain ⟨b,rfl,hc⟩:=zAa (m:=m2) hc
 obtain ⟨d,rfl,hc⟩:=zAa (m:=m3) hc
 refine h1 a rfl F O H σ _ s λv1 F1 H1 g1 r1=>?_
 refine h2 b rfl F1 O H1 σ _ (s.grow g1) λv2 F2 H2 g2 r2=>?_
 refine h3 d rfl F2 O H2 σ _ ((s.grow g1).grow g2) λv3 F3 H3 g3 r3=>?_
 intro x dx nx ndx nex
 have r2':rp K H2 v2 b:=r2
 have r3':rp K H3 v3 d:=r3
 exact zQ9 nx ndx (Rp.mono (g2.hh.trans g3.hh) r1) (show rp K H3 v2 (some b) from ⟨Nn.nn (K:=K) r2',Rp.mono g3.hh r2⟩) (show rp K H3 v3 (some d) from ⟨Nn.nn (K:=K) r3',r3⟩) hc λH4 s4 r4=>kk _ F3 H3 H4 (g1.trans (g2.trans g3)) s4 r4
theorem zEp (h:b ≠ p):hid H p b = H b:=by unfold hid; rw [if_neg h]
theorem zFz:hid H p p = none:=by unfold hid; rw [if_pos rfl]
theorem zIi:Same (hid H p) H:=λb o e=>by
 by_cases q:b = p
 ·subst q; rw [zFz] at e; cases e
 ·rw [zEp q] at e; exact e
theorem zBp (s:Same H H'):Same (hid H p) (hid H' p):=λb o e=>by
 by_cases q:b = p
 ·subst q; rw [zFz] at e; cases e
 ·rw [zEp q] at e ⊢; exact s b o e
theorem zBb:hid (upd H p o) p = hid H p:=by
 funext b
 by_cases q:b = p
 ·subst q; rw [zFz,zFz]
 ·rw [zEp q,zEp q,zQ q]
theorem zLa (kp:∀ b o,b ≠ p->H b = some o->Hi b = some o) (hp:Hi p ≠ none):Same (dif H' Hi) (dif (hid H' p) (hid H p)):=λb o e=>by
 have hb:Hi b = none:=by
  cases q:Hi b with
  | none=>rfl
  | some u=>unfold dif at e; rw [q] at e; cases e
 have nb:b ≠ p:=λq=>hp (by rw [<- q]; exact hb)
 rw [xU hb] at e
 have h0:hid H p b = none:=by
  rw [zEp nb]
  cases q:H b with
  | none=>rfl
  | some u=>rw [kp b u nb q] at hb; cases hb
 rw [xU h0,zEp nb]
 exact e
theorem zUa (hs:SlotsOk (K:=K) ⟨hid Hi p,Hi⟩ (hid Hi p) (lo (hid Hi p) [] Hi) Hi sl σ []):At (K:=K) ⟨hid Hi p,Hi⟩ sl (hid Hi p) [] Hi σ :=
 ⟨⟨zIi,.refl _,λb o h=>.inl h,λx hx=>(by cases hx),by simp⟩,hs⟩
end
end Ts
namespace SetP
open PySem
def Rz (xs:Array Nat):Prop:=∀ i k a b:Nat,i < k->xs[i]? = some a->xs[k]? = some b->a < b
theorem zHc (hr:Rz xs):∀ (fuel lo hi:Nat),hi - lo <= fuel->lo <= hi->hi <= xs.size->(∀ i a,i < lo->xs[i]? = some a->a < j)->(∀ i a,hi <= i->xs[i]? = some a->j <= a) ->
  (SetTable.below.go xs j fuel lo hi) <= xs.size /\ (∀ i a,i < SetTable.below.go xs j fuel lo hi->xs[i]? = some a->a < j) /\ (∀ i a,SetTable.below.go xs j fuel lo hi <= i->xs[i]? = some a->j <= a)
 | 0,lo,hi,hf,hl,hz,h1,h2=>by
  have e:lo = hi:=by omega
  subst e
  unfold SetTable.below.go
  exact ⟨hz,h1,h2⟩
 | fuel + 1,lo,hi,hf,hl,hz,h1,h2=>by
  unfold SetTable.below.go
  by_cases hlt:lo < hi
  ·rw [if_pos hlt]
   have hm:(lo + hi) / 2 < hi:=by omega
   have hm0:lo <= (lo + hi) / 2:=by omega
   have hms:(lo + hi) / 2 < xs.size:=by omega
   have e:xs.getD ((lo + hi) / 2) j = xs[(lo + hi) / 2]:=by simp [Array.getD,hms]
   dsimp only
   rw [e]
   by_cases hc:xs[(lo + hi) / 2] < j
   ·rw [if_pos hc]
    refine zHc hr fuel _ hi (by omega) (by omega) hz (λi a hi' ha=>?_) h2
    by_cases hi2:i = (lo + hi) / 2
    ·subst hi2
     rw [Array.getElem?_eq_getElem hms] at ha
     cases ha
     exact hc
    ·exact Nat.lt_trans (hr i ((lo + hi) / 2) a _ (by omega) ha (Array.getElem?_eq_getElem hms)) hc
   ·rw [if_neg hc]
    refine zHc hr fuel lo _ (by omega) (by omega) (by omega) h1 (λi a hi' ha=>?_)
    by_cases hi2:i = (lo + hi) / 2
    ·subst hi2
     rw [Array.getElem?_eq_getElem hms] at ha
     cases ha
     omega
    ·have:=hr ((lo + hi) / 2) i _ a (by omega) (Array.getElem?_eq_getElem hms) ha
     omega
  ·rw [if_neg hlt]
   have e:lo = hi:=by omega
   subst e
   exact ⟨hz,h1,h2⟩
theorem zHb (hr:Rz xs) (j:Nat):SetTable.below xs j <= xs.size /\ (∀ i a,i < SetTable.below xs j->xs[i]? = some a->a < j) /\ (∀ i a,SetTable.below xs j <= i->xs[i]? = some a->j <= a) :=
 zHc hr xs.size 0 xs.size (by omega) (Nat.zero_le _) (Nat.le_refl _) (λi a h=>absurd h (Nat.not_lt_zero _)) (λi a h1 h2=>by
  rw [Array.getElem?_eq_none h1] at h2
  cases h2)
theorem ins_at {α:Type} (xs:Array α) (p:Nat) (x:α) (hp:p <= xs.size) (i:Nat):(insertAt xs p x)[i]? = if i < p then xs[i]? else if i = p then some x else xs[i - 1]?:=by
 have e:insertAt xs p x = (xs.toList.take p ++ x :: xs.toList.drop p).toArray:=by
  unfold insertAt
  apply Array.ext'
  simp
  rw [List.take_of_length_le (by rw [List.length_drop,length_toList]; exact Nat.le_refl _)]
 rw [e,getElem?_toArray]
 have hl:p <= xs.toList.length:=by simpa using hp
 by_cases h1:i < p
 ·rw [if_pos h1,getElem?_append_left (by rw [length_take]; omega),getElem?_take_of_lt h1,getElem?_toList]
 ·rw [if_neg h1,getElem?_append_right (by rw [length_take]; omega),length_take,Nat.min_eq_left hl]
  by_cases h2:i = p
  ·subst h2; simp
  ·rw [if_neg h2]
   obtain ⟨k,rfl⟩:∃ k,i = p + 1 + k:=⟨i - (p + 1),by omega⟩
   rw [show p + 1 + k - p = k + 1 by omega,List.getElem?_cons_succ,List.getElem?_drop,getElem?_toList]
   congr 1
   omega
theorem ins_rz (hr:Rz xs) (hn:xs[SetTable.below xs j]? ≠ some j):Rz (insertAt xs (SetTable.below xs j) j):=by
 obtain ⟨b1,b2,b3⟩:=zHb hr j
 intro i k a b hik ha hb
 rw [ins_at _ _ _ b1] at ha hb
 generalize SetTable.below xs j = p at *
 have up:∀ m c,p <= m->xs[m]? = some c->j < c:=λm c hm hc=>by
  have h1:=b3 m c hm hc
  by_cases e:m = p
  ·subst e
   have:c ≠ j:=λz=>hn (by rw [hc,z])
   omega
  ·have hp:p < xs.size:=by
    have:m < xs.size:=by
     by_cases z:m < xs.size
     ·exact z
     ·rw [Array.getElem?_eq_none (by omega)] at hc; cases hc
    omega
   have h2:=hr p m _ c (by omega) (Array.getElem?_eq_getElem hp) hc
   have h3:=b3 p _ (Nat.le_refl _) (Array.getElem?_eq_getElem hp)
   omega
 by_cases i1:i < p
 ·rw [if_pos i1] at ha
  have ja:=b2 i a i1 ha
  by_cases k1:k < p
  ·rw [if_pos k1] at hb; exact hr i k a b hik ha hb
  ·rw [if_neg k1] at hb
   by_cases k2:k = p
   ·rw [if_pos k2] at hb; cases hb; exact ja
   ·rw [if_neg k2] at hb
    exact Nat.lt_trans ja (up (k - 1) b (by omega) hb)
 ·rw [if_neg i1] at ha
  have k1:¬ k < p:=by omega
  have k2:¬ k = p:=by omega
  rw [if_neg k1,if_neg k2] at hb
  by_cases i2:i = p
  ·rw [if_pos i2] at ha; cases ha; exact up (k - 1) b (by omega) hb
  ·rw [if_neg i2] at ha
   exact hr (i - 1) (k - 1) a b (by omega) ha hb
def Free (t:SetTable) (j:Nat):Prop:=t.place[SetTable.below t.place j]? ≠ some j
theorem zHt {t:SetTable} (h:∀ i,t.slot j ≠ .live i):Free t j:=λe=>by
 refine h (SetTable.below t.place j) ?_
 unfold SetTable.slot
 simp [e]
theorem zCy:∀ (fuel:Nat) (p:SetTable.Probe) (j:Nat) (d:Option Nat),(∀ d,p.dummy = some d->Free t d)->probe.go t f h fuel p = some (.empty j d)->Free t j /\ ∀ e,d = some e->Free t e
 | 0,p,j,d,hd,e=>by unfold probe.go at e; cases e
 | fuel + 1,p,j,d,hd,e=>by
  have adv:∀ q:SetTable.Probe,(t.advance q).dummy = q.dummy:=λq=>by
   unfold SetTable.advance
   split
   ·rfl
   ·rfl
  unfold probe.go at e
  cases hs:t.slot p.j with
  | empty =>
   rw [hs] at e
   cases e
   exact ⟨zHt (λi z=>by rw [hs] at z; cases z),hd⟩
  | dummy =>
   rw [hs] at e
   refine zCy fuel _ j d (λd' h'=>?_) e
   rw [adv] at h'
   cases h'
   exact zHt λi z=>by rw [hs] at z; cases z
  | live i =>
   rw [hs] at e
   dsimp only at e
   split at e
   ·cases e
   ·exact zCy fuel _ j d (λd' h'=>hd d' (by rw [adv] at h'; exact h')) e
theorem zG6 {t:SetTable} (e:t.freeSlot h = some (j,b)):Free t j:=by
 unfold SetTable.freeSlot at e
 split at e
 ·rename_i j' d hp
  cases e
  have q:=zCy (t:=t) _ _ j' d (λd h'=>by cases h') hp
  cases d with
  | none=>exact q.1
  | some d=>exact q.2 d rfl
 ·cases e
structure Tb (led:Bool) (t:SetTable):Prop where
 led:t.led = led
 rz:t.plain = true->Rz t.place
theorem zDq (h:Tb led t) (n:Nat):Tb led (t.standIn n):=⟨h.led,λz=>by cases z⟩
theorem tb_or (h:Tb led t) (n:Nat):Tb led (t.orStandIn n):=by
 unfold SetTable.orStandIn
 split
 ·exact h
 ·exact zDq h n
theorem tb_new (hb:Tb led t) (es:Array (Int × Value)) (h:Int) (x:Value):Tb led (layNew t es h x).2.1:=by
 unfold layNew
 cases e:t.freeSlot h with
 | none=>exact zDq hb _
 | some q =>
  obtain ⟨j,b⟩:=q
  dsimp only
  refine tb_or (t:=(t.put j).1) ⟨hb.led,λz=>?_⟩ _
  exact ins_rz (hb.rz z) (zG6 e)
theorem zHw (f:Nat->Option Nat) (n:Nat):Rz (((List.range n).filterMap λj=>(f j).map (j,·)).map (·.1)).toArray:=by
 have hp:(((List.range n).filterMap λj=>(f j).map (j,·)).map (·.1)).Pairwise (· < ·):=by
  rw [pairwise_map]
  refine Pairwise.filterMap _ ?_ (pairwise_lt_range (n:=n))
  intro a b hab x hx y hy
  cases ea:f a with
  | none=>rw [ea] at hx; cases hx
  | some u =>
   cases eb:f b with
   | none=>rw [eb] at hy; cases hy
   | some v =>
    rw [ea] at hx
    rw [eb] at hy
    cases hx
    cases hy
    exact hab
 intro i k a b hik ha hb
 rw [getElem?_toArray] at ha hb
 obtain ⟨h1,e1⟩:=List.getElem?_eq_some_iff.mp ha
 obtain ⟨h2,e2⟩:=List.getElem?_eq_some_iff.mp hb
 rw [<- e1,<- e2]
 exact pairwise_iff_getElem.mp hp i k h1 h2 hik
theorem zQ1 (hb:Tb led t) (es:Array (Int × Value)) (n:Nat):Tb led (relayAll t es n).2.1:=by
 unfold relayAll
 cases e:t.relaid (es.map (·.1)) n with
 | none=>exact zDq hb _
 | some q =>
  obtain ⟨t',order⟩:=q
  dsimp only
  split
  ·unfold SetTable.relaid SetTable.laid at e
   cases e2:SetTable.layClean (SetTable.sizeAbove n - 1) (es.map (·.1)) with
   | none=>rw [e2] at e; cases e
   | some owner =>
    rw [e2] at e
    cases e
    exact ⟨hb.led,λ_=>zHw _ _⟩
  ·exact zDq hb _
theorem zQ2 (led:Bool):Tb led (.fresh 0 0 led):=⟨rfl,λ_=>λi k a b _ h _=>by
 have:(#[]:Array Nat)[i]? = some a:=h
 simp at this⟩
section
variable {prog:Program} {w:World} {κ:Type} [DecidableEq κ] (knd:KeyKind prog w κ) (dec:Value->κ)
def Good (led:Bool) (h:Heap) (a:Addr) (ks:List κ):Prop :=
 ∃ o es ep t,h.get? a = some o /\ o.ExactSet /\ o.data = .set es ep t /\ ElemsOf knd es.toList /\ (es.toList.map λe=>dec e.2).Perm ks /\ ks.Nodup /\ es.size < scanBound /\ t.fits es.size = true /\ Tb led t
variable {knd} {dec} {led:Bool} {A:Around} {E:Value->Shared->Prop} {s:Shared}
theorem Good.len (g:Good knd dec led h a ks):ks.length < scanBound:=by
 obtain ⟨o,es,ep,t,_,_,_,_,p,_,hb,_⟩:=g
 rw [<- p.length_eq,length_map,length_toList]
 exact hb
theorem Good.keep {h':Heap} (g:Good knd dec led h a ks) (k:∀ o,h.get? a = some o->h'.get? a = some o):Good knd dec led h' a ks:=by
 obtain ⟨o,es,ep,t,h1,rest⟩:=g
 exact ⟨o,es,ep,t,k _ h1,rest⟩
theorem zIl (hdec:∀ k v,knd.is k v = true->dec v = k) (hel:ElemsOf knd es) (k:κ):es.findIdx? (λe=>knd.is k e.2) = none ↔ k ∉ es.map λe=>dec e.2:=by
 rw [List.findIdx?_eq_none_iff]
 constructor
 ·intro h hm
  obtain ⟨e,he,rfl⟩:=mem_map.mp hm
  obtain ⟨⟨k',hk,_⟩,_⟩:=hel e he
  have:=h e he
  rw [hdec k' _ hk,hk] at this
  cases this
 ·intro h e he
  cases q:knd.is k e.2 with
  | false=>rfl
  | true=>exact absurd (mem_map.mpr ⟨e,he,hdec _ _ q⟩) h
theorem zDg {h:Heap} (ho:h.get? a = some o) (hd:o.data = .set es ep t):(h.update a (Obj.putSet es' t')).get? a = some { o with data:=.set es' (ep + 1) t' }:=by
 have q:=get?_update_self (Obj.putSet es' t') ho (by rw [putSet_of es' t' hd]; rfl)
 rw [putSet_of es' t' hd] at q
 exact q
theorem zG5 {Q:Unit->Shared->Prop} (h:Q () s1):wpAny (model prog w) A (match b with | true=>rule "set.scan.the-table-gave-way" | false=>pure ()) Q E s1:=by
 cases b
 ·exact wpAny_pure h
 ·exact wpAny_rule h
theorem zLz {g:Bool->Sem Unit} (hg:∀ (b:Bool) (s₁:Shared) (Q':Unit->Shared->Prop),Q' () s₁->wpAny (model prog w) A (g b) Q' E s₁) {es1:Array (Int × Value)} {t2:SetTable} {R:Option Bool->Shared->Prop}
  (ho:s.heap.get? a = some o) (hx:o.ExactSet) (hd:o.data = .set es ep t) (hel:ElemsOf knd es1.toList) (hp:(es1.toList.map λe=>dec e.2).Perm ks) (nd:ks.Nodup) (hb:es1.size < scanBound) (hf:t2.fits es1.size = true) (tb:Tb led t2)
  (h:∀ h',SameBut a s.heap h'->Good knd dec led h' a ks->R (some true) { s with heap:=h' }) :
  wpAny (model prog w) A (storeSet a es1 t2 >>= λ_=>if (!dum && t2.tooFull) = true then (g (relayAll t2 es1 (grown es1.size)).2.2 >>= λ_=>storeSet a (relayAll t2 es1 (grown es1.size)).1 (relayAll t2 es1 (grown es1.size)).2.1 >>= λ_=>pure (some true)) else pure (some true)) R E s:=by
 refine wpAny_bind (wpAny_storeSet_of ho hd ?_ (fits_of_scanBound hb))
 have o1:=zDg (es':=es1) (t':=t2) ho hd
 have sb:=SameBut.update s.heap a (Obj.putSet es1 t2)
 split
 ·have rp:=relayAll_perm t2 es1 (grown es1.size)
  have rf:=relayAll_fits t2 es1 (grown es1.size)
  have rt:=zQ1 tb es1 (grown es1.size)
  generalize relayAll t2 es1 (grown es1.size) = L at rp rf rt ⊢
  obtain ⟨es2,t3,gv⟩:=L
  dsimp only at rp rf rt ⊢
  have sz:es2.size = es1.size:=by rw [<- length_toList,rp.length_eq,length_toList]
  refine wpAny_bind (hg _ _ _ (wpAny_bind (wpAny_storeSet_of o1 rfl (wpAny_pure (h _ (sb.trans (SameBut.update _ a _)) ⟨_,es2,_,t3,zDg (es':=es2) (t':=t3) o1 rfl,hx,rfl,hel.perm rp,(rp.map _).trans hp,nd,by rw [sz]; exact hb,rf,rt⟩)) (fits_of_scanBound (by rw [sz]; exact hb)))))
 ·exact wpAny_pure (h _ sb ⟨_,es1,_,t2,o1,hx,rfl,hel,hp,nd,hb,hf,tb⟩)
theorem tb_off (h:Tb led t):Tb led { t with plain:=false }:=⟨h.led,λz=>by cases z⟩
theorem zQu (hdec:∀ k v,knd.is k v = true->dec v = k) {Q:Bool->Shared->Prop} (hk:knd.is k x = true) (hs:x.scannable = true) (g:Good knd dec led s.heap a ks) (room:ks.length + 1 < scanBound)
  (h:∀ (h':Heap) (b:Bool),SameBut a s.heap h'->Good knd dec led h' a (if k ∈ ks then ks else k :: ks)->Q b { s with heap:=h' }) :
  wpAny (model prog w) A (setAddHashed a x (knd.hash k)) Q E s:=by
 obtain ⟨o,es,ep,t,ho,hx,hd,hel,hp,nd,hb,hf,tb⟩:=g
 have n:es.size = ks.length:=by rw [<- hp.length_eq,length_map,length_toList]
 unfold setAddHashed setAddHashedIn
 refine wpAny_holding (wpAny_bind (wpAny_setState_of ho hd hf ?_))
 dsimp only
 rw [byScan_of hs hb hel]
 simp only [↓reduceIte]
 unfold setAddByScan
 refine wpAny_bind (wpAny_bind (wpAny_rule (wpAny_bind (wpAny_setScan_of hk ho hd hf hel ?_))))
 have fi:=zIl hdec hel k
 cases hr:List.findIdx? (λe=>knd.is k e.2) es.toList with
 | some j =>
  have hm:k ∈ ks:=by
   refine hp.mem_iff.mp (Classical.byContradiction λz=>?_)
   rw [fi.mpr z] at hr
   cases hr
  dsimp only
  refine wpAny_pure (wpAny_pure ?_)
  have q:=h s.heap false (SameBut.refl a s.heap)
  rw [if_pos hm] at q
  exact q ⟨o,es,ep,t,ho,hx,hd,hel,hp,nd,hb,hf,tb⟩
 | none =>
  have hm:k ∉ ks:=λz=>fi.mp hr (hp.mem_iff.mpr z)
  dsimp only
  have lp:=layNew_perm t es (knd.hash k) x
  have lf:=layNew_fits t es (knd.hash k) x
  have lt:=tb_new tb es (knd.hash k) x
  generalize layNew t es (knd.hash k) x = L at lp lf lt ⊢
  obtain ⟨es1,t1,dum,gave⟩:=L
  dsimp only at lp lf lt ⊢
  rw [Array.toList_push] at lp
  have sz:es1.size = es.size + 1:=by rw [<- length_toList,lp.length_eq,length_append,length_toList]; rfl
  have hp1:(es1.toList.map λe=>dec e.2).Perm (k :: ks):=by
   refine (lp.map _).trans ?_
   rw [map_append]
   show (_ ++ [dec x]).Perm _
   rw [hdec k x hk]
   exact Perm.trans (l₂:=k :: es.toList.map λ(e:Int × Value)=>dec e.2) List.perm_append_comm (hp.cons k)
  have fin:∀ h',SameBut a s.heap h'->Good knd dec led h' a (k :: ks)->Q true { s with heap:=h' }:=λh' sb g'=>by
   have q:=h h' true sb
   rw [if_neg hm] at q
   exact q g'
  have nd1:(k :: ks).Nodup:=nodup_cons.mpr ⟨hm,nd⟩
  refine wpAny_bind (zG5 ?_)
  split
  ·refine wpAny_bind ?_
   rw [hashByValue_scannable 8 hs]
   refine wpAny_pure ?_
   refine zLz (led:=led) (dum:=dum) (λb s₁ Q' hq=>zG5 hq) ho hx hd ((hel.push hk hs).perm lp) hp1 nd1 (by rw [sz,n]; exact room) ?_ ?_ λh' sb g'=>?_
   ·split
    ·exact lf
    ·exact SetTable.fits_plain_off lf
   ·split
    ·exact lt
    ·exact tb_off lt
   ·exact wpAny_pure (fin h' sb g')
  ·refine wpAny_bind (wpAny_pure ?_)
   simp only [↓reduceIte]
   refine zLz (led:=led) (dum:=dum) (λb s₁ Q' hq=>zG5 hq) ho hx hd ((hel.push hk hs).perm lp) hp1 nd1 (by rw [sz,n]; exact room) lf lt λh' sb g'=>?_
   exact wpAny_pure (fin h' sb g')
end
open PySem PySem.Spec PyProof.Rows
section
variable {κ:Type} [DecidableEq κ]
def met (val:Nat->κ):Nat->List κ
 | 0=>[]
 | i + 1=>if val i ∈ met val i then met val i else val i :: met val i
theorem zO5 (val:Nat->κ):∀ i,(met val i).length <= i
 | 0=>Nat.le_refl _
 | i + 1=>by
  have ih:=zO5 val i
  unfold met
  split
  ·omega
  ·rw [length_cons]; omega
theorem zJy (val:Nat->κ) (k:κ):∀ i,k ∈ met val i ↔ ∃ j,j < i /\ val j = k
 | 0=>by simp [met]
 | i + 1=>by
  have ih:=zJy val k i
  have lt:(∃ j,j < i + 1 /\ val j = k) ↔ (∃ j,j < i /\ val j = k) \/ val i = k:=by
   constructor
   ·rintro ⟨j,hj,e⟩
    by_cases q:j = i
    ·subst q; exact .inr e
    ·exact .inl ⟨j,by omega,e⟩
   ·rintro (⟨j,hj,e⟩ | e)
    ·exact ⟨j,by omega,e⟩
    ·exact ⟨i,by omega,e⟩
  rw [lt,<- ih]
  show k ∈ (if val i ∈ met val i then met val i else val i :: met val i) ↔ _
  split
  ·rename_i hm
   exact ⟨.inl,λh=>h.elim id λe=>e ▸ hm⟩
  ·rw [mem_cons]
   exact ⟨λh=>h.elim (λe=>.inr e.symm) .inl,λh=>h.elim .inr λe=>.inl e.symm⟩
variable {prog:Program} {w:World} {knd:KeyKind prog w κ} {dec:Value->κ} {led:Bool} {A:Around} {R:Result->Shared->Prop} {I:Addr} {fp wr:List Addr} {G:Array GenState->Array GenState->Prop} {n:Nat} {P:Nat->Value->Prop} {St:Nat->Shared->Prop}
theorem loop_ok (hdec:∀ k v,knd.is k v = true->dec v = k) (W:WalksS prog w A.in1 I fp wr G n P St) (S:Addr) (off:S ∉ fp) (val:Nat->κ) (hval:∀ i v,P i v->knd.is (val i) v = true /\ v.scannable = true) (hb:n + 1 < scanBound) :
  ∀ (k i:Nat) (s:Shared),n - i = k->i <= n->St i s->Good knd dec led s.heap S (met val i)->(∀ s',Moved (S :: wr) G s s'->Good knd dec led s'.heap S (met val n)->R (.ok (.ret .none)) s')->codeAny (model prog w) A (.builtin "set.update.loop" ⟨[.ref S,.ref I],[]⟩) R s:=by
 have offw:S ∉ wr:=λh=>off (W.sub _ h)
 have sub:∀ b ∈ wr,b ∈ S :: wr:=λb hb=>mem_cons_of_mem _ hb
 intro k
 induction k with
 | zero =>
  intro i s hk hi st g fin
  have e:i = n:=by omega
  subst e
  refine codeAny_builtin F.entry_set_update_loop ?_
  rw [Around.under_plainId F.plain_set_update_loop _]
  refine wpAny_bind (m:=pyNext (.ref I)) (W.done s _ _ st λs' hm=>?_)
  exact wpAny_pure (fin s' (hm.mono sub) (g.keep λo h=>hm.heap S o offw h))
 | succ k ih =>
  intro i s hk hi st g fin
  have lt:i < n:=by omega
  refine codeAny_builtin F.entry_set_update_loop ?_
  rw [Around.under_plainId F.plain_set_update_loop _]
  refine wpAny_bind (m:=pyNext (.ref I)) (W.item i s _ _ lt st λv s' hP st' hm=>?_)
  obtain ⟨his,hsc⟩:=hval i v hP
  refine wpAny_bind (m:=holding [v] (setAdd S v)) (wpAny_holding ?_)
  unfold setAdd
  refine wpAny_holding (wpAny_bind (knd.pyHash (k:=val i) his ?_))
  refine zQu (led:=led) (s:={ s' with toks:=s'.toks + 1 }) hdec his hsc (g.keep λo h=>hm.heap S o offw h) (by have:=zO5 val i; omega) λh' b sb g'=>?_
  refine wpAny_pure ⟨plainId_quiet F.plain_set_update_loop _,ih (i + 1) _ (by omega) lt (W.frame _ s' _ _ st' (Nat.le_succ _) λb hb o e=>?_) g' λs'' hm'' g''=>?_⟩
  ·rw [sb.2 b (λh:b = S=>off (by rw [<- h]; exact hb))]; exact e
  ·refine fin s'' (Moved.trans W.gtrans ((hm.mono sub).then_heap (Nat.le_succ _) λb o hb e=>?_) hm'') g''
   rw [sb.2 b (λh:b = S=>hb (h ▸ mem_cons_self))]; exact e
end
section
variable {prog:Program} {w:World} {A:Around} {E:Value->Shared->Prop} {s:Shared}
def yL (w:World):Bool:=!w.params.followText "set-order"
theorem zR0 (a:Value) {Q₁:Value->Shared->Prop} (h:Q₁ (.ref s.heap.objs.size) { s with heap:=s.heap.push { cls:=.type "set",dict:=none,data:=.set #[] 0 (.fresh 0 0 (yL w)) } }) :
  codeAny (model prog w) A (.call (.builtin "set.__new__") ⟨[.type "set",a],[]⟩) (wants Q₁ E) s:=by
 refine codeAny_of_tree (wpAny_bind (m:=checkBuiltinCall "set.__new__" ⟨[.type "set",a],[]⟩) (wpAny_of_eq (F.newCall_set_1 a) (wpAny_pure ⟨plainId_quiet F.plain_set_new _,codeAny_builtin F.entry_set_new ?_⟩)))
 rw [Around.under_plainId F.plain_set_new _]
 unfold Builtin.«set.__new__» Builtin.Frozenset.newClass
 have sub:=sub_set_self
 obtain ⟨hp,g,d,tk,os⟩:=s
 dsimp only
 wp_walk
 refine wpAny_askSetting (wpAny_pure ?_)
 dsimp only
 simp only [newObj]
 exact wpAny_bind (wpAny_alloc (wpAny_pure (wpAny_pure h)))
theorem zG4 {κ:Type} [DecidableEq κ] {knd:KeyKind prog w κ} {dec:Value->κ} {h:Heap} (e:h.get? a = some { cls:=.type "set",dict:=none,data:=.set #[] 0 (.fresh 0 0 led) }):Good knd dec led h a [] :=
 ⟨_,#[],0,.fresh 0 0 led,e,⟨rfl,rfl,rfl⟩,rfl,λx hx=>by simp at hx,by simp,nodup_nil,by show 0 < 4096; decide,by cases led <;> rfl,zQ2 led⟩
set_option maxHeartbeats 4000000 in
theorem zLw {κ:Type} [DecidableEq κ] {knd:KeyKind prog w κ} {dec:Value->κ} (hdec:∀ k v,knd.is k v = true->dec v = k) {Q:Value->Shared->Prop} (val:Nat->κ) (hh:A.handled = none) (hl:s.heap.IsList l items)
  (hi:∀ (i:Nat) (v:Value),items[i]? = some v->knd.is (val i) v = true /\ v.scannable = true) (hb:items.size + 1 < scanBound)
  (h:∀ (h':Heap) (tk:Nat),Good knd dec (yL w) h' s.heap.objs.size (met val items.size)->(∀ b o,b < s.heap.objs.size->s.heap.get? b = some o->h'.get? b = some o)->Q (.ref s.heap.objs.size) { s with heap:=h',toks:=tk }) :
  wpAny (model prog w) A (call (.type "set") [.ref l]) Q E s:=by
 obtain ⟨c,tl,hmro⟩:=F.called_set.mro
 have hmade:=F.called_set.made
 have hsub:=F.called_set.sub
 refine wpAny_call (codeAny_of_tree (wpAny_pure ⟨Code.quiet_builtin _ (by decide +kernel),codeAny_builtin F.entry_type_call ?_⟩))
 rw [Around.under_plain (weight_type_call_type "set" [.ref l] []) rfl]
 have h1:=F.called_set.notType
 have h2:=F.called_set.canCreate
 have hct:=F.typeCall_set_1 (.ref l)
 repeat (any_goals (first | assumption | wp_step))
 refine codeAny_mono (zR0 (.ref l) (E:=E) (Q₁:=λobj s₁=>obj = .ref s.heap.objs.size /\ s₁ = { s with heap:=s.heap.push { cls:=.type "set",dict:=none,data:=.set #[] 0 (.fresh 0 0 (yL w)) } }) ⟨rfl,rfl⟩) λr s₁ hr=>?_
 cases r with
 | error e=>exact hr
 | ok fl =>
  cases fl with
  | ret obj =>
   obtain ⟨rfl,rfl⟩:=hr
   have hS:(s.heap.push { cls:=.type "set",dict:=none,data:=.set #[] 0 (.fresh 0 0 (yL w)) }).get? s.heap.objs.size = some { cls:=.type "set",dict:=none,data:=.set #[] 0 (.fresh 0 0 (yL w)) }:=get?_push_size _ rfl
   have hT:Shared.TypeIs { s with heap:=s.heap.push { cls:=.type "set",dict:=none,data:=.set #[] 0 (.fresh 0 0 (yL w)) } } (.ref s.heap.objs.size) "set":=⟨_,hS,rfl⟩
   have hli:=F.called_set.init.lookup
   have hbi:=F.called_set.init.bind (.ref s.heap.objs.size)
   repeat (any_goals (first | assumption | wp_step))
   refine codeAny_mono (codeAny_call_builtin (R:=wants (λr s₂=>r = .none /\ ∃ h' tk,s₂ = { s with heap:=h',toks:=tk } /\ Good knd dec (yL w) h' s.heap.objs.size (met val items.size) /\ (∀ b o,b < s.heap.objs.size->s.heap.get? b = some o->h'.get? b = some o)) E)
    F.called_set.init.plain F.entry_set_init (check_set_init_1 hT ?_)) λr₂ s₂ hr₂=>?_
   ·obtain ⟨ol,hol,hcl,nl,hdl⟩:=hl
    obtain ⟨ocls,odict,odata,oslots⟩:=ol
    simp only at hcl hdl
    subst hcl
    subst hdl
    have hol':(s.heap.push { cls:=.type "set",dict:=none,data:=.set #[] 0 (.fresh 0 0 (yL w)) }).get? l = some { cls:=.type "list",dict:=odict,data:=.seq items nl,slots:=oslots }:=get?_push_of_some _ hol
    have hsls:=F.sub_list_set
    have hslf:=F.sub_list_frozenset
    have hne:(Value.type "list" == Value.type "dict") = false:=by decide
    have hl1:(s.heap.push { cls:=.type "set",dict:=none,data:=.set #[] 0 (.fresh 0 0 (yL w)) }).IsList l items:=⟨_,hol',rfl,nl,rfl⟩
    unfold Builtin.«set.__init__» noKeywords Builtin.Frozenset.updateFrom
    generalize hPI:pyIter = PI
    wp_walk
    subst hPI
    refine wpAny_pyIter_list hl1 (wpAny_bind (wpAny_runValue ?_))
    have hlS:l < s.heap.objs.size:=lt_size hol
    have sz:(s.heap.push { cls:=.type "set",dict:=none,data:=.set #[] 0 (.fresh 0 0 (yL w)) }).objs.size = s.heap.objs.size + 1:=size_push ..
    have hneI:l ≠ (s.heap.push { cls:=.type "set",dict:=none,data:=.set #[] 0 (.fresh 0 0 (yL w)) }).objs.size:=by rw [sz]; exact Nat.ne_of_lt (Nat.lt_succ_of_lt hlS)
    refine loop_ok (led:=yL w) hdec ((Walks.list (by simp [hh]) _ l hneI items).toS) s.heap.objs.size (by
     rw [sz]
     intro z
     rcases mem_cons.mp z with z | z
     ·exact absurd z (Nat.ne_of_lt (Nat.lt_succ_self _))
     ·exact absurd (mem_singleton.mp z) (Nat.ne_of_gt hlS)) val hi hb (items.size - 0) 0 _ (by omega) (Nat.zero_le _) ⟨⟨_,get?_push_size _ rfl,rfl,rfl⟩,hl1.push _⟩ (zG4 (get?_push_of_some _ hS)) λs' hm g'=>?_
    obtain ⟨h',g1,d1,tk',os1⟩:=s'
    have eg:g1 = s.gens:=hm.gens
    have ed:d1 = s.drawn:=hm.drawn
    have eo:os1 = s.os:=hm.os
    subst eg ed eo
    refine wpAny_pure ?_
    refine wpAny_pure ⟨rfl,h',tk',rfl,g',λb o hb e=>hm.heap b o (λz=>?_) (get?_push_of_some _ (get?_push_of_some _ e))⟩
    rcases mem_cons.mp z with z | z
    ·exact absurd z (Nat.ne_of_lt hb)
    ·have z:=mem_singleton.mp z
     rw [sz] at z
     exact absurd z (Nat.ne_of_lt (Nat.lt_succ_of_lt hb))
   ·cases r₂ with
    | error e=>exact hr₂
    | ok fl₂ =>
     cases fl₂ with
     | ret r =>
      obtain ⟨rfl,h',tk,rfl,hS',hk'⟩:=hr₂
      repeat (any_goals (first | assumption | wp_step))
      exact h _ _ hS' hk'
     | _=>exact hr₂.elim
  | _=>exact hr.elim
end
set_option maxRecDepth 100000
theorem zKp:Manifest.owners.lookup (String.ofList ['r','o','t','a','r','e','t','i','_','t','e','s'].reverse) = some Manifest.sig_set_iterator:=by kernel_rfl
theorem si_next:Slot "set_iterator" "__next__" "set_iterator.__next__":=.of (owner:="set_iterator") (n:="__next__") (by rw [typeLookup_type,builtinLookup_eq_fast]; kernel_rfl) (by decide +kernel) (by decide +kernel) (by decide +kernel) (by first | exact .inl (by decide +kernel) | exact .inr (by decide +kernel)) (by rw [isSubtype_type]; kernel_rfl)
theorem zGe:entryFor table "set_iterator.__next__" = some Builtin.«set_iterator.__next__»:=entryFor_of_tree (by kernel_rfl)
theorem zHu (a:Value):argsOk "set_iterator.__next__" ⟨[a],[]⟩:=by unfold argsOk; rw [signature?_of (id:="set_iterator.__next__") (n:=['_','_','t','x','e','n','_','_']) (o:=['r','o','t','a','r','e','t','i','_','t','e','s']) (by kernel_rfl) zKp]; kernel_rfl
theorem zN4:Slot "set_iterator" "__iter__" "set_iterator.__iter__":=.of (owner:="set_iterator") (n:="__iter__") (by rw [typeLookup_type,builtinLookup_eq_fast]; kernel_rfl) (by decide +kernel) (by decide +kernel) (by decide +kernel) (by first | exact .inl (by decide +kernel) | exact .inr (by decide +kernel)) (by rw [isSubtype_type]; kernel_rfl)
theorem zGf:entryFor table "set_iterator.__iter__" = some Builtin.«dict_keyiterator.__iter__»:=entryFor_alias (id':="dict_keyiterator.__iter__") (by kernel_rfl) rfl (by decide +kernel) (by kernel_rfl)
theorem zHv (a:Value):argsOk "set_iterator.__iter__" ⟨[a],[]⟩:=by unfold argsOk; rw [signature?_of (id:="set_iterator.__iter__") (n:=['_','_','r','e','t','i','_','_']) (o:=['r','o','t','a','r','e','t','i','_','t','e','s']) (by kernel_rfl) zKp]; kernel_rfl
theorem zFf:entryFor table "set.__iter__" = some Builtin.«frozenset.__iter__»:=entryFor_alias (id':="frozenset.__iter__") (by kernel_rfl) rfl (by decide +kernel) (by kernel_rfl)
set_option maxRecDepth 100000
section
variable {prog:Program} {w:World} {A:Around} {E:Value->Shared->Prop} {s:Shared}
theorem zBq {α:Type}:∀ {l:List α} {i:Nat} (h:i < l.length),(l[i] :: l.eraseIdx i).Perm l
 | x :: l,0,h=>.refl _
 | x :: l,i + 1,h=>by
  have hi:i < l.length:=by simpa using h
  have ih:=zBq (l:=l) (i:=i) hi
  show (l[i] :: x :: l.eraseIdx i).Perm (x :: l)
  exact (Perm.swap _ _ _).trans (ih.cons x)
theorem zM9 {Q:Nat->Shared->Prop} (hn:0 < n) (h:∀ i d,i < n->Q i { s with drawn:=d }):wpAny (model prog w) A (choose src n) Q E s :=
 λ_ _ _=>⟨Nat.ne_of_gt hn,h _ _ (Nat.mod_lt _ hn)⟩
theorem zP8 {α:Type}:∀ (n:Nat) (xs:List α) (s:Shared) (Q:List α->Shared->Prop),xs.length = n->(∀ ys d,ys.Perm xs->Q ys { s with drawn:=d })->wpAny (model prog w) A (drawOrder n xs) Q E s
 | 0,xs,s,Q,hl,h=>by
  have e:xs = []:=length_eq_zero_iff.mp hl
  subst e
  unfold drawOrder
  exact wpAny_pure (h [] s.drawn (.refl _))
 | n + 1,[],s,Q,hl,h=>by simp at hl
 | n + 1,x :: xs,s,Q,hl,h=>by
  unfold drawOrder
  refine wpAny_bind (zM9 (by rw [hl]; omega) λi d hi=>?_)
  have e:(x :: xs)[i]? = some (x :: xs)[i]:=List.getElem?_eq_getElem hi
  rw [e]
  refine wpAny_bind (zP8 n _ _ _ (by rw [length_eraseIdx,if_pos hi,hl]; rfl) λys d' p=>?_)
  exact wpAny_pure (h _ d' ((p.cons _).trans (zBq hi)))
theorem zOi {α:Type} (next:Nat->Nat):∀ (fuel k:Nat) (left:List α) (out:Array α),left.length = fuel->(pickOrder.go next fuel k left out).toList.Perm (out.toList ++ left)
 | 0,k,left,out,hl=>by
  have e:left = []:=length_eq_zero_iff.mp hl
  subst e
  unfold pickOrder.go
  rw [append_nil]
 | fuel + 1,k,left,out,hl=>by
  have hi:next k % left.length < left.length:=Nat.mod_lt _ (by omega)
  unfold pickOrder.go
  rw [List.getElem?_eq_getElem hi]
  dsimp only
  refine (zOi next fuel (k + 1) _ _ (by rw [length_eraseIdx,if_pos hi,hl]; rfl)).trans ?_
  rw [Array.toList_push,append_assoc]
  exact Perm.append_left _ (zBq hi)
theorem zAi {α:Type} (next:Nat->Nat) (xs:Array α):(pickOrder next xs).toList.Perm xs.toList:=by
 have q:=zOi next xs.size 0 xs.toList #[] (by simp)
 have e:(#[]:Array α).toList ++ xs.toList = xs.toList:=rfl
 rw [e] at q
 exact q
variable {a it T:Addr} {o:Obj} {es:Array (Int × Value)} {ep:Nat} {t:SetTable}
theorem zAq {Q:Bool->Shared->Prop} (h:Q (w.params.followText "set-order") s):wpAny (model prog w) A setsByText Q E s:=by
 unfold setsByText
 exact wpAny_bind (wpAny_askSetting (wpAny_pure h))
theorem zSn {Q:Bool->Shared->Prop} (ho:s.heap.get? a = some o) (hd:o.data = .set es ep t) (hf:t.fits es.size = true) (h:Q (!w.params.followText "set-order" && (!t.plain && decide (es.size > 1))) s):wpAny (model prog w) A (setDrawn a) Q E s:=by
 unfold setDrawn
 refine wpAny_bind (wpAny_setState_of ho hd hf ?_)
 exact wpAny_bind (zAq (wpAny_pure h))
theorem zC6 {Q:Array (Int × Value)->Shared->Prop} (ho:s.heap.get? a = some o) (hd:o.data = .set es ep t) (hf:t.fits es.size = true) (h:Q es s):wpAny (model prog w) A (setEntries a) Q E s:=by
 unfold setEntries
 exact wpAny_bind (wpAny_setState_of ho hd hf (wpAny_pure h))
theorem zIe {Q:Option (Value × Nat)->Shared->Prop} (ho:s.heap.get? a = some o) (hd:o.data = .set es ep t) (hf:t.fits es.size = true) (hb:w.params.followText "set-order" = true)
  (h:Q (((pickOrder (w.params.setOrder a ep) es)[i]?).map λe=>(e.2,slot)) s):wpAny (model prog w) A (setNext a slot i ep) Q E s:=by
 unfold setNext
 refine wpAny_bind (wpAny_setState_of ho hd hf ?_)
 refine wpAny_bind (zAq ?_)
 rw [hb]
 simp only [↓reduceIte,bne_self_eq_false,Bool.false_eq_true]
 refine wpAny_bind ?_
 unfold setWalk
 refine wpAny_bind (wpAny_setState_of ho hd hf ?_)
 refine wpAny_bind (zAq ?_)
 rw [hb]
 simp only [↓reduceIte]
 refine wpAny_bind (wpAny_askSetting (wpAny_pure ?_))
 exact wpAny_pure h
theorem zFw {Q:Option (Value × Nat)->Shared->Prop} (ho:s.heap.get? a = some o) (hd:o.data = .set es ep t) (hf:t.fits es.size = true) (hb:w.params.followText "set-order" = false) (hl:t.led = true) (hn:(!t.plain && decide (es.size > 1)) = false)
  (h:Q (match es[SetTable.below t.place slot]?,t.place[SetTable.below t.place slot]? with | some (_,x),some j=>some (x,j + 1) | _,_=>none) s):wpAny (model prog w) A (setNext a slot i ep) Q E s:=by
 unfold setNext
 refine wpAny_bind (wpAny_setState_of ho hd hf ?_)
 refine wpAny_bind (zAq ?_)
 rw [hb]
 simp only [↓reduceIte,Bool.false_eq_true]
 show wpAny _ _ (if (!t.plain && decide (es.size > 1)) = true then _ else _) _ _ _
 rw [if_neg (by rw [hn]; exact Bool.false_ne_true)]
 refine wpAny_bind ?_
 show wpAny _ _ (if (!t.led && !es.isEmpty) = true then _ else pure ()) _ _ _
 rw [if_neg (by rw [hl]; exact Bool.false_ne_true)]
 exact wpAny_pure (wpAny_pure h)
theorem zMp {Q:Value->Shared->Prop} (ho:s.heap.get? a = some o) (hd:o.data = .set es ep t) (hf:t.fits es.size = true) (hx:es[place]? = some x) (h:Q x.2 s):wpAny (model prog w) A (setNextDrawn a place ep) Q E s:=by
 unfold setNextDrawn
 refine wpAny_bind (wpAny_setState_of ho hd hf ?_)
 simp only [bne_self_eq_false,Bool.false_eq_true,↓reduceIte,hx]
 exact wpAny_pure h
def itO (first:Value) (i:Nat) (a:Addr) (n ep:Nat):Obj:={ cls:=.type "set_iterator",data:=.fields #[first,.int i 0,.ref a,.int n 0,.int ep 0] }
theorem zR9 {Q:Value->Shared->Prop} (ho:s.heap.get? a = some o) (hx:o.ExactSet) (hd:o.data = .set es ep t) (hf:t.fits es.size = true)
  (h1:(!w.params.followText "set-order" && (!t.plain && decide (es.size > 1))) = false->Q (.ref s.heap.objs.size) { s with heap:=s.heap.push (itO (.int 0 0) 0 a es.size ep) })
  (h2:(!w.params.followText "set-order" && (!t.plain && decide (es.size > 1))) = true->es.size <= sizeLine /\ ∀ (d:Drawn) (ps:List Nat),ps.Perm (List.range es.size)->Q (.ref (s.heap.objs.size + 1)) { s with drawn:=d,heap:=(s.heap.push { cls:=.type "tuple",data:=.seq (ps.map λ(i:Nat)=>Value.int i 0).toArray }).push (itO (.ref s.heap.objs.size) 0 a es.size ep) }) :
  wpAny (model prog w) A (pyIter (.ref a)) Q E s:=by
 have hT:s.TypeIs (.ref a) "set":=⟨o,ho,hx.1⟩
 refine wpAny_pyIter_slot hT F.slot_set_iter (wpAny_call_entry F.slot_set_iter hT zFf ?_ (F.args_set_iter_1 _))
 unfold Builtin.«frozenset.__iter__»
 refine wpAny_bind (wpAny_pure ?_)
 refine wpAny_bind ?_
 unfold Builtin.Frozenset.sizeOf
 refine wpAny_bind (zC6 ho hd hf (wpAny_pure ?_))
 refine wpAny_bind (zSn ho hd hf ?_)
 cases hc:(!w.params.followText "set-order" && (!t.plain && decide (es.size > 1))) with
 | false =>
  simp only [Bool.false_eq_true,↓reduceIte]
  refine wpAny_bind (wpAny_pure ?_)
  refine wpAny_bind (wpAny_setEpoch_of ho hd hf ?_)
  exact wpAny_bind (wpAny_newObj_type (wpAny_pure ⟨_,rfl,"set_iterator",_,⟨_,get?_push_size _ rfl,rfl⟩,si_next.lookup,h1 hc⟩))
 | true =>
  obtain ⟨hz,h2⟩:=h2 hc
  simp only [↓reduceIte]
  refine wpAny_bind (zP8 _ _ _ _ (by simp) λps d hp=>?_)
  refine wpAny_bind (wpAny_newTuple ?_ (by rw [length_map,hp.length_eq,length_range]; exact hz))
  have ho':=get?_push_of_some ({ cls:=.type "tuple",data:=.seq (ps.map λ(i:Nat)=>rawInt i).toArray }:Obj) ho
  refine wpAny_bind (wpAny_setEpoch_of (s:={ s with drawn:=d,heap:=_ }) ho' hd hf ?_)
  refine wpAny_bind (wpAny_newObj_type (wpAny_pure ⟨_,rfl,"set_iterator",_,⟨_,get?_push_size _ rfl,rfl⟩,si_next.lookup,?_⟩))
  have q:=h2 d ps hp
  have sz:(s.heap.push ({ cls:=.type "tuple",data:=.seq (ps.map λ(i:Nat)=>Value.int i 0).toArray }:Obj)).objs.size = s.heap.objs.size + 1:=size_push ..
  rw [<- sz] at q
  exact q
end
set_option maxRecDepth 100000
section
variable {prog:Program} {w:World} {A:Around} {E:Value->Shared->Prop} {s:Shared} {a it T:Addr} {o:Obj} {es:Array (Int × Value)} {ep:Nat} {t:SetTable} {i:Nat} {first:Value}
theorem zCe {Q:Option Value->Shared->Prop} (hi:s.heap.get? it = some (itO first i a es.size ep)) (ho:s.heap.get? a = some o) (hd:o.data = .set es ep t) (hf:t.fits es.size = true)
  (h:wpAny (model prog w) A.in1 (if let .int slot _:=first then do
    match <- setNext a slot.toNat (i:Int).toNat (ep:Int).toNat with
    | some (x,next) =>
     setField (.ref it) 0 (rawInt next)
     setField (.ref it) 1 (rawInt ((i:Int) + 1))
     ret x
    | none=>setField (.ref it) 2 .none; raiseNew (<- newExc (.type "StopIteration") [])
   else do
    let some places <- seqItems? first | unsupported "internal:set_iterator"
    match places[(i:Int).toNat]? with
    | some (.int place _) =>
     let x <- setNextDrawn a place.toNat (ep:Int).toNat
     setField (.ref it) 1 (rawInt ((i:Int) + 1))
     ret x
    | some _=>unsupported "internal:set_iterator"
    | none=>setField (.ref it) 0 (rawInt 0); setField (.ref it) 2 .none; raiseNew (<- newExc (.type "StopIteration") []))
   (λfin s'=>∃ v,fin = .done (.ret v) /\ Q (some v) s')
   (λe s'=>s'.TypeIs e "StopIteration" /\ Q none s') s):wpAny (model prog w) A (pyNext (.ref it)) Q E s:=by
 have hT:s.TypeIs (.ref it) "set_iterator":=⟨_,hi,rfl⟩
 unfold pyNext
 refine wpAny_bind (wpAny_attempt (wpAny_callSpecial?_slot (name:=Str.ofString "__next__") hT si_next (wpAny_call_entry si_next hT zGe ?_ (zHu _))))
 unfold Builtin.«set_iterator.__next__»
 refine wpAny_bind (wpAny_pure ?_)
 refine wpAny_bind (wpAny_fieldsOf hi rfl ?_)
 dsimp only
 refine wpAny_bind (zC6 ho hd hf ?_)
 rw [if_neg (by simp)]
 exact wpAny_mono h (λfin s' ⟨v,e,q⟩=>⟨v,e,wpAny_pure q⟩) λe s' ⟨ty,q⟩=>wpAny_bind (wpAny_isInstance (T:="StopIteration") (b:=true) ty isSubtype_stop (wpAny_pure q))
theorem zNy {α:Type} {Q:α->Shared->Prop} {E':Value->Shared->Prop} (hh:A.handled = none) (h:∀ (e:Value) (h':Heap),(∀ b u,s.heap.get? b = some u->h'.get? b = some u)->({ s with heap:=h' }:Shared).TypeIs e "StopIteration"->E' e { s with heap:=h' }) :
  wpAny (model prog w) A (newExc (.type "StopIteration") [] >>= λe=>(raiseNew e:Sem α)) Q E' s:=by
 refine wpAny_bind ?_
 simp only [newExc,newTuple]
 refine wpAny_bind (wpAny_newObj_type (wpAny_bind (m:=firstArgMember _ _) (wpAny_of_eq (a:=Value.none) (by first | rfl | (simp only [firstArgMember]; rfl)) (wpAny_newObj_type ?_ (by size_fits)))) (by size_fits))
 simp only [raiseNew]
 refine wpAny_bind (wpAny_handled ?_)
 rw [hh]
 refine wpAny_bind (wpAny_pure (wpAny_throw ?_))
 refine h _ _ (λb u e=>get?_push_of_some _ (get?_push_of_some _ e)) ?_
 exact ⟨_,get?_push_size _ rfl,rfl⟩
theorem zKr {f:Obj->Obj} (hi:s.heap.get? it = some u) (hn:(f u).isFreed = false):(s.heap.update it f).get? it = some (f u):=get?_update_self f hi hn
theorem zCw (hb:b ≠ it) (e:s.heap.get? b = some u):(s.heap.update it f).get? b = some u:=(get?_update_other _ _ (Ne.symm hb)).trans e
theorem zFy {Q:Option Value->Shared->Prop} {slot next:Nat} {tk:Tok} {x:Value} (hi:s.heap.get? it = some (itO (.int slot tk) i a es.size ep)) (ho:s.heap.get? a = some o) (hd:o.data = .set es ep t) (hf:t.fits es.size = true)
  (hs:∀ (R:Option (Value × Nat)->Shared->Prop) (E':Value->Shared->Prop),R (some (x,next)) s->wpAny (model prog w) A.in1 (setNext a slot i ep) R E' s)
  (h:∀ h',h'.get? it = some (itO (.int next 0) (i + 1) a es.size ep)->(∀ b u,b ≠ it->s.heap.get? b = some u->h'.get? b = some u)->Q (some x) { s with heap:=h' }):wpAny (model prog w) A (pyNext (.ref it)) Q E s:=by
 refine zCe hi ho hd hf ?_
 dsimp only
 refine wpAny_bind (hs _ _ ?_)
 dsimp only
 refine wpAny_bind (wpAny_setField hi rfl (by simp) ?_)
 have h1:=zKr (f:=Obj.mapFields (·.setIfInBounds 0 (rawInt next))) hi rfl
 refine wpAny_bind (wpAny_setField (s:={ s with heap:=_ }) h1 rfl (by simp) ?_)
 have h2:=zKr (s:={ s with heap:=_ }) (f:=Obj.mapFields (·.setIfInBounds 1 (rawInt ((i:Int) + 1)))) h1 rfl
 exact wpAny_pure ⟨x,rfl,h _ h2 λb u hb e=>zCw (s:={ s with heap:=_ }) hb (zCw hb e)⟩
theorem zIo {Q:Option Value->Shared->Prop} {slot:Nat} {tk:Tok} (hh:A.handled = none) (hi:s.heap.get? it = some (itO (.int slot tk) i a es.size ep)) (ho:s.heap.get? a = some o) (hd:o.data = .set es ep t) (hf:t.fits es.size = true)
  (hs:∀ (R:Option (Value × Nat)->Shared->Prop) (E':Value->Shared->Prop),R none s->wpAny (model prog w) A.in1 (setNext a slot i ep) R E' s)
  (h:∀ h',(∀ b u,b ≠ it->s.heap.get? b = some u->h'.get? b = some u)->Q none { s with heap:=h' }):wpAny (model prog w) A (pyNext (.ref it)) Q E s:=by
 refine zCe hi ho hd hf ?_
 dsimp only
 refine wpAny_bind (hs _ _ ?_)
 dsimp only
 refine wpAny_bind (wpAny_setField hi rfl (by simp) ?_)
 exact zNy (s:={ s with heap:=_ }) (by simp [hh]) λe h' k ty=>⟨ty,h h' λb u hb e=>k b u (zCw hb e)⟩
theorem zMt {Q:Option Value->Shared->Prop} {ps:List Nat} (hi:s.heap.get? it = some (itO (.ref T) i a es.size ep)) (ho:s.heap.get? a = some o) (hd:o.data = .set es ep t) (hf:t.fits es.size = true)
  (hT:s.heap.get? T = some { cls:=.type "tuple",data:=.seq (ps.map λ(i:Nat)=>Value.int i 0).toArray }) (hp:ps[i]? = some place) (hx:es[place]? = some x)
  (h:∀ h',h'.get? it = some (itO (.ref T) (i + 1) a es.size ep)->(∀ b u,b ≠ it->s.heap.get? b = some u->h'.get? b = some u)->Q (some x.2) { s with heap:=h' }):wpAny (model prog w) A (pyNext (.ref it)) Q E s:=by
 refine zCe hi ho hd hf ?_
 dsimp only
 refine wpAny_bind (wpAny_seqItems hT rfl ?_)
 have e:((ps.map λ(i:Nat)=>Value.int i 0).toArray)[(i:Int).toNat]? = some (.int (place:Nat) 0):=by
  rw [Int.toNat_natCast,getElem?_toArray,getElem?_map,hp]
  rfl
 dsimp only
 rw [e]
 dsimp only
 refine wpAny_bind (zMp ho hd hf (x:=x) (by rw [Int.toNat_natCast]; exact hx) ?_)
 refine wpAny_bind (wpAny_setField hi rfl (by simp) ?_)
 have h1:=zKr (f:=Obj.mapFields (·.setIfInBounds 1 (rawInt ((i:Int) + 1)))) hi rfl
 exact wpAny_pure ⟨x.2,rfl,h _ h1 λb u hb e=>zCw hb e⟩
theorem zP6 {Q:Option Value->Shared->Prop} {ps:List Nat} (hh:A.handled = none) (hi:s.heap.get? it = some (itO (.ref T) i a es.size ep)) (ho:s.heap.get? a = some o) (hd:o.data = .set es ep t) (hf:t.fits es.size = true)
  (hT:s.heap.get? T = some { cls:=.type "tuple",data:=.seq (ps.map λ(i:Nat)=>Value.int i 0).toArray }) (hp:ps[i]? = none)
  (h:∀ h',(∀ b u,b ≠ it->s.heap.get? b = some u->h'.get? b = some u)->Q none { s with heap:=h' }):wpAny (model prog w) A (pyNext (.ref it)) Q E s:=by
 refine zCe hi ho hd hf ?_
 dsimp only
 refine wpAny_bind (wpAny_seqItems hT rfl ?_)
 have e:((ps.map λ(i:Nat)=>Value.int i 0).toArray)[(i:Int).toNat]? = none:=by
  rw [Int.toNat_natCast,getElem?_toArray,getElem?_map,hp]
  rfl
 dsimp only
 rw [e]
 dsimp only
 refine wpAny_bind (wpAny_setField hi rfl (by simp) ?_)
 have h1:=zKr (f:=Obj.mapFields (·.setIfInBounds 0 (rawInt 0))) hi rfl
 refine wpAny_bind (wpAny_setField (s:={ s with heap:=_ }) h1 rfl (by simp) ?_)
 exact zNy (s:={ s with heap:=_ }) (by simp [hh]) λe h' k ty=>⟨ty,h h' λb u hb e=>k b u (zCw (s:={ s with heap:=_ }) hb (zCw hb e))⟩
end
set_option maxRecDepth 100000
section
variable {prog:Program} {w:World} {A:Around} {E:Value->Shared->Prop} {s:Shared} {a it T:Addr} {o:Obj} {es:Array (Int × Value)} {ep:Nat} {t:SetTable}
theorem zGz {Q:Value->Shared->Prop} (hi:s.heap.get? it = some (itO first i a n ep)) (h:Q (.ref it) s):wpAny (model prog w) A (pyIter (.ref it)) Q E s:=by
 have hT:s.TypeIs (.ref it) "set_iterator":=⟨_,hi,rfl⟩
 refine wpAny_pyIter_slot hT zN4 (wpAny_call_entry zN4 hT zGf ?_ (zHv _))
 refine wpAny_bind (wpAny_pure ?_)
 exact wpAny_pure ⟨_,rfl,"set_iterator",_,hT,si_next.lookup,h⟩
theorem zBd (hf:t.fits es.size = true):t.place.size = es.size:=by
 unfold fits at hf
 rw [Bool.and_eq_true] at hf
 exact eq_of_beq hf.1
theorem zM7 (hr:Rz xs):SetTable.below xs 0 = 0:=by
 obtain ⟨b1,b2,b3⟩:=zHb hr 0
 cases e:SetTable.below xs 0 with
 | zero=>rfl
 | succ k =>
  rw [e] at b1 b2
  have h0:0 < xs.size:=by omega
  exact absurd (b2 0 _ (Nat.succ_pos k) (Array.getElem?_eq_getElem h0)) (Nat.not_lt_zero _)
theorem zM8 (hr:Rz xs) (h:xs[i]? = some j):SetTable.below xs (j + 1) = i + 1:=by
 obtain ⟨b1,b2,b3⟩:=zHb hr (j + 1)
 generalize SetTable.below xs (j + 1) = p at *
 have hi:i < xs.size:=by
  by_cases z:i < xs.size
  ·exact z
  ·rw [Array.getElem?_eq_none (by omega)] at h; cases h
 have h1:i < p:=by
  by_cases z:i < p
  ·exact z
  ·have:=b3 i j (by omega) h; omega
 by_cases z:p = i + 1
 ·exact z
 ·have hp:i + 1 < xs.size:=by omega
  have q1:=b2 (i + 1) _ (by omega) (Array.getElem?_eq_getElem hp)
  have q2:=hr i (i + 1) j _ (by omega) h (Array.getElem?_eq_getElem hp)
  omega
theorem zRf {xs:Array Nat} (h:xs.size <= 1):Rz xs:=λi k a b hik ha hb=>by
 rw [Array.getElem?_eq_none (by omega)] at hb
 cases hb
theorem zL1 (hh:A.handled = none) (hne:a ≠ it) (hd:o.data = .set es ep t) (hf:t.fits es.size = true) (hb:w.params.followText "set-order" = false) (hl:t.led = true) (hn:(!t.plain && decide (es.size > 1)) = false) (hr:Rz t.place) :
  Walks prog w A it [it,a] [it] es.size (λi v=>(es.toList.map (·.2))[i]? = some v) (λi h=>h.get? a = some o /\ ∃ (slot:Nat) (tk:Tok),h.get? it = some (itO (.int slot tk) i a es.size ep) /\ SetTable.below t.place slot = i) where
 sub:=λb hb=>by simp at hb; simp [hb]
 frame:=λi h h' ⟨h1,slot,tk,h2,h3⟩ k=>⟨k a (by simp) _ h1,slot,tk,k it (by simp) _ h2,h3⟩
 item:=λi s Q E hi ⟨h1,slot,tk,h2,h3⟩ hQ=>by
  have hp:i < t.place.size:=by rw [zBd hf]; exact hi
  refine zFy (x:=es[i].2) (next:=t.place[i] + 1) h2 h1 hd hf (λR E' hR=>zFw h1 hd hf hb hl hn ?_) λh' hi' k=>?_
  ·rw [h3,Array.getElem?_eq_getElem hi,Array.getElem?_eq_getElem hp]
   exact hR
  ·refine hQ _ h' s.toks (by simp [hi]) ⟨k a o hne h1,_,_,hi',zM8 hr (Array.getElem?_eq_getElem hp)⟩ λb u hb e=>k b u (λz=>hb (by simp [z])) e
 done:=λs Q E ⟨h1,slot,tk,h2,h3⟩ hQ=>by
  refine zIo hh h2 h1 hd hf (λR E' hR=>zFw h1 hd hf hb hl hn ?_) λh' k=>hQ h' s.toks λb u hb e=>k b u (λz=>hb (by simp [z])) e
  rw [h3,Array.getElem?_eq_none (Nat.le_refl _)]
  exact hR
 self:=λi s Q E ⟨h1,slot,tk,h2,h3⟩ hQ=>zGz h2 hQ
theorem zNc (hh:A.handled = none) (hne:a ≠ it) (hd:o.data = .set es ep t) (hf:t.fits es.size = true) (hb:w.params.followText "set-order" = true) :
  Walks prog w A it [it,a] [it] es.size (λi v=>((pickOrder (w.params.setOrder a ep) es).toList.map (·.2))[i]? = some v) (λi h=>h.get? a = some o /\ ∃ (slot:Nat) (tk:Tok),h.get? it = some (itO (.int slot tk) i a es.size ep)) where
 sub:=λb hb=>by simp at hb; simp [hb]
 frame:=λi h h' ⟨h1,slot,tk,h2⟩ k=>⟨k a (by simp) _ h1,slot,tk,k it (by simp) _ h2⟩
 item:=λi s Q E hi ⟨h1,slot,tk,h2⟩ hQ=>by
  have hz:i < (pickOrder (w.params.setOrder a ep) es).size:=by rw [<- length_toList,(zAi _ es).length_eq,length_toList]; exact hi
  refine zFy (x:=(pickOrder (w.params.setOrder a ep) es)[i].2) (next:=slot) h2 h1 hd hf (λR E' hR=>zIe h1 hd hf hb ?_) λh' hi' k=>?_
  ·rw [Array.getElem?_eq_getElem hz]
   exact hR
  ·refine hQ _ h' s.toks (by simp [hz]) ⟨k a o hne h1,_,_,hi'⟩ λb u hb e=>k b u (λz=>hb (by simp [z])) e
 done:=λs Q E ⟨h1,slot,tk,h2⟩ hQ=>by
  have hz:(pickOrder (w.params.setOrder a ep) es).size = es.size:=by rw [<- length_toList,(zAi _ es).length_eq,length_toList]
  refine zIo hh h2 h1 hd hf (λR E' hR=>zIe h1 hd hf hb ?_) λh' k=>hQ h' s.toks λb u hb e=>k b u (λz=>hb (by simp [z])) e
  rw [Array.getElem?_eq_none (by rw [hz]; exact Nat.le_refl _)]
  exact hR
 self:=λi s Q E ⟨h1,slot,tk,h2⟩ hQ=>zGz h2 hQ
theorem zL2 {ps:List Nat} (hh:A.handled = none) (hne:a ≠ it) (hnT:T ≠ it) (hd:o.data = .set es ep t) (hf:t.fits es.size = true) (hp:ps.Perm (List.range es.size)) :
  Walks prog w A it [it,a,T] [it] es.size (λi v=>(ps.map λp=>((es[p]?).map (·.2)).getD .none)[i]? = some v)
   (λi h=>h.get? a = some o /\ h.get? T = some { cls:=.type "tuple",data:=.seq (ps.map λ(i:Nat)=>Value.int i 0).toArray } /\ h.get? it = some (itO (.ref T) i a es.size ep)) where
 sub:=λb hb=>by simp at hb; simp [hb]
 frame:=λi h h' ⟨h1,h2,h3⟩ k=>⟨k a (by simp) _ h1,k T (by simp) _ h2,k it (by simp) _ h3⟩
 item:=λi s Q E hi ⟨h1,h2,h3⟩ hQ=>by
  have hl:ps.length = es.size:=by rw [hp.length_eq,length_range]
  have hi':i < ps.length:=by omega
  have hm:ps[i] < es.size:=mem_range.mp (hp.mem_iff.mp (getElem_mem hi'))
  refine zMt (place:=ps[i]) (x:=es[ps[i]]) h3 h1 hd hf h2 (List.getElem?_eq_getElem hi') (Array.getElem?_eq_getElem hm) λh' hi' k=>?_
  refine hQ _ h' s.toks ?_ ⟨k a o hne h1,k T _ hnT h2,hi'⟩ λb u hb e=>k b u (λz=>hb (by simp [z])) e
  rw [getElem?_map,List.getElem?_eq_getElem (by omega),Option.map_some,Array.getElem?_eq_getElem hm]
  rfl
 done:=λs Q E ⟨h1,h2,h3⟩ hQ=>by
  have hl:ps.length = es.size:=by rw [hp.length_eq,length_range]
  exact zP6 hh h3 h1 hd hf h2 (List.getElem?_eq_none (by omega)) λh' k=>hQ h' s.toks λb u hb e=>k b u (λz=>hb (by simp [z])) e
 self:=λi s Q E ⟨h1,h2,h3⟩ hQ=>zGz h3 hQ
end
set_option maxRecDepth 100000
section
variable {prog:Program} {w:World} {A:Around} {E:Value->Shared->Prop} {s:Shared} {a it T:Addr} {o:Obj} {es:Array (Int × Value)} {ep:Nat} {t:SetTable}
theorem zSc {Q:Bool->Shared->Prop} (hT:s.TypeIs (.ref a) "set") (h:Q false s):wpAny (model prog w) A (Builtin.List.listLengthHint (.ref a)) Q E s:=by
 unfold Builtin.List.listLengthHint
 refine wpAny_bind (wpAny_specialOf hT F.slot_set_len.lookup ?_)
 generalize hid:("set.__len__":String) = id0
 wp_delta
 rw [show splitId id0 = some ("set","__len__") from by subst hid; decide +kernel]
 subst hid
 refine wpAny_bind (wpAny_isInstance (T:="set") (b:=true) hT sub_set_self (wpAny_ite_split (λhab=>absurd hab (by decide)) λ_=>wpAny_ite_split (λ_=>wpAny_bind (wpAny_typeOf hT (wpAny_pure h))) λhab=>absurd (by decide +kernel) hab))
theorem zO8 {R:Result->Shared->Prop} {P:Nat->Value->Prop} {St:Nat->Heap->Prop} (W:Walks prog w A.in1 it fp [it] n P St) (hn:n <= sizeLine) (off:S ∉ fp)
  (st:St 0 s.heap) (hS:s.heap.get? S = some { cls:=.type "list",data:=.seq #[] c₁ })
  (hR:∀ h' tk acc c',(∀ b u,b ≠ S->b ≠ it->s.heap.get? b = some u->h'.get? b = some u)->h'.get? S = some { cls:=.type "list",dict:=none,data:=.seq acc c',slots:=#[] }->ItemsOf P acc n->R (.ok (.ret res)) { s with heap:=h',toks:=tk }) :
  codeAny (model prog w) A (.builtin "list.extend.loop" ⟨[.ref S,.ref it,res],[]⟩) R s:=by
 refine codeAny_extend_loopS W.toS hn S off res n 0 _ #[] c₁ rfl (Nat.zero_le _) st hS (ItemsOf.nil _) λs' acc c' hm hS' hacc=>?_
 rw [Moved.eq_with hm]
 refine hR s'.heap s'.toks acc c' (λb u h1 h2 e=>hm.heap b u (λz=>?_) e) hS' hacc
 rcases mem_cons.mp z with z | z
 ·exact h1 z
 ·exact h2 (mem_singleton.mp z)
theorem zJc {R:Result->Shared->Prop} {P:Nat->Value->Prop} {St:Nat->Heap->Prop} (W:Walks prog w A.in1 it fp [it] n P St) (hn:n <= sizeLine) (off:S ∉ fp) (hT:s.TypeIs (.ref a) "set")
  (st:St 0 s.heap) (hS:s.heap.get? S = some { cls:=.type "list",data:=.seq #[] c₀ })
  (hR:∀ h' tk acc c',(∀ b u,b ≠ S->b ≠ it->s.heap.get? b = some u->h'.get? b = some u)->h'.get? S = some { cls:=.type "list",dict:=none,data:=.seq acc c',slots:=#[] }->ItemsOf P acc n->R (.ok (.ret res)) { s with heap:=h',toks:=tk }) :
  wpAny (model prog w) A.in1 (holding [.ref it] (Builtin.List.listLengthHint (.ref a)) >>= λroom=>if (room || b) = true then (rule "list.extend.makes-room" >>= λ_=>Builtin.List.listTouch (.ref S) >>= λ_=>again (.builtin "list.extend.loop" ⟨[.ref S,.ref it,res],[]⟩)) else again (.builtin "list.extend.loop" ⟨[.ref S,.ref it,res],[]⟩))
   (λfin s'=>match fin with | .done f=>R (.ok f) s' | .again c'=>c'.quiet = true /\ codeAny (model prog w) A c' R s') (λe s'=>R (.error e) s') s:=by
 refine wpAny_bind (wpAny_holding (zSc hT ?_))
 refine wpAny_ite_split (λ_=>?_) λ_=>wpAny_pure ⟨plainId_quiet F.plain_extend_loop _,zO8 W hn off st hS hR⟩
 refine wpAny_bind (wpAny_rule ?_)
 refine wpAny_bind ?_
 show wpAny _ _ (updateSeq S (·.push .none) >>= λ_=>updateSeq S (·.pop)) _ _ _
 refine wpAny_bind (wpAny_updateSeq hS rfl ?_)
 have hS2:=get?_update_self (Obj.mapSeq (·.push Value.none)) hS rfl
 refine wpAny_updateSeq (hz:=by seq_fits) hS2 rfl ?_
 have hS3:=get?_update_self (Obj.mapSeq (·.pop)) hS2 rfl
 have keep:∀ c u,c ≠ S->s.heap.get? c = some u->((s.heap.update S (Obj.mapSeq (·.push Value.none))).update S (Obj.mapSeq (·.pop))).get? c = some u:=λc u hc e=>(get?_update_other _ _ (Ne.symm hc)).trans ((get?_update_other _ _ (Ne.symm hc)).trans e)
 refine wpAny_pure ⟨plainId_quiet F.plain_extend_loop _,zO8 (s:={ s with heap:=_ }) W hn off (W.frame 0 _ _ st λc hc u e=>keep c u (λz=>off (z ▸ hc)) e) hS3 λh' tk acc c' k h1 h2=>hR h' tk acc c' (λc u n1 n2 e=>k c u n1 n2 (keep c u n1 e)) h1 h2⟩
theorem zGy (h:ItemsOf (λi v=>ord[i]? = some v) acc n) (hl:ord.length = n):acc.toList = ord:=by
 apply ext_getElem?
 intro i
 rw [getElem?_toList]
 by_cases hi:i < acc.size
 ·rw [Array.getElem?_eq_getElem hi]
  exact (h.2 i _ (Array.getElem?_eq_getElem hi)).symm
 ·rw [Array.getElem?_eq_none (by omega),List.getElem?_eq_none (by rw [hl,<- h.1]; omega)]
theorem zMd (es:Array (Int × Value)):(List.range es.size).map (λp=>((es[p]?).map (·.2)).getD Value.none) = es.toList.map (·.2):=by
 apply List.ext_getElem (by simp)
 intro i h1 h2
 have hi:i < es.size:=by simpa using h1
 simp [hi]
theorem zMz {R:Result->Shared->Prop} (hh:A.handled = none) (ho:s.heap.get? a = some o) (hx:o.ExactSet) (hd:o.data = .set es ep t) (hf:t.fits es.size = true) (tb:Tb (yL w) t) (hz:es.size <= sizeLine) (hSa:S ≠ a)
  (hS:s.heap.get? S = some { cls:=.type "list",data:=.seq #[] c₀ })
  (hR:∀ h' tk d acc c',(∀ b u,b ≠ S->s.heap.get? b = some u->h'.get? b = some u)->h'.get? S = some { cls:=.type "list",dict:=none,data:=.seq acc c',slots:=#[] }->acc.toList.Perm (es.toList.map (·.2))->R (.ok (.ret res)) { s with heap:=h',toks:=tk,drawn:=d }) :
  wpAny (model prog w) A.in1 (Builtin.List.listExtendWith (.ref S) (.ref a) res)
   (λfin s'=>match fin with | .done f=>R (.ok f) s' | .again c'=>c'.quiet = true /\ codeAny (model prog w) A c' R s') (λe s'=>R (.error e) s') s:=by
 have hT:s.TypeIs (.ref a) "set":=⟨o,ho,hx.1⟩
 have lta:a < s.heap.objs.size:=lt_size ho
 have ltS:S < s.heap.objs.size:=lt_size hS
 have hi:A.in1.handled = none:=by simp [hh]
 unfold Builtin.List.listExtendWith
 refine wpAny_bind (wpAny_typeOf hT ?_)
 have h1:Builtin.List.listSameRef (.ref S) (.ref a) = false:=by simp [Builtin.List.listSameRef,hSa]
 simp only [h1,show (Value.type "set" == Value.type "list") = false by decide,show (Value.type "set" == Value.type "tuple") = false by decide,Bool.or_false,Bool.false_eq_true,if_false]
 have old:∀ {b:Addr} {u:Obj} {n:Nat},s.heap.get? b = some u->s.heap.objs.size <= n->b ≠ n:=λe hn z=>absurd (lt_size e) (by rw [z]; exact Nat.not_lt_of_le hn)
 refine wpAny_bind (zR9 ho hx hd hf (λhc=>?_) λhc=>⟨hz,λd ps hp=>?_⟩)
 ·have hS':=get?_push_of_some (itO (.int 0 0) 0 a es.size ep) hS
  have ho':=get?_push_of_some (itO (.int 0 0) 0 a es.size ep) ho
  have hI:(s.heap.push (itO (.int 0 0) 0 a es.size ep)).get? s.heap.objs.size = some (itO (.int 0 0) 0 a es.size ep):=get?_push_size _ rfl
  have off:S ∉ [s.heap.objs.size,a]:=λz=>by
   rcases mem_cons.mp z with z | z
   ·exact old hS (Nat.le_refl _) z
   ·exact hSa (mem_singleton.mp z)
  have hne:a ≠ s.heap.objs.size:=old ho (Nat.le_refl _)
  cases hb:w.params.followText "set-order" with
  | true =>
   refine zJc (s:={ s with heap:=_ }) (zNc hi hne hd hf hb) hz off ⟨o,ho',hx.1⟩ ⟨ho',0,0,hI⟩ hS' λh' tk acc c' k h2 h3=>?_
   refine hR h' tk s.drawn acc c' (λb u n e=>k b u n (old e (Nat.le_refl _)) (get?_push_of_some _ e)) h2 ?_
   rw [zGy h3 (by rw [length_map,(zAi _ es).length_eq,length_toList])]
   exact (zAi _ es).map _
  | false =>
   have hl:t.led = true:=by rw [tb.led]; unfold yL; rw [hb]; rfl
   have hn:(!t.plain && decide (es.size > 1)) = false:=by rw [hb] at hc; exact hc
   have hr:Rz t.place:=by
    cases hp:t.plain with
    | true=>exact tb.rz hp
    | false =>
     rw [hp] at hn
     refine zRf ?_
     rw [zBd hf]
     have:¬ es.size > 1:=of_decide_eq_false (by simpa using hn)
     omega
   refine zJc (s:={ s with heap:=_ }) (zL1 hi hne hd hf hb hl hn hr) hz off ⟨o,ho',hx.1⟩ ⟨ho',0,0,hI,zM7 hr⟩ hS' λh' tk acc c' k h2 h3=>?_
   refine hR h' tk s.drawn acc c' (λb u n e=>k b u n (old e (Nat.le_refl _)) (get?_push_of_some _ e)) h2 ?_
   rw [zGy h3 (by rw [length_map,length_toList])]
 ·have e0:∀ {b:Addr} {u:Obj},s.heap.get? b = some u->((s.heap.push { cls:=.type "tuple",data:=.seq (ps.map λ(i:Nat)=>Value.int i 0).toArray }).push (itO (.ref s.heap.objs.size) 0 a es.size ep)).get? b = some u:=λe=>get?_push_of_some _ (get?_push_of_some _ e)
  have sz:(s.heap.push ({ cls:=.type "tuple",data:=.seq (ps.map λ(i:Nat)=>Value.int i 0).toArray }:Obj)).objs.size = s.heap.objs.size + 1:=size_push ..
  have hI:((s.heap.push { cls:=.type "tuple",data:=.seq (ps.map λ(i:Nat)=>Value.int i 0).toArray }).push (itO (.ref s.heap.objs.size) 0 a es.size ep)).get? (s.heap.objs.size + 1) = some (itO (.ref s.heap.objs.size) 0 a es.size ep):=by
   rw [<- sz]; exact get?_push_size _ rfl
  have hTT:((s.heap.push { cls:=.type "tuple",data:=.seq (ps.map λ(i:Nat)=>Value.int i 0).toArray }).push (itO (.ref s.heap.objs.size) 0 a es.size ep)).get? s.heap.objs.size = some { cls:=.type "tuple",data:=.seq (ps.map λ(i:Nat)=>Value.int i 0).toArray }:=get?_push_of_some _ (get?_push_size _ rfl)
  have off:S ∉ [s.heap.objs.size + 1,a,s.heap.objs.size]:=λz=>by
   rcases mem_cons.mp z with z | z
   ·exact old hS (Nat.le_succ _) z
   ·rcases mem_cons.mp z with z | z
    ·exact hSa z
    ·exact old hS (Nat.le_refl _) (mem_singleton.mp z)
  refine zJc (s:={ s with drawn:=d,heap:=_ }) (zL2 hi (old ho (Nat.le_succ _)) (Nat.ne_of_lt (Nat.lt_succ_self _)) hd hf hp) hz off ⟨o,e0 ho,hx.1⟩ ⟨e0 ho,hTT,hI⟩ (e0 hS) λh' tk acc c' k h2 h3=>?_
  refine hR h' tk d acc c' (λb u n e=>k b u n (old e (Nat.le_succ _)) (e0 e)) h2 ?_
  rw [zGy h3 (by rw [length_map,hp.length_eq,length_range])]
  have e1:=zMd es
  rw [<- e1]
  exact hp.map _
theorem zEz {R:List Value->Shared->Prop} (hh:A.handled = none) (ho:s.heap.get? a = some o) (hx:o.ExactSet) (hd:o.data = .set es ep t) (hf:t.fits es.size = true) (tb:Tb (yL w) t) (hz:es.size <= sizeLine)
  (h:∀ h' tk d (acc:List Value),(∀ b u,s.heap.get? b = some u->h'.get? b = some u)->acc.Perm (es.toList.map (·.2))->R acc { s with heap:=h',toks:=tk,drawn:=d }) :
  wpAny (model prog w) A (collect (.ref a)) R E s:=by
 have lt:a < s.heap.objs.size:=lt_size ho
 unfold collect
 refine wpAny_bind (wpAny_runValue (codeAny_builtin entry_proto_collect' ?_))
 rw [Around.under_plainId F.plain_proto_collect _]
 refine wpAny_bind (m:=newList []) (wpAny_newObj_type (wpAny_pure ⟨plainId_quiet F.plain_list_iadd _,codeAny_builtin entry_list_iadd' ?_⟩))
 rw [Around.under_plainId F.plain_list_iadd _]
 have hS:(s.heap.push { cls:=.type "list",data:=.seq ([]:List Value).toArray }).get? s.heap.objs.size = some { cls:=.type "list",data:=.seq #[] }:=get?_push_size _ rfl
 have key:=zMz (prog:=prog) (A:=A) (S:=s.heap.objs.size) (res:=.ref s.heap.objs.size) (s:={ s with heap:=s.heap.push { cls:=.type "list",data:=.seq ([]:List Value).toArray } })
  (R:=λ(q:Result) (s':Shared)=>∃ (h':Heap) (tk:Nat) (d:Drawn) (acc:Array Value) (c':Nat),q = .ok (.ret (.ref s.heap.objs.size)) /\ s' = { s with heap:=h',toks:=tk,drawn:=d } /\ (∀ b u,s.heap.get? b = some u->h'.get? b = some u) /\
   h'.get? s.heap.objs.size = some { cls:=.type "list",dict:=none,data:=.seq acc c',slots:=#[] } /\ acc.toList.Perm (es.toList.map (·.2)))
  hh (get?_push_of_some _ ho) hx hd hf tb hz (Nat.ne_of_gt lt) hS λh' tk d acc c' k h1 h2=>⟨h',tk,d,acc,c',rfl,rfl,λb u e=>k b u (Nat.ne_of_lt (lt_size e)) (get?_push_of_some _ e),h1,h2⟩
 refine wpAny_mono key (λfin s' x=>?_) λe s' x=>?_
 ·cases fin with
  | done f =>
   obtain ⟨h',tk,d,acc,c',e,rfl,k,h1,h2⟩:=x
   cases e
   refine wpAny_bind (m:=load s.heap.objs.size) (wpAny_load h1 ?_)
   exact wpAny_pure (h h' tk d acc.toList k h2)
  | again c1 =>
   refine ⟨x.1,codeAny_mono x.2 λq s2 y=>?_⟩
   obtain ⟨h',tk,d,acc,c',rfl,rfl,k,h1,h2⟩:=y
   refine wpAny_bind (m:=load s.heap.objs.size) (wpAny_load h1 ?_)
   exact wpAny_pure (h h' tk d acc.toList k h2)
 ·obtain ⟨_,_,_,_,_,e',_⟩:=x
  cases e'
end
end SetP
namespace L2
open PySem PySem.Spec PyProof.Rows SetP
def decI:Value->Int
 | .int k _=>k
 | _=>0
theorem zT4:∀ k v,(intKind P w).is k v = true->decI v = k:=λk v h=>by
 obtain ⟨t,rfl⟩:=Value.isInt_shape h
 rfl
theorem Inv.drew (I:Inv X pins σ H s) (d:Drawn):Inv X pins σ H { s with drawn:=d }:=⟨I.ok,I.os,I.bare,I.base,I.loc,I.cell,I.free,I.freeC,I.pin,I.hok,I.len⟩
abbrev TSt:=St->Hp->(LI->Hp->Prop)->Prop
def StP (X:Cx) (pins:List (Addr × Obj)) (σ:St) (Q:LI->Hp->Prop) (v:Value) (s':Shared):Prop :=
 ∃ (a:Addr) (ks:LI) (H':Hp),v = .ref a /\ Inv X pins σ H' s' /\ Good (intKind X.prog X.w) decI (yL X.w) s'.heap a ks /\ FpOk X pins H' a /\ Q ks H'
def PSt (X:Cx) (e:Expr) (t:TSt):Prop:=∀ (pins:List (Addr × Obj)) (s:Shared) (σ:St) (H:Hp) (Q:LI->Hp->Prop),Inv X pins σ H s->t σ H Q->wpAny (model X.prog X.w) X.A (eval e X.env) (StP X pins σ Q) X.xe s
section
variable {X:Cx}
theorem zUb:∀ {ns:LI} {its:List Value},IntsAre its ns->∀ {i:Nat} {v:Value},its[i]? = some v->∃ t,v = .int (ns.getD i 0) t
 | _,_,.nil,i,v,h=>by simp at h
 | _,_,.cons n t r,0,v,h=>by simp at h; subst h; exact ⟨t,rfl⟩
 | _,_,.cons n t r,i + 1,v,h=>by
  obtain ⟨t',e⟩:=zUb r (by simpa using h)
  exact ⟨t',e⟩
theorem zQt:∀ {ns:LI} {its:List Value},IntsAre its ns->its.length = ns.length
 | _,_,.nil=>rfl
 | _,_,.cons n t r=>congrArg (· + 1) (zQt r)
def zQ3 (K:PySem.W.Frag) (te:TE):TSt:=λσ H Q=>xK te tNil σ H λvs H1=>∃ (p:Addr) (ns:LI),vs = [.ref p] /\ SqL K H1 p (ns.map V.int) /\ ns.length < 4000 /\ ∀ ks:LI,ks.Nodup->(∀ z,z ∈ ks ↔ z ∈ ns)->Q ks H1
theorem zT8:bootBuiltins "set" = some (.type "set"):=by decide +kernel
theorem zJj (K:PySem.W.Frag) (hc:X.calm = true) (hm:X.mg "set" = none) (he:PE X e te) (hK:X.K = K:=by rfl) (hg:Gl X "set":=by rfl) (hs:starEach [e] X.env = [(false,eval e X.env)]:=by rfl):PSt X (.Call (.Name "set" p) [e] [] pos) (zQ3 K te):=by
 subst hK
 intro pins s σ H Q I h
 refine wpAny_Call_Name_kw (zA9 I hg hm zT8 ?_)
 have ha:PA X [e] (xK te tNil):=zA he zF hs
 refine PyProof.Rows.callWith_type1 (thn (ha pos pins s σ H _ I h) λus s1 ⟨vs,H1,I1,r1,q1⟩=>?_) hs rfl
 obtain ⟨l,ns,e1,hq,h4,q⟩:=q1
 subst e1
 cases r1 with
 | cons r rr =>
  cases rr
  cases r
  obtain ⟨its,rv,pl,hz⟩:=I1.list hq
  have hi:IntsAre its ns:=zG1 rv
  have hl:=zQt hi
  refine zLw (knd:=intKind X.prog X.w) (dec:=decI) zT4 (λi=>ns.getD i 0) (I1.ok.hd hc) pl.isList (λi v hv=>?_) (by rw [size_toArray,hl]; show ns.length + 1 < 4096; omega) λh' tk g k=>?_
  ·obtain ⟨t,rfl⟩:=zUb hi (by rw [getElem?_toArray] at hv; exact hv)
   exact ⟨intKind_is _ _ _ _,rfl⟩
  ·have I2:=I1.kept (h':=h') (t':=tk) λb o e=>k b o (lt_size e) e
   obtain ⟨_,_,_,_,_,_,_,_,_,nd,_⟩:=id g
   refine ⟨_,_,H1,rfl,I2,g,I1.fpOk (Nat.le_refl _) (I1.hok.fresh (Nat.le_refl _)),q _ nd λz=>?_⟩
   rw [zJy,size_toArray,hl]
   constructor
   ·rintro ⟨j,hj,rfl⟩
    rw [getD_eq_getElem?_getD,List.getElem?_eq_getElem hj]
    exact getElem_mem hj
   ·intro hz
    obtain ⟨j,hj,e⟩:=getElem_of_mem hz
    exact ⟨j,hj,by rw [getD_eq_getElem?_getD,List.getElem?_eq_getElem hj]; exact e⟩
def zJd (ts:TSt):TE:=λσ H Q=>ts σ H λks H1=>ks.length < 64 /\ ∀ (l:Addr) (ms:LI),H1 l = none->ms.Perm ks->ms.Pairwise (· <= ·)->Q (.ref l) (upd H1 l (.lst (ms.map V.int)))
theorem zLg:∀ {vs:List Value},(∀ v ∈ vs,∃ k,(intKind P w).is k v = true)->IntsAre vs (vs.map decI)
 | [],_=>.nil
 | v :: vs,h=>by
  obtain ⟨k,hk⟩:=h v mem_cons_self
  obtain ⟨t,rfl⟩:=Value.isInt_shape hk
  exact .cons k t (zLg (P:=P) (w:=w) λu hu=>h u (mem_cons_of_mem _ hu))
theorem zRa (hc:X.calm = true) (I:Inv X pins σ H s) (g:Good (intKind X.prog X.w) decI (yL X.w) s.heap a ks) (h64:ks.length < 64)
  (q:∀ (l:Addr) (ms:LI),H l = none->ms.Perm ks->ms.Pairwise (· <= ·)->Q (.ref l) (upd H l (.lst (ms.map V.int)))):wpAny (model X.prog X.w) X.A (call (.builtin "sorted") [.ref a]) (EP X pins σ Q) X.xe s:=by
 obtain ⟨o,es,ep,t,ho,hx,hd,hel,hp,nd,hb,hf,tb⟩:=g
 have hsz:es.size = ks.length:=by rw [<- hp.length_eq,length_map,length_toList]
 refine PySem.Calls.call_function_entry kind_sorted plain_sorted entry_sorted (args_sorted1 _) ?_
 unfold Builtin.«sorted»
 refine wpAny_bind (m:=checkCount "sorted" 1 1 _) (wpAny_pure ?_)
 refine wpAny_bind (zEz (A:=X.A.in1) (I.ok.hd hc) ho hx hd hf tb (fits_of_scanBound hb) λh' tk d acc hkeep hacc=>?_)
 have I':Inv X pins σ H { s with heap:=h',toks:=tk,drawn:=d }:=(I.kept (h':=h') (t':=tk) hkeep).drew d
 have hI:IntsAre acc (acc.map decI):=zLg (P:=X.prog) (w:=X.w) λv hv=>by
  obtain ⟨e,he,rfl⟩:=mem_map.mp (hacc.mem_iff.mp hv)
  obtain ⟨⟨k,hk,_⟩,_⟩:=hel e he
  exact ⟨k,hk⟩
 have hpk:(acc.map decI).Perm ks:=by
  refine (hacc.map decI).trans ?_
  rw [map_map]
  exact hp
 have hal:acc.length = ks.length:=by rw [<- hpk.length_eq,length_map]
 have hsl:acc.length <= sizeLine:=by rw [hal]; exact Nat.le_of_lt (Nat.lt_trans h64 (by decide))
 refine wpAny_bind (wpAny_newList ?_ hsl)
 have hoL:(h'.push (seqObj "list" acc.toArray 0)).get? h'.objs.size = some (seqObj "list" acc.toArray 0):=get?_push_size _ rfl
 refine wpAny_bind (wpAny_holding (wpAny_call_entry slot_list_sort ⟨_,hoL,rfl⟩ entry_list_sort (list_sort_tree hoL hI (by omega) λout ns' a1 a2 a3=>⟨_,rfl,?_⟩) (args_list_sort _)))
 refine wpAny_pure ⟨_,rfl,?_⟩
 obtain ⟨e,he⟩:=sortedHeap_at (out:=out) hoL
 refine ⟨.ref h'.objs.size,_,I'.laid (t':=tk) (o:=.lst (ns'.map V.int)) (λb ob w=>?_) (Nat.le_refl _) ?_,rfl,q _ ns' (I'.hok.fresh (Nat.le_refl _)) (a2.trans hpk) a3⟩
 ·have hb:h'.get? b = some ob:=w
  have hlt:=lt_size hb
  rw [sortedHeap_old (Nat.ne_of_lt hlt) (by rw [size_push']; exact Nat.lt_succ_of_lt hlt),Heap.get?_push_ne _ _ _ (Nat.ne_of_lt hlt)]
  exact hb
 ·refine ⟨?_,out.toList,e,uV a1,?_⟩
  ·rw [length_map,a2.length_eq,length_map]; exact hsl
  ·rw [toArray_toList]; exact he
theorem zHz (hc:X.calm = true) (hm:X.mg "sorted" = none) (he:PSt X e ts) (hg:Gl X "sorted":=by rfl) (hs:starEach [e] X.env = [(false,eval e X.env)]:=by rfl):PE X (.Call (.Name "sorted" p) [e] [] pos) (zJd ts):=by
 intro pins s σ H Q I h
 refine wpAny_Call_Name_kw (zA9 I hg hm (by decide +kernel:bootBuiltins "sorted" = some (.builtin "sorted")) ?_)
 refine PyProof.Rows.callWith_builtin1 (Q:=_) ?_ hs rfl
 rw [hs]
 show wpAny _ _ (spliced ((false,eval e X.env) :: backTo pos [])) _ _ s
 refine Calls.spliced_cons (thn (he pins s σ H _ I h) λu s1 ⟨a,ks,H1,e1,I1,g,fo,h64,q⟩=>?_)
 subst e1
 refine Calls.spliced_nil ?_
 exact zRa hc I1 g h64 q
end
end L2
namespace Ts
open PySem L2
def insU (z:Int):LI->LI
 | []=>[z]
 | y :: ys=>if z < y then z :: y :: ys else if z = y then y :: ys else y :: insU z ys
def zCu (ns:LI):LI:=ns.foldr insU []
def zDy (ns:LI):Option LI:=if ns.length < 64 then some (zCu ns) else none
theorem mem_insU:∀ {ys:LI},x ∈ insU z ys ↔ x = z \/ x ∈ ys
 | []=>by simp [insU]
 | y :: ys=>by
  unfold insU
  split
  ·simp
  ·split
   ·rename_i h; subst h; simp
   ·rw [mem_cons,mem_insU,mem_cons]
    exact ⟨λh=>h.elim (λh=>.inr (.inl h)) λh=>h.elim .inl λh=>.inr (.inr h),λh=>h.elim (λh=>.inr (.inl h)) λh=>h.elim .inl λh=>.inr (.inr h)⟩
theorem zPn:∀ {ys:LI},ys.Pairwise (· < ·)->(insU z ys).Pairwise (· < ·)
 | [],_=>by simp [insU]
 | y :: ys,h=>by
  have h1:=pairwise_cons.mp h
  unfold insU
  split
  ·rename_i hz
   refine pairwise_cons.mpr ⟨λx hx=>?_,h⟩
   rcases mem_cons.mp hx with e | e
   ·rw [e]; exact hz
   ·exact Int.lt_trans hz (h1.1 x e)
  ·split
   ·exact h
   ·refine pairwise_cons.mpr ⟨λx hx=>?_,zPn h1.2⟩
    rcases mem_insU.mp hx with e | e
    ·rw [e]; omega
    ·exact h1.1 x e
theorem vV:∀ {ns:LI},x ∈ zCu ns ↔ x ∈ ns
 | []=>by simp [zCu]
 | n :: ns=>by
  show x ∈ insU n (zCu ns) ↔ _
  rw [mem_insU,vV,mem_cons]
theorem zCb:∀ ns:LI,(zCu ns).Pairwise (· < ·)
 | []=>.nil
 | n :: ns=>zPn (zCb ns)
theorem zC2:∀ {xs ys:LI},xs.Pairwise (· < ·)->ys.Pairwise (· < ·)->(∀ s,s ∈ xs ↔ s ∈ ys)->xs = ys
 | [],[],_,_,_=>rfl
 | [],y :: ys,_,_,h=>absurd ((h y).mpr mem_cons_self) (by simp)
 | x :: xs,[],_,_,h=>absurd ((h x).mp mem_cons_self) (by simp)
 | x :: xs,y :: ys,hx,hy,h=>by
  have h1:=pairwise_cons.mp hx
  have h2:=pairwise_cons.mp hy
  have e:x = y:=by
   rcases mem_cons.mp ((h x).mp mem_cons_self) with e | e
   ·exact e
   ·rcases mem_cons.mp ((h y).mpr mem_cons_self) with e' | e'
    ·exact e'.symm
    ·have a1:=h2.1 x e
     have a2:=h1.1 y e'
     omega
  subst e
  rw [zC2 h1.2 h2.2 λs=>?_]
  constructor
  ·intro hs
   rcases mem_cons.mp ((h s).mp (mem_cons_of_mem _ hs)) with e | e
   ·have:=h1.1 s hs; omega
   ·exact e
  ·intro hs
   rcases mem_cons.mp ((h s).mpr (mem_cons_of_mem _ hs)) with e | e
   ·have:=h2.1 s hs; omega
   ·exact e
theorem zD0:∀ {ks ns:LI},ks.Nodup->(∀ z ∈ ks,z ∈ ns)->ks.length <= ns.length
 | [],_,_,_=>Nat.zero_le _
 | k :: ks,ns,nd,h=>by
  obtain ⟨a,b,e⟩:=List.append_of_mem (h k mem_cons_self)
  have nd':=nodup_cons.mp nd
  have q:=zD0 (ks:=ks) (ns:=a ++ b) nd'.2 λz hz=>by
   have hm:=h z (mem_cons_of_mem _ hz)
   rw [e] at hm
   rcases mem_append.mp hm with m | m
   ·exact mem_append.mpr (.inl m)
   ·rcases mem_cons.mp m with m | m
    ·exact absurd (m ▸ hz) nd'.1
    ·exact mem_append.mpr (.inr m)
  rw [e,length_append,length_cons,length_cons]
  rw [length_append] at q
  omega
theorem zAu:∀ {ms:LI},ms.Pairwise (· <= ·)->ms.Nodup->ms.Pairwise (· < ·)
 | [],_,_=>.nil
 | m :: ms,h,nd=>by
  have h1:=pairwise_cons.mp h
  have n1:=nodup_cons.mp nd
  refine pairwise_cons.mpr ⟨λx hx=>?_,zAu h1.2 n1.2⟩
  have a:=h1.1 x hx
  have b:m ≠ x:=λe=>n1.1 (e ▸ hx)
  omega
section
variable {K:PySem.W.Frag} {B:Bs} {sl:SL K} {md:Md} {t:TE}
theorem zM2 (h:Ex B sl .hp t m):Eo B sl md (zJd (zQ3 K t)) (m.bind zDy):=λc hc F O H σ Q s k=>by
 cases m with
 | none=>cases hc
 | some ns =>
  have hc:zDy ns = some c:=hc
  unfold zDy at hc
  split at hc
  case isFalse=>cases hc
  rename_i hl
  cases hc
  refine h ns rfl F O H σ _ s λv F' H' g r1=>?_
  obtain ⟨p,vs,rfl,z1,z2⟩:=r1
  have z3:vs = ns.map V.int:=z2.vals
  subst z3
  refine ⟨p,ns,rfl,SqL.of z1,by omega,λks nd hm=>⟨Nat.lt_of_le_of_lt (zD0 nd λz hz=>(hm z).mp hz) hl,λl ms hn p1 p2=>?_⟩⟩
  have e:ms = zCu ns:=zC2 (zAu p2 (p1.nodup_iff.mpr nd)) (zCb ns) λz=>by rw [p1.mem_iff,hm,vV]
  subst e
  exact k l _ F' H' g hn (zB6 _)
end
end Ts
namespace SetP
open PySem PySem.Spec PyProof.Rows
set_option maxRecDepth 100000
section
variable {prog:Program} {w:World} {κ:Type} [DecidableEq κ] {knd:KeyKind prog w κ} {dec:Value->κ} {led:Bool} {A:Around} {E:Value->Shared->Prop} {s:Shared}
theorem Good.size (g:Good knd dec led h a ks):∃ o es ep t,h.get? a = some o /\ o.ExactSet /\ o.data = .set es ep t /\ t.fits es.size = true /\ es.size = ks.length /\ Tb led t /\ ElemsOf knd es.toList /\ (es.toList.map λe=>dec e.2).Perm ks:=by
 obtain ⟨o,es,ep,t,h1,h2,h3,hel,hp,nd,hb,hf,tb⟩:=g
 exact ⟨o,es,ep,t,h1,h2,h3,hf,by rw [<- hp.length_eq,length_map,length_toList],tb,hel,hp⟩
theorem Good.type {s:Shared} (g:Good knd dec led s.heap a ks):s.TypeIs (.ref a) "set":=by
 obtain ⟨o,_,_,_,h1,h2,_⟩:=g
 exact ⟨o,h1,h2.1⟩
theorem zHd {Q:Bool->Shared->Prop} (hT:s.TypeIs (.ref a) "set") (h:Q true s):wpAny (model prog w) A (Builtin.Frozenset.isAnySet (.ref a)) Q E s:=by
 unfold Builtin.Frozenset.isAnySet
 refine wpAny_bind (wpAny_isInstance (T:="set") (b:=true) hT sub_set_self ?_)
 exact wpAny_pure h
theorem zRo (sets:List Addr) (hs:∀ a ∈ sets,∃ ks:List κ,Good knd dec led s.heap a ks) (hn:∀ k v,knd.is k v = true->∀ b,v ≠ .ref b) {Q:Bool->Shared->Prop} (h:Q true s):wpAny (model prog w) A (setsQuiet sets) Q E s:=by
 unfold setsQuiet
 refine wpAny_bind (wpAny_mono (wpAny_forIn_list (β:=Option Bool × Unit) _ (λl b s'=>s' = s /\ b = (none,()) /\ ∀ a ∈ l,∃ ks:List κ,Good knd dec led s.heap a ks) (λb s'=>s' = s /\ b = (none,())) ?turn (λb s' hI=>⟨hI.1,hI.2.1⟩) sets _ ⟨rfl,rfl,hs⟩) ?post (λ_ _ h=>h))
 case post =>
  rintro b s' ⟨rfl,rfl⟩
  exact wpAny_pure h
 case turn =>
  rintro a rest b s' ⟨rfl,rfl,hg⟩
  obtain ⟨ks,g⟩:=hg a mem_cons_self
  obtain ⟨o,es,ep,t,h1,h2,h3,hf,hl,tb,hel,hp⟩:=g.size
  refine wpAny_bind (zC6 h1 h3 hf ?_)
  rw [<- forIn_toList]
  refine wpAny_bind (wpAny_mono (wpAny_forIn_list (β:=Option Bool × Unit) _ (λl b s''=>s'' = s' /\ b = (none,()) /\ ∀ e ∈ l,∀ c,e.2 ≠ .ref c) (λb s''=>s'' = s' /\ b = (none,())) ?t2 (λb s' hI=>⟨hI.1,hI.2.1⟩) es.toList _ ⟨rfl,rfl,?p0⟩) ?p2 (λ_ _ h=>h))
  case p0 =>
   intro e he c z
   obtain ⟨⟨k,hk,_⟩,_⟩:=hel e he
   exact hn k _ hk c z
  case p2 =>
   rintro b s'' ⟨rfl,rfl⟩
   exact wpAny_pure ⟨rfl,rfl,λa ha=>hg a (mem_cons_of_mem _ ha)⟩
  case t2 =>
   rintro ⟨hh,x⟩ l b s'' ⟨rfl,rfl,hl⟩
   have hx:=hl _ mem_cons_self
   dsimp only at hx ⊢
   split
   ·exact absurd rfl (hx _)
   ·exact wpAny_pure ⟨rfl,rfl,λe he=>hl e (mem_cons_of_mem _ he)⟩
theorem walk_ok (g:Good knd dec (yL w) s.heap a ks) (hq:w.params.followText "set-order" = false->∀ o es ep t,s.heap.get? a = some o->o.data = .set es ep t->(!t.plain && decide (es.size > 1)) = false) {Q:Array (Int × Value)->Shared->Prop}
  (h:∀ es:Array (Int × Value),ElemsOf knd es.toList->(es.toList.map λe=>dec e.2).Perm ks->Q es s):wpAny (model prog w) A (setWalk a) Q E s:=by
 obtain ⟨o,es,ep,t,h1,h2,h3,hf,hl,tb,hel,hp⟩:=g.size
 unfold setWalk
 refine wpAny_bind (wpAny_setState_of h1 h3 hf ?_)
 dsimp only
 refine wpAny_bind (zAq ?_)
 cases hb:w.params.followText "set-order" with
 | true =>
  simp only [↓reduceIte]
  refine wpAny_bind (wpAny_askSetting (wpAny_pure ?_))
  exact h _ (hel.perm (zAi _ es)) (((zAi _ es).map _).trans hp)
 | false =>
  have q:=hq hb o es ep t h1 h3
  have hled:t.led = true:=by rw [tb.led]; unfold yL; rw [hb]; rfl
  simp only [Bool.false_eq_true,↓reduceIte]
  show wpAny _ _ (if (!t.plain && decide (es.size > 1)) = true then _ else _) _ _ _
  rw [if_neg (by rw [q]; exact Bool.false_ne_true)]
  refine wpAny_bind ?_
  show wpAny _ _ (if (!t.led && decide (es.size > 1)) = true then _ else pure ()) _ _ _
  rw [if_neg (by rw [hled]; exact Bool.false_ne_true)]
  exact wpAny_pure (wpAny_pure (h es hel hp))
theorem zHl (g:Good knd dec (yL w) s.heap a ks) (gf:Good knd dec (yL w) s.heap f kf) (hs:∀ b ∈ others,∃ ks:List κ,Good knd dec (yL w) s.heap b ks) (hn:∀ k v,knd.is k v = true->∀ b,v ≠ .ref b) {Q:Array (Int × Value)->Shared->Prop}
  (h:∀ (es:Array (Int × Value)) (h':Heap),ElemsOf knd es.toList->(es.toList.map λe=>dec e.2).Perm ks->SameBut f s.heap h'->Good knd dec (yL w) h' f kf->Q es { s with heap:=h' }):wpAny (model prog w) A (setWalkUnseen a others (some f)) Q E s:=by
 obtain ⟨o,es,ep,t,h1,h2,h3,hf,hl,tb,hel,hp⟩:=g.size
 unfold setWalkUnseen
 refine wpAny_bind (wpAny_setState_of h1 h3 hf ?_)
 dsimp only
 refine wpAny_bind (zAq ?_)
 split
 ·rename_i c
  refine walk_ok g (λhb o' es' ep' t' h1' h3'=>?_) λes' hel' hp'=>h es' s.heap hel' hp' (SameBut.refl f s.heap) gf
  rw [h1] at h1'
  cases h1'
  rw [h3] at h3'
  cases h3'
  rw [hb] at c
  simp only [Bool.false_or,Bool.or_eq_true,Bool.and_eq_true,decide_eq_true_eq] at c
  rcases c with ⟨_,c⟩ | c
  ·rw [c]; rfl
  ·rw [decide_eq_false (by omega),Bool.and_false]
 ·refine wpAny_bind (zRo (knd:=knd) (dec:=dec) (led:=yL w) (a :: others) (λb hb=>(mem_cons.mp hb).elim (λe=>e ▸ ⟨ks,g⟩) (hs b)) hn ?_)
  simp only [Bool.not_true,Bool.false_eq_true,↓reduceIte]
  refine wpAny_bind (wpAny_rule ?_)
  obtain ⟨of,ef,epf,tf,f1,f2,f3,ff,fl,tbf,felm,fp⟩:=gf.size
  refine wpAny_bind (wpAny_setState_of f1 f3 ff ?_)
  dsimp only
  split
  ·have gl:=gf.len
   refine wpAny_bind (wpAny_storeSet_of f1 f3 ?_ (fits_of_scanBound (by rw [fl]; exact gl)))
   obtain ⟨_,_,_,_,e1,_,_,_,_,nd,hb,_,_⟩:=gf
   refine wpAny_pure (h es _ hel hp (SameBut.update _ f _) ⟨_,ef,_,_,zDg (es':=ef) (t':=_) f1 f3,f2,rfl,felm,fp,nd,?_,?_,?_⟩)
   ·rw [fl]; exact gl
   ·exact ff
   ·refine ⟨?_,λz=>?_⟩
    ·show (tf.led && t.led) = _
     rw [tbf.led,tb.led,Bool.and_self]
    ·exact tbf.rz (Bool.and_eq_true_iff.mp z).1
  ·exact wpAny_pure (h es s.heap hel hp (SameBut.refl f s.heap) gf)
theorem base_ok (hT:s.TypeIs (.ref a) "set") {Q:Value->Shared->Prop} (h:Q (.type "set") s):wpAny (model prog w) A (Builtin.Frozenset.baseOf a) Q E s:=by
 unfold Builtin.Frozenset.baseOf
 refine wpAny_bind (wpAny_isInstance (T:="set") (b:=true) hT sub_set_self ?_)
 exact wpAny_pure h
theorem zO1 {Q:Value->Shared->Prop} (h:Q (.ref s.heap.objs.size) { s with heap:=s.heap.push { cls:=.type "set",dict:=none,data:=.set #[] 0 (.fresh 0 0 (yL w)) } }):wpAny (model prog w) A (newSet (.type "set")) Q E s:=by
 unfold newSet setsByText
 refine wpAny_bind (wpAny_bind (wpAny_askSetting (wpAny_pure ?_)))
 dsimp only
 simp only [newObj]
 exact wpAny_bind (wpAny_alloc (wpAny_pure h))
end
end SetP
namespace L2
open PySem PySem.Spec PyProof.Rows SetP
section
variable {X:Cx}
end
end L2
namespace Ts
open PySem L2
section
variable {K:PySem.W.Frag} {B:Bs} {sl:SL K} {md:Md} {t1 t2:TE}
end
end Ts
namespace L2
open PySem PySem.Spec PyProof.Rows
section
variable {X:Cx}
def tLR (ta:TA):TE:=λσ H Q=>ta σ H λvs H1=>∃ j:Int,vs = [.int j] /\ -(2 ^ 62) <= j /\ j < 1000000 /\ ∀ l,H1 l = none->Q (.ref l) (upd H1 l (.lst (((List.range j.toNat).map Int.ofNat).map V.int)))
theorem ints_at {acc:List Value}:∀ {ns:LI},acc.length = ns.length->(∀ (i:Nat) (v:Value),acc[i]? = some v->∃ t:Tok,v = Value.int (ns.getD i 0) t)->IntsAre acc ns:=by
 induction acc with
 | nil =>
  intro ns h _
  cases ns with
  | nil=>exact .nil
  | cons n ns=>simp at h
 | cons v acc ih =>
  intro ns h g
  cases ns with
  | nil=>simp at h
  | cons n ns =>
   obtain ⟨t,e⟩:=g 0 v rfl
   subst e
   exact .cons n t (ih (by simpa using h) λi v hv=>g (i + 1) v hv)
theorem zK3 (hc:X.calm = true) (hg:Gl X "list") (hm:X.mg "list" = none) (hg2:Gl X "range") (hm2:X.mg "range" = none) (ha:PA X [a] ta) (hs:starEach [a] X.env = [(false,eval a X.env)]:=by rfl)
  (hs2:starEach [Expr.Call (.Name "range" p2) [a] [] pos2] X.env = [(false,eval (Expr.Call (.Name "range" p2) [a] [] pos2) X.env)]:=by rfl):PE X (.Call (.Name "list" p) [.Call (.Name "range" p2) [a] [] pos2] [] pos) (tLR ta):=by
 intro pins s σ H Q I h
 refine wpAny_Call_Name_kw (zA9 I hg hm (by decide +kernel:bootBuiltins "list" = some (.type "list")) ?_)
 refine PyProof.Rows.callWith_type1 ?_ hs2 rfl
 rw [hs2]
 show wpAny _ _ (spliced ((false,eval (Expr.Call (.Name "range" p2) [a] [] pos2) X.env) :: backTo pos [])) _ _ s
 refine Calls.spliced_cons (wpAny_Call_Name_kw (zA9 I hg2 hm2 boot_range (PyProof.Rows.callWith_type1 (thn (ha pos2 pins s σ H _ I h) λus s1 ⟨vs,H1,I1,r1,q1⟩=>?_) hs rfl)))
 obtain ⟨j,e,q1,q2,q⟩:=q1
 subst e
 cases r1 with
 | cons r rr =>
  cases rr
  obtain ⟨t,rfl⟩:=r
  refine call_range_1 (Calls.spliced_nil ?_)
  have I2:Inv X pins σ H1 { s1 with heap:=s1.heap.push { cls:=.type "range",data:=.fields #[.int 0 s1.toks,.int j t,.int 1 (s1.toks + 1)] },toks:=s1.toks + 1 + 1 }:=I1.kept λb o e=>get?_push_of_some _ e
  refine call_list_range (n:=j.toNat) (I2.ok.hd hc) (IsRange.new ..) (small_one (by omega) (by omega) q1 (by omega)) (by rw [rangeSize_one]; split <;> omega) (by omega) λh' tk acc' c' hk hS hacc=>?_
  have hI:IntsAre acc'.toList ((List.range j.toNat).map Int.ofNat):=ints_at (by rw [length_toList,hacc.1,length_map,length_range]) λi v hv=>by
   rw [getElem?_toList] at hv
   obtain ⟨t',rfl⟩:=hacc.2 i v hv
   have hi:i < j.toNat:=by
    have:=(Array.getElem?_eq_some_iff.mp hv).1
    rw [hacc.1] at this
    exact this
   refine ⟨t',?_⟩
   have e:((List.range j.toNat).map Int.ofNat).getD i 0 = (i:Int):=by
    rw [getD_eq_getElem?_getD,getElem?_map,getElem?_range hi]
    rfl
   rw [e]
   simp
  refine ⟨.ref _,_,I2.laid (h':=h') (t':=tk) (o:=.lst (((List.range j.toNat).map Int.ofNat).map V.int)) (λb ob w=>hk b ob w) (Nat.le_refl _) ?_,rfl,q _ (I2.hok.fresh (Nat.le_refl _))⟩
  refine ⟨?_,acc'.toList,c',uV hI,?_⟩
  ·rw [length_map,length_map,length_range]
   exact Nat.le_trans (show j.toNat <= 1000000 by omega) (by decide)
  ·rw [toArray_toList]; exact hS
end
end L2
namespace Ts
open PySem L2
section
variable {K:PySem.W.Frag} {B:Bs} {sl:SL K} {md:Md} {t t1 t2 te:TE} {m1 m2:Option Int}
def lrM (n:Int):Option LI:=if -(2 ^ 62) <= n /\ n < 1000000 then some ((List.range n.toNat).map Int.ofNat) else none
theorem zLp (h:Ex B sl .hp t m):Eo B sl md (tLR (xK t tNil)) (m.bind lrM):=λc hc F O H σ Q s k=>by
 cases m with
 | none=>cases hc
 | some n =>
  have hc:lrM n = some c:=hc
  unfold lrM at hc
  split at hc
  case isFalse=>cases hc
  rename_i hl
  cases hc
  refine h n rfl F O H σ _ s λv F' H' g r1=>?_
  cases r1
  exact ⟨n,rfl,hl.1,hl.2,λl hn=>k l _ F' H' g hn (zB6 _)⟩
end
section
variable {K:PySem.W.Frag} {B:Bs} {sl:SL K} {F H H2:Hp} {O:Own} {σ:St} {te:TE}
end
section
variable {K:PySem.W.Frag} {B:Bs} {sl sl2:SL K} {G F H:Hp} {O:Own} {σ:St} {te:TE}
theorem zN1 {α β:Type} [Rp K α] [Rp K β] {m:Option (α × β)} {L:α × β->SL K} (h:Ex B sl (mdb n) te m) (hg:Tg B sl n g L):Sn B sl (tAsg te g) L m:=λa ha G D σ H s k=>by
 obtain ⟨F,O,g0,z⟩:=s
 exact h a ha F O H σ _ z λv F' H' gr r=>hg v a F' O H' σ _ (z.grow gr) r λσ' z'=>k _ _ ⟨F',O,g0.trans gr.ff,z'⟩
inductive LeD {α:Type} [Rp K α] (kvs:List (Key × α)):SL K->SL K->Prop
 | here {a:SL K}:LeD kvs (.od kvs :: a) (.fz false (Dc.mk kvs) :: a)
 | skip {s:Slot K} {a b:SL K}:LeD kvs a b->LeD kvs (s :: a) (s :: b)
end
section
variable {K:PySem.W.Frag} {B:Bs} {sl:SL K} {md:Md} {t t2:TE} {α β:Type} [Rp K α] [Rp K β]
theorem ki_nt:kitOne K (.type "NoneType") (.type "tuple") = some false:=by
 first | rfl | (unfold kitOne kitCls; decide +kernel)
theorem ki_tt:kitOne K (.type "tuple") (.type "tuple") = some true:=by
 first | rfl | (unfold kitOne kitCls; decide +kernel)
theorem zCq:bootBuiltins "tuple" = some (.type "tuple"):=by decide +kernel
theorem zSh {m:Option (Option (α × β))} (h:Ex B sl .hp t m):Ex B sl md (tCB (rIsi K (.type "tuple")) (xK t (xK (tC (.ty "tuple")) tNil))) (m.bind λx=>some x.isSome):=λd hd F O H σ Q s k=>by
 cases m with
 | none=>cases hd
 | some a =>
  cases (show some a.isSome = some d from hd)
  refine h a rfl F O H σ _ s λv F' H' g r1=>?_
  cases a with
  | none=>cases r1; exact ⟨.non,.ty "tuple",_,false,rfl,rfl,.non,ki_nt,k _ F' H' g rfl⟩
  | some x=>exact ⟨v,.ty "tuple",_,true,rfl,rfl,Ty.is (K:=K) (α:=α × β) r1.2,ki_tt,k _ F' H' g rfl⟩
theorem zP4 {m:Option (α × β)} (h:Ex B sl .hp t m):Ex B sl md (tCB (rLen K) (xK t tNil)) (m.bind λ_=>some (2:Int)):=λd hd F O H σ Q s k=>by
 cases m with
 | none=>cases hd
 | some a =>
  cases (show some (2:Int) = some d from hd)
  refine h a rfl F O H σ _ s λv F' H' g r1=>?_
  obtain ⟨p,w1,w2,rfl,h1,h2,h3⟩:=r1
  exact ⟨p,[w1,w2],rfl,.inr (.inl (.inl h1)),k _ F' H' g rfl⟩
end
section
variable {P:Program} {w:World} {K:PySem.W.Frag} {mg:Str->Option Value} {base:Heap} {B:Bs} {sl:SL K} {md:Md} {α β:Type} [Rp K α] [Rp K β] {tA:Addr} {tO:HO} {te t1 t2:TE}
end
section
variable {X:Cx} {pos pos':Pos} {x:Str} {e:Expr} {te:TE}
theorem yS (i:Nat) (hN:X.N.Nodup) (he:PE X e te) (hi:X.N[i]? = some x:=by rfl) (hx:Loc X.env.scope x:=by first|exact .inl rfl|exact .inr rfl) (hs:swapsWith e (some (.Name x pos')) pos.line X.env = pure false:=by rfl)
  (hf:X.fn x = true \/ X.env.scope.names.lookup x = some .local:=by first|exact .inl rfl|exact .inr rfl|assumption):PS X (.Assign [.Name x pos'] e pos) (tAsg te (zBc i)):=zKz hN hi hx he hs hf
theorem pg_n (i:Nat) (hN:X.N.Nodup) (hi:X.N[i]? = some x:=by rfl) (hx:Loc X.env.scope x:=by first|exact .inl rfl|exact .inr rfl) (hf:X.fn x = true \/ X.env.scope.names.lookup x = some .local:=by first|exact .inl rfl|exact .inr rfl|assumption):PG X (.Name x pos) (zBc i):=yK hN hi hx hf
end
theorem esc {K:PySem.W.Frag} {B:Bs} {sl:SL K} {md:Md} {α:Type} [Rp K α] [Sc K α] {t:TE} {m:Option α} (h:Ex B sl .hp t m):Ex B sl md t m:=h.sc
theorem fsc {N P:List Str} {s:Scope} (h1:s.kind = .function:=by rfl) (h2:s.isCoroutine = false:=by rfl) (h3:s.isGenerator = false:=by rfl) (h4:N.Nodup:=by decide +kernel) (h5:N.take P.length = P:=by rfl) (h6:∀ x ∈ P,s.names.lookup x = some .local \/ s.names.lookup x = some .cell:=by decide +kernel) (h7:∀ y ∈ s.names,y.2 ≠ .free:=by decide +kernel):FnScope N P s:=⟨h1,h2,h3,h4,h5,h6,h7⟩
section
variable {K:PySem.W.Frag} {x y:Str} {st:Stmt} {f:Addr} {fd:FuncData} {p0 p1 p2 p3 p4:Str}
theorem bi1 (F:Fun K x y st f fd) (h:∀ kV dc pm an cd ct u0,bindArgs (fnOf x y (vY st) (wI st) (zK st) .none kV dc pm an cd ct) ⟨[u0],[]⟩ = pure [(p0,u0)]:=by intros; rfl):Binds K fd [p0] []:=F.binds λa b c d e g us hl=>match us,hl with | [u0],_=>h a b c d e g u0
theorem bi2 (F:Fun K x y st f fd) (h:∀ kV dc pm an cd ct u0 u1,bindArgs (fnOf x y (vY st) (wI st) (zK st) .none kV dc pm an cd ct) ⟨[u0,u1],[]⟩ = pure [(p0,u0),(p1,u1)]:=by intros; rfl):Binds K fd [p0,p1] []:=F.binds λa b c d e g us hl=>match us,hl with | [u0,u1],_=>h a b c d e g u0 u1
theorem bi3 (F:Fun K x y st f fd) (h:∀ kV dc pm an cd ct u0 u1 u2,bindArgs (fnOf x y (vY st) (wI st) (zK st) .none kV dc pm an cd ct) ⟨[u0,u1,u2],[]⟩ = pure [(p0,u0),(p1,u1),(p2,u2)]:=by intros; rfl):Binds K fd [p0,p1,p2] []:=F.binds λa b c d e g us hl=>match us,hl with | [u0,u1,u2],_=>h a b c d e g u0 u1 u2
theorem bi4 (F:Fun K x y st f fd) (h:∀ kV dc pm an cd ct u0 u1 u2 u3,bindArgs (fnOf x y (vY st) (wI st) (zK st) .none kV dc pm an cd ct) ⟨[u0,u1,u2,u3],[]⟩ = pure [(p0,u0),(p1,u1),(p2,u2),(p3,u3)]:=by intros; rfl):Binds K fd [p0,p1,p2,p3] []:=F.binds λa b c d e g us hl=>match us,hl with | [u0,u1,u2,u3],_=>h a b c d e g u0 u1 u2 u3
end
theorem lea {K:PySem.W.Frag} {a b:SL K} (h:Le a b:=by repeat (first | exact Le.nil | refine Le.eq ?_ | refine Le.un ?_ | refine Le.fr ?_)):Le a b:=h
theorem lea0 {K:PySem.W.Frag} {a b:SL K} (h:Le0 a b:=by repeat (first | exact Le0.nil | refine Le0.eq ?_ | refine Le0.un ?_)):Le0 a b:=h
abbrev Slot.z {α:Type} [Rp K α] (a:α):Slot K:=.fz false a
abbrev Slot.y {α:Type} [Rp K α] (a:α):Slot K:=.fz true a
end Ts
namespace SetP
open PySem PySem.SetTable
set_option maxRecDepth 100000
def itr (m:Nat):Nat->Nat->Nat
 | 0,i=>i
 | t + 1,i=>itr m t ((i * 5 + 1) % m)
def seen (m:Nat):Nat->Nat->Nat->Nat
 | 0,_,acc=>acc
 | t + 1,i,acc=>seen m t ((i * 5 + 1) % m) (acc ||| 1 <<< i)
theorem zKs (m j:Nat):∀ (t i acc:Nat),(seen m t i acc).testBit j = true->acc.testBit j = true \/ ∃ u,u < t /\ itr m u i = j
 | 0,i,acc,h=>.inl h
 | t + 1,i,acc,h=>by
  rcases zKs m j t _ _ h with z | ⟨u,hu,e⟩
  ·rw [Nat.testBit_or,Bool.or_eq_true] at z
   rcases z with z | z
   ·exact .inl z
   ·rw [Nat.testBit_shiftLeft,Bool.and_eq_true,decide_eq_true_eq] at z
    obtain ⟨z1,z2⟩:=z
    have:j - i = 0:=by
     cases q:j - i with
     | zero=>rfl
     | succ n =>
      rw [q] at z2
      have:(1:Nat).testBit (n + 1) = false:=Nat.testBit_lt_two_pow (Nat.lt_of_lt_of_le (by decide) (Nat.pow_le_pow_right (by decide) (Nat.succ_le_succ (Nat.zero_le n))))
      rw [this] at z2
      cases z2
    exact .inr ⟨0,Nat.succ_pos _,by show i = j; omega⟩
  ·exact .inr ⟨u + 1,Nat.succ_lt_succ hu,e⟩
def cyc (m:Nat):Bool:=(List.range m).all λi=>seen m m i 0 == 2 ^ m - 1
theorem cyc_hit (h:cyc m = true) (hi:i < m) (hj:j < m):∃ u,u < m /\ itr m u i = j:=by
 have q:=all_eq_true.mp h i (mem_range.mpr hi)
 have e:seen m m i 0 = 2 ^ m - 1:=by simpa using q
 have t:(seen m m i 0).testBit j = true:=by rw [e,Nat.testBit_two_pow_sub_one]; simpa using hj
 rcases zKs m j m i 0 t with z | z
 ·rw [Nat.zero_testBit] at z; cases z
 ·exact z
theorem cyc8:cyc 8 = true:=by decide +kernel
theorem cyc16:cyc 16 = true:=by decide +kernel
theorem cyc32:cyc 32 = true:=by decide +kernel
theorem cyc64:cyc 64 = true:=by decide +kernel
theorem cyc128:cyc 128 = true:=by decide +kernel
theorem cyc256:cyc 256 = true:=by decide +kernel
theorem find0 {owner:Array (Option Nat)} {mask i:Nat} (h:owner.getD i (some 0) = none):(List.range (runEnd mask i + 1 - i)).find? (λk=>(owner.getD (i + k) (some 0)).isNone) ≠ none:=λe=>by
 have q:=find?_eq_none.mp e 0 (mem_range.mpr (by unfold runEnd; split <;> omega))
 apply q
 show (owner.getD (i + 0) (some 0)).isNone = true
 rw [Nat.add_zero,h]; rfl
theorem zIj {owner:Array (Option Nat)} {mask:Nat}:∀ (fuel i p j:Nat),layClean.free mask owner fuel i p = some j->owner.getD j (some 0) = none
 | 0,_,_,_,h=>by cases h
 | fuel + 1,i,p,j,h=>by
  unfold layClean.free at h
  split at h
  ·rename_i k hk
   cases h
   have:=List.find?_some hk
   simpa using this
  ·exact zIj fuel _ _ j h
theorem zIk {owner:Array (Option Nat)} {mask j:Nat} (hj:owner.getD j (some 0) = none):∀ (fuel u i:Nat),u < fuel->itr (mask + 1) u i = j->layClean.free mask owner fuel i 0 ≠ none
 | 0,u,i,h,_=>absurd h (Nat.not_lt_zero _)
 | fuel + 1,0,i,_,e=>by
  have e':i = j:=e
  subst e'
  unfold layClean.free
  cases q:(List.range (runEnd mask i + 1 - i)).find? λk=>(owner.getD (i + k) (some 0)).isNone with
  | none=>exact absurd q (find0 hj)
  | some k=>exact λz=>by cases z
 | fuel + 1,u + 1,i,h,e=>by
  unfold layClean.free
  cases q:(List.range (runEnd mask i + 1 - i)).find? λk=>(owner.getD (i + k) (some 0)).isNone with
  | none=>exact zIk hj fuel u _ (Nat.lt_of_succ_lt_succ h) e
  | some k=>exact λz=>by cases z
theorem zLi {owner:Array (Option Nat)} {mask:Nat} (fuel:Nat) (h0:∀ i,i <= mask->layClean.free mask owner fuel i 0 ≠ none):∀ (d i p:Nat),i <= mask->p < 32 ^ d->layClean.free mask owner (fuel + d) i p ≠ none
 | 0,i,p,hi,hp=>by
  have e:p = 0:=by rw [Nat.pow_zero] at hp; omega
  subst e
  exact h0 i hi
 | d + 1,i,p,hi,hp=>by
  show layClean.free mask owner (fuel + d + 1) i p ≠ none
  unfold layClean.free
  cases q:(List.range (runEnd mask i + 1 - i)).find? λk=>(owner.getD (i + k) (some 0)).isNone with
  | none=>exact zLi fuel h0 d _ _ (Nat.le_of_lt_succ (Nat.mod_lt _ (Nat.succ_pos _))) (by rw [Nat.pow_succ] at hp; show p / 32 < _; omega)
  | some k=>exact λz=>by cases z
theorem free_ok {owner:Array (Option Nat)} {mask j:Nat} (hc:cyc (mask + 1) = true) (hs:j <= mask) (hj:owner.getD j (some 0) = none) (h:Int):∃ k,layClean.free mask owner (turns mask) (bits h % (mask + 1)) (bits h) = some k /\ owner.getD k (some 0) = none:=by
 have q:layClean.free mask owner (mask + 2 + 13) (bits h % (mask + 1)) (bits h) ≠ none:=zLi (mask + 2) (λi hi=>by
  obtain ⟨u,hu,e⟩:=cyc_hit hc (Nat.lt_succ_of_le hi) (Nat.lt_succ_of_le hs)
  exact zIk hj _ u i (by omega) e) 13 _ _ (Nat.le_of_lt_succ (Nat.mod_lt _ (Nat.succ_pos _))) (by unfold bits; have:=Int.emod_lt_of_pos h (b:=2 ^ 64) (by decide); have:=Int.emod_nonneg h (b:=2 ^ 64) (by decide); omega)
 unfold turns
 cases e:layClean.free mask owner (mask + 15) (bits h % (mask + 1)) (bits h) with
 | none=>exact absurd e q
 | some k=>exact ⟨k,rfl,zIj _ _ _ _ e⟩
theorem zGh {α:Type} (v:α):∀ (l:List (Option α)) (j:Nat),l[j]? = some none->((l.set j (some v)).filterMap id).Perm (v :: l.filterMap id)
 | [],j,h=>by simp at h
 | x :: l,0,h=>by
  have e:x = none:=by simpa using h
  subst e
  exact .refl _
 | none :: l,j + 1,h=>by
  show ((l.set j (some v)).filterMap id).Perm (v :: l.filterMap id)
  exact zGh v l j (by simpa using h)
 | some x :: l,j + 1,h=>by
  show (x :: (l.set j (some v)).filterMap id).Perm (v :: x :: l.filterMap id)
  exact ((zGh v l j (by simpa using h)).cons x).trans (.swap _ _ _)
theorem zHq:∀ (l:List (Option Nat)),(l.filterMap id).length < l.length->∃ j,j < l.length /\ l[j]? = some none
 | [],h=>by simp at h
 | none :: l,_=>⟨0,by simp,rfl⟩
 | some x :: l,h=>by
  obtain ⟨j,hj,e⟩:=zHq l (by simpa using h)
  exact ⟨j + 1,by simpa using hj,e⟩
theorem getD_none {owner:Array (Option Nat)}:owner.getD j (some 0) = none ↔ owner.toList[j]? = some none:=by
 rw [Array.getD_eq_getD_getElem?,getElem?_toList]
 cases owner[j]? with
 | none=>simp
 | some x=>simp
theorem zTr {mask:Nat} (hc:cyc (mask + 1) = true):∀ (hs:LI) (owner:Array (Option Nat)) (k:Nat),owner.size = mask + 1->(owner.toList.filterMap id).Perm (List.range k)->k + hs.length <= mask ->
  ∃ owner',hs.foldl (λacc h=>do
   let (owner,k) <- acc
   let j <- layClean.free mask owner (turns mask) (bits h % (mask + 1)) (bits h)
   pure (owner.setIfInBounds j (some k),k + 1)) (some (owner,k)) = some (owner',k + hs.length) /\ owner'.size = mask + 1 /\ (owner'.toList.filterMap id).Perm (List.range (k + hs.length))
 | [],owner,k,h1,h2,h3=>⟨owner,rfl,h1,h2⟩
 | h :: hs,owner,k,h1,h2,h3=>by
  obtain ⟨j,hj,ej⟩:=zHq owner.toList (by rw [h2.length_eq,length_range,length_toList,h1]; rw [length_cons] at h3; omega)
  obtain ⟨i,ei,fi⟩:=free_ok hc (owner:=owner) (j:=j) (by rw [length_toList,h1] at hj; omega) (getD_none.mpr ej) h
  have q:=zTr hc hs (owner.setIfInBounds i (some k)) (k + 1) (by rw [Array.size_setIfInBounds]; exact h1) ?_ (by rw [length_cons] at h3; omega)
  ·obtain ⟨o',e,z1,z2⟩:=q
   have ek:k + (h :: hs).length = k + 1 + hs.length:=by rw [length_cons]; omega
   refine ⟨o',?_,z1,by rw [ek]; exact z2⟩
   rw [ek,List.foldl_cons,<- e]
   refine congrArg (λz=>List.foldl _ z hs) ?_
   show (layClean.free mask owner (turns mask) (bits h % (mask + 1)) (bits h)).bind _ = _
   rw [ei]
   rfl
  ·rw [Array.toList_setIfInBounds,range_succ]
   exact ((zGh k owner.toList i (getD_none.mp fi)).trans (h2.cons k)).trans (List.perm_append_singleton k _).symm
theorem zHy:∀ (l:List (Option Nat)),(List.range l.length).filterMap (λj=>(l[j]?).getD none) = l.filterMap id
 | []=>rfl
 | x :: l=>by
  rw [length_cons,range_succ_eq_map,filterMap_cons,List.filterMap_map]
  have e:((λj=>((x :: l)[j]?).getD none) ∘ Nat.succ) = λj=>(l[j]?).getD none:=rfl
  rw [e,zHy l]
  cases x <;> rfl
theorem zPd {mask:Nat} (hc:cyc (mask + 1) = true) (finger moves:Nat) (led plain:Bool) (hs:Array Int) (hn:hs.size <= mask) :
  ∃ t order,laid mask finger moves led plain hs = some (t,order) /\ order.toList.Perm (List.range hs.size) /\ t.place.size = hs.size /\ t.dummies = #[] /\ t.mask = mask /\ t.led = led /\ t.plain = plain /\ Rz t.place:=by
 obtain ⟨o',e,z1,z2⟩:=zTr hc hs.toList (Array.replicate (mask + 1) none) 0 (by rw [Array.size_replicate]) (by rw [Array.toList_replicate,List.filterMap_replicate_of_none rfl]; exact .refl _) (by rw [Nat.zero_add,length_toList]; exact hn)
 rw [Nat.zero_add,length_toList] at z2
 have el:layClean mask hs = some o':=by
  unfold layClean
  rw [<- Array.foldl_toList,e]
  rfl
 have eo:((List.range (mask + 1)).filterMap λj=>(o'.getD j none).map λk=>(j,k)).map (·.2) = o'.toList.filterMap id:=by
  rw [<- zHy o'.toList,length_toList,z1,List.map_filterMap]
  refine congrArg (λf=>filterMap f _) (funext λj=>?_)
  rw [Array.getD_eq_getD_getElem?,getElem?_toList]
  cases (o'[j]?).getD none <;> rfl
 refine ⟨_,_,by unfold laid; rw [el]; rfl,?_,?_,rfl,rfl,rfl,rfl,zHw (λj=>o'.getD j none) _⟩
 ·show ((List.range (mask + 1)).filterMap λj=>(o'.getD j none).map λk=>(j,k)).map (·.2) |>.Perm _
  rw [eo]
  exact z2
 ·show (((List.range (mask + 1)).filterMap λj=>(o'.getD j none).map λk=>(j,k)).map (·.1)).length = _
  rw [length_map,<- length_map (f:=(·.2)),eo,z2.length_eq,length_range]
theorem zSw (h:n <= 255):∃ m,sizeAbove n = m + 1 /\ n <= m /\ cyc (m + 1) = true /\ m <= 255:=by
 by_cases h1:n < 8
 ·exact ⟨7,by unfold sizeAbove; unfold sizeAbove.go; rw [if_neg (by omega)],by omega,cyc8,by omega⟩
 by_cases h2:n < 16
 ·exact ⟨15,by unfold sizeAbove; unfold sizeAbove.go; rw [if_pos (by omega)]; unfold sizeAbove.go; rw [if_neg (by omega)],by omega,cyc16,by omega⟩
 by_cases h3:n < 32
 ·exact ⟨31,by unfold sizeAbove; unfold sizeAbove.go; rw [if_pos (by omega)]; unfold sizeAbove.go; rw [if_pos (by omega)]; unfold sizeAbove.go; rw [if_neg (by omega)],by omega,cyc32,by omega⟩
 by_cases h4:n < 64
 ·exact ⟨63,by unfold sizeAbove; unfold sizeAbove.go; rw [if_pos (by omega)]; unfold sizeAbove.go; rw [if_pos (by omega)]; unfold sizeAbove.go; rw [if_pos (by omega)]; unfold sizeAbove.go; rw [if_neg (by omega)],by omega,cyc64,by omega⟩
 by_cases h5:n < 128
 ·exact ⟨127,by unfold sizeAbove; unfold sizeAbove.go; rw [if_pos (by omega)]; unfold sizeAbove.go; rw [if_pos (by omega)]; unfold sizeAbove.go; rw [if_pos (by omega)]; unfold sizeAbove.go; rw [if_pos (by omega)]; unfold sizeAbove.go; rw [if_neg (by omega)],by omega,cyc128,by omega⟩
 ·exact ⟨255,by unfold sizeAbove; unfold sizeAbove.go; rw [if_pos (by omega)]; unfold sizeAbove.go; rw [if_pos (by omega)]; unfold sizeAbove.go; rw [if_pos (by omega)]; unfold sizeAbove.go; rw [if_pos (by omega)]; unfold sizeAbove.go; rw [if_pos (by omega)]; unfold sizeAbove.go; rw [if_neg (by omega)],by omega,cyc256,by omega⟩
open PySem PySem.Spec PyProof.Rows
set_option maxRecDepth 100000
section
variable {prog:Program} {w:World} {κ:Type} [DecidableEq κ] {knd:KeyKind prog w κ} {dec:Value->κ} {led:Bool} {A:Around} {E:Value->Shared->Prop} {s:Shared}
theorem zFv {α:Type} (es:Array α) (order:Array Nat) (h:order.toList.Perm (List.range es.size)):(order.filterMap (es[·]?)).toList.Perm es.toList:=by
 rw [Array.toList_filterMap]
 refine (h.filterMap _).trans ?_
 have e:(List.range es.size).filterMap (es[·]?) = es.toList:=by
  have:∀ l:List α,(List.range l.length).filterMap (λj=>l[j]?) = l:=λl=>by
   induction l with
   | nil=>rfl
   | cons x l ih =>
    rw [length_cons,range_succ_eq_map,filterMap_cons,List.filterMap_map]
    show x :: filterMap (λj=>l[j]?) _ = _
    rw [ih]
  have q:=this es.toList
  rw [length_toList] at q
  rw [<- q]
  refine congrArg (λf=>filterMap f _) (funext λj=>?_)
  rw [getElem?_toList]
 rw [e]
theorem zKx {Q:Unit->Shared->Prop} (ho:s.heap.get? a = some o) (hd:o.data = .set es ep t) (hf:t.fits es.size = true) (hw:wanted <= 255) (hn:es.size <= wanted)
  (h:∀ (es':Array (Int × Value)) (t':SetTable),es'.toList.Perm es.toList->t'.place.size = es.size->t'.dummies = #[]->wanted <= t'.mask->cyc (t'.mask + 1) = true->t'.led = t.led->Rz t'.place->Q () { s with heap:=s.heap.update a (Obj.putSet es' t') }):wpAny (model prog w) A (setRelay a wanted) Q E s:=by
 obtain ⟨m,e1,e2,e3,e4⟩:=zSw hw
 unfold setRelay
 refine wpAny_bind (wpAny_setState_of ho hd hf ?_)
 dsimp only
 rw [if_neg (by rw [e1]; show ¬ m + 1 > 2 ^ 24; omega)]
 obtain ⟨t',order,q1,q2,q3,q4,q5,q6,q7,q8⟩:=zPd (mask:=m) e3 t.finger (t.movedTo m) t.led t.plain (es.map (·.1)) (by rw [size_map]; omega)
 rw [size_map] at q2 q3
 have er:t.relaid (es.map (·.1)) wanted = some (t',order):=by
  unfold SetTable.relaid
  rw [e1]
  exact q1
 rw [er]
 have p:=zFv es order q2
 have sz:(order.filterMap (es[·]?)).size = es.size:=by rw [<- length_toList,p.length_eq,length_toList]
 refine wpAny_bind (m:=(if ((order.filterMap (es[·]?)).size != es.size) = true then unsupported "internal:set-table-lost-an-element" else pure (order.filterMap (es[·]?),t'))) ?_
 rw [if_neg (by rw [sz]; simp)]
 refine wpAny_pure ?_
 exact wpAny_storeSet_of ho hd (h _ t' p q3 q4 (by rw [q5]; exact e2) (by rw [q5]; exact e3) q6 q8) (by rw [sz]; show es.size <= 2 ^ 24; omega)
theorem zC3 {t':SetTable} (h1:t'.place.size = n) (h2:t'.dummies = #[]) (h3:wanted <= t'.mask) (h4:n <= wanted):t'.fits n = true:=by
 unfold fits SetTable.fill
 rw [h1,h2]
 simp
 omega
theorem zRl {Q:Unit->Shared->Prop} (g:Good knd dec led s.heap a ks) (hw:wanted <= 255) (hn:ks.length <= wanted)
  (h:∀ h',SameBut a s.heap h'->Good knd dec led h' a ks->Q () { s with heap:=h' }):wpAny (model prog w) A (setRelay a wanted) Q E s:=by
 obtain ⟨o,es,ep,t,ho,hx,hd,hel,hp,nd,hb,hf,tb⟩:=g
 have ln:es.size = ks.length:=by rw [<- hp.length_eq,length_map,length_toList]
 refine zKx ho hd hf hw (by rw [ln]; exact hn) λes' t' p q3 q4 q5 q6 q7 q8=>h _ (SameBut.update _ a _) ?_
 have sz:es'.size = es.size:=by rw [<- length_toList,p.length_eq,length_toList]
 exact ⟨_,es',_,t',zDg (es':=es') (t':=t') ho hd,hx,rfl,hel.perm p,(p.map _).trans hp,nd,by rw [sz]; exact hb,by rw [sz]; exact zC3 q3 q4 q5 (by rw [ln]; exact hn),⟨q7.trans tb.led,λ_=>q8⟩⟩
theorem room_ok {Q:Unit->Shared->Prop} (g:Good knd dec led s.heap a ks) (hw:(ks.length + more) * 2 <= 255)
  (h:∀ h',SameBut a s.heap h'->Good knd dec led h' a ks->Q () { s with heap:=h' }):wpAny (model prog w) A (setRoomFor a more) Q E s:=by
 obtain ⟨o,es,ep,t,ho,hx,hd,hel,hp,nd,hb,hf,tb⟩:=id g
 have ln:es.size = ks.length:=by rw [<- hp.length_eq,length_map,length_toList]
 unfold setRoomFor
 refine wpAny_bind (wpAny_setState_of ho hd hf ?_)
 dsimp only
 unfold SetTable.roomFor
 have pl:t.place.size = es.size:=zBd hf
 split
 ·rename_i z
  split at z
  ·cases z
   exact zRl g (by rw [pl,ln]; exact hw) (by rw [pl,ln]; omega) h
  ·cases z
 ·exact wpAny_pure (h _ (SameBut.refl a s.heap) g)
theorem zJx {Q:Unit->Shared->Prop} (hr:s.heap.get? r = some { cls:=.type "set",dict:=none,data:=.set #[] 0 (.fresh 0 0 (yL w)) }) (hne:r ≠ o) (g:Good knd dec (yL w) s.heap o ks) (hl:ks.length <= 127)
  (h:∀ h',SameBut r s.heap h'->Good knd dec (yL w) h' r ks->Q () { s with heap:=h' }):wpAny (model prog w) A (setMerge r o each) Q E s:=by
 obtain ⟨ob,es,ep,t,ho,hx,hd,hel,hp,nd,hb,hf,tb⟩:=id g
 have ln:es.size = ks.length:=by rw [<- hp.length_eq,length_map,length_toList]
 unfold setMerge
 rw [if_neg (by simpa using hne)]
 refine wpAny_bind (wpAny_setState_of ho hd hf ?_)
 dsimp only
 by_cases hemp:es.isEmpty = true
 ·rw [if_pos hemp]
  have e0:es.size = 0:=by simpa [Array.isEmpty] using hemp
  have k0:ks = []:=length_eq_zero_iff.mp (by rw [<- ln]; exact e0)
  subst k0
  exact wpAny_pure (h _ (SameBut.refl r s.heap) (zG4 hr))
 rw [if_neg hemp]
 refine wpAny_bind (wpAny_mono (Q:=λ_ s'=>∃ (h1:Heap) (o1:Obj) (ep1:Nat) (t1:SetTable),s' = { s with heap:=h1 } /\ SameBut r s.heap h1 /\ h1.get? r = some o1 /\ o1.ExactSet /\ o1.data = .set #[] ep1 t1 /\ t1.place.size = 0 /\ t1.dummies = #[] /\ t1.led = yL w /\ cyc (t1.mask + 1) = true /\ es.size <= t1.mask) ?first ?post (λ_ _ h=>h))
 case post =>
  rintro _ _ ⟨h1,o1,ep1,t1,rfl,sb,g1,x1,d1,pl,du,le,cy,rm⟩
  refine wpAny_bind (wpAny_setState_of (s:={ s with heap:=h1 }) g1 d1 (by show t1.fits 0 = true; exact zC3 pl du (Nat.zero_le _) (Nat.le_refl 0)) ?_)
  dsimp only
  have hfill:t1.fill = 0:=by unfold SetTable.fill; rw [pl,du]; rfl
  unfold SetTable.road
  rw [hfill]
  rw [if_neg (by simp)]
  by_cases hsl:(t1.mask == t.mask && t.dummies.isEmpty) = true
  ·rw [if_pos hsl]
   refine wpAny_storeSet_of (s:={ s with heap:=h1 }) g1 d1 (h _ (sb.trans (SameBut.update _ r _)) ⟨_,es,_,_,zDg (es':=es) (t':=_) g1 d1,x1,rfl,hel,hp,nd,hb,hf,⟨?_,λz=>tb.rz (Bool.and_eq_true_iff.mp z).2⟩⟩) (fits_of_scanBound hb)
   show (t1.led && t.led) = _
   rw [le,tb.led,Bool.and_self]
  ·rw [if_neg hsl]
   obtain ⟨t',order,q1,q2,q3,q4,q5,q6,q7,q8⟩:=zPd (mask:=t1.mask) cy t1.finger t1.moves (t1.led && t.led) (t1.plain && t.plain) (es.map (·.1)) (by rw [size_map]; exact rm)
   rw [size_map] at q2 q3
   dsimp only
   rw [q1]
   have p:=zFv es order q2
   have sz:(order.filterMap (es[·]?)).size = es.size:=by rw [<- length_toList,p.length_eq,length_toList]
   refine wpAny_bind (m:=(if ((order.filterMap (es[·]?)).size != es.size) = true then unsupported "internal:set-table-lost-an-element" else pure (order.filterMap (es[·]?),t'))) ?_
   rw [if_neg (by rw [sz]; simp)]
   refine wpAny_pure ?_
   refine wpAny_storeSet_of (s:={ s with heap:=h1 }) g1 d1 (h _ (sb.trans (SameBut.update _ r _)) ⟨_,_,_,t',zDg (es':=order.filterMap (es[·]?)) (t':=t') g1 d1,x1,rfl,hel.perm p,(p.map _).trans hp,nd,by rw [sz]; exact hb,by rw [sz]; exact zC3 q3 q4 (by rw [q5]; exact rm) (Nat.le_refl _),⟨?_,λ_=>q8⟩⟩) (fits_of_scanBound (by rw [sz]; exact hb))
   rw [q6,le,tb.led,Bool.and_self]
 case first =>
  unfold setRoomFor
  refine wpAny_bind (wpAny_setState_of hr rfl rfl ?_)
  dsimp only
  have e1:(SetTable.fresh 0 0 (yL w)).roomFor es.size = if (es.size * 5 ≥ 21) then some (es.size * 2) else none:=by
   unfold SetTable.roomFor SetTable.fill SetTable.fresh
   simp
  rw [e1]
  by_cases c:es.size * 5 ≥ 21
  ·rw [if_pos c]
   refine zKx hr rfl rfl (by omega) (Nat.zero_le _) λes' t' p q3 q4 q5 q6 q7 q8=>?_
   have ee:es' = #[]:=by
    have:=p.length_eq
    rw [length_toList] at this
    exact Array.eq_empty_of_size_eq_zero this
   subst ee
   exact ⟨_,_,_,t',rfl,SameBut.update _ r _,zDg (es':=#[]) (t':=t') hr rfl,⟨rfl,rfl,rfl⟩,rfl,q3,q4,q7,q6,by omega⟩
  ·rw [if_neg c]
   exact wpAny_pure ⟨s.heap,_,0,_,rfl,SameBut.refl r s.heap,hr,⟨rfl,rfl,rfl⟩,rfl,rfl,rfl,rfl,cyc8,by show es.size <= 7; omega⟩
end
set_option maxRecDepth 100000
section
variable {prog:Program} {w:World} {κ:Type} [DecidableEq κ] {knd:KeyKind prog w κ} {dec:Value->κ} {led:Bool} {A:Around} {E:Value->Shared->Prop} {s:Shared}
theorem zEu {α:Type} (xs:Array α) (p:Nat):(eraseAt xs p).toList = xs.toList.eraseIdx p:=by
 unfold eraseAt
 rw [Array.toList_append,List.eraseIdx_eq_take_drop_succ,Array.toList_extract,Array.toList_extract]
 simp [List.extract_eq_take_drop]
 exact List.take_of_length_le (by rw [List.length_drop,length_toList]; omega)
theorem zSa {α:Type} (xs:Array α) (p:Nat) (x:α):(insertAt xs p x).size = xs.size + 1:=by
 unfold insertAt
 simp
 omega
theorem er_rz (hr:Rz xs) (p:Nat):Rz (eraseAt xs p):=by
 intro i k a b hik ha hb
 rw [<- getElem?_toList,zEu,List.getElem?_eraseIdx] at ha hb
 have q:∀ j,xs.toList[j]? = xs[j]?:=λj=>getElem?_toList
 split at ha <;> split at hb
 ·exact hr i k a b hik (by rw [<- q]; exact ha) (by rw [<- q]; exact hb)
 ·exact hr i (k + 1) a b (by omega) (by rw [<- q]; exact ha) (by rw [<- q]; exact hb)
 ·omega
 ·exact hr (i + 1) (k + 1) a b (by omega) (by rw [<- q]; exact ha) (by rw [<- q]; exact hb)
theorem zQb (hdec:∀ k v,knd.is k v = true->dec v = k) {Q:Bool->Shared->Prop} (hk:knd.is k x = true) (hs:x.scannable = true) (g:Good knd dec led s.heap a ks)
  (h:∀ (h':Heap) (b:Bool),SameBut a s.heap h'->Good knd dec led h' a (ks.erase k)->(b = true ↔ k ∈ ks)->Q b { s with heap:=h' }) :
  wpAny (model prog w) A (setDiscardHashed a x (knd.hash k)) Q E s:=by
 obtain ⟨o,es,ep,t,ho,hx,hd,hel,hp,nd,hb,hf,tb⟩:=id g
 unfold setDiscardHashed
 refine wpAny_bind ?_
 unfold setFind setFindIn
 refine wpAny_bind (wpAny_setState_of ho hd hf ?_)
 dsimp only
 rw [byScan_of hs hb hel]
 simp only [↓reduceIte]
 refine wpAny_bind (wpAny_rule (wpAny_bind (wpAny_setScan_of hk ho hd hf hel ?_)))
 have fi:=zIl hdec hel k
 cases hr:List.findIdx? (λe=>knd.is k e.2) es.toList with
 | none =>
  have hm:k ∉ ks:=λz=>fi.mp hr (hp.mem_iff.mpr z)
  dsimp only
  refine wpAny_pure (wpAny_pure ?_)
  have q:=h s.heap false (SameBut.refl a s.heap)
  rw [List.erase_of_not_mem hm] at q
  exact q g ⟨λz=>(by cases z),λz=>absurd z hm⟩
 | some j =>
  obtain ⟨hj,hpj,_⟩:=List.findIdx?_eq_some_iff_getElem.mp hr
  dsimp only
  rw [Nat.zero_add]
  refine wpAny_pure (wpAny_bind (wpAny_setState_of ho hd hf ?_))
  dsimp only
  have pl:t.place.size = es.size:=zBd hf
  have hj':j < t.place.size:=by rw [pl,<- length_toList]; exact hj
  have sz:(eraseAt es j).size = es.size - 1:=by rw [<- length_toList,zEu,length_eraseIdx,if_pos hj,length_toList]
  have ed:t.drop j = { t with place:=eraseAt t.place j,dummies:=insertAt t.dummies (SetTable.below t.dummies t.place[j]) t.place[j] }:=by
   unfold SetTable.drop
   rw [Array.getElem?_eq_getElem hj']
  have jz:j < es.size:=by rw [<- length_toList]; exact hj
  have ft:(t.drop j).fits (eraseAt es j).size = true:=by
   rw [ed]
   unfold fits SetTable.fill at hf ⊢
   have e1:(eraseAt t.place j).size = es.size - 1:=by rw [<- length_toList,zEu,length_eraseIdx,length_toList,if_pos hj',pl]
   dsimp only
   rw [e1,zSa,sz]
   rw [Bool.and_eq_true,decide_eq_true_eq] at hf
   rw [Bool.and_eq_true,decide_eq_true_eq]
   refine ⟨by simp,?_⟩
   have:=hf.2
   omega
  have tb':Tb led (t.drop j):=by
   rw [ed]
   exact ⟨tb.led,λz=>er_rz (tb.rz z) j⟩
  have hp':((eraseAt es j).toList.map λe=>dec e.2).Perm (ks.erase k):=by
   rw [zEu]
   have p1:=((zBq hj).map λe=>dec e.2).trans hp
   rw [map_cons,hdec k _ hpj] at p1
   have p2:=p1.erase k
   rw [List.erase_cons_head] at p2
   exact p2
  have km:k ∈ ks:=hp.mem_iff.mp (mem_map.mpr ⟨es.toList[j],getElem_mem hj,hdec k _ hpj⟩)
  refine wpAny_bind (wpAny_storeSet_of ho hd (wpAny_bind (wpAny_point (wpAny_pure (h _ true (SameBut.update _ a _) ⟨_,_,_,_,zDg (es':=eraseAt es j) (t':=t.drop j) ho hd,hx,rfl,λe he=>?_,hp',nd.erase k,by rw [sz]; omega,ft,tb'⟩ ⟨λ_=>km,λ_=>rfl⟩)))) (fits_of_scanBound (by rw [sz]; omega)))
  rw [zEu] at he
  exact hel e (List.mem_of_mem_eraseIdx he)
end
set_option maxRecDepth 100000
section
variable {prog:Program} {w:World} {κ:Type} [DecidableEq κ] {knd:KeyKind prog w κ} {dec:Value->κ} {led:Bool} {A:Around} {E:Value->Shared->Prop} {s:Shared}
end
set_option maxRecDepth 100000
section
variable {prog:Program} {w:World} {κ:Type} [DecidableEq κ] {knd:KeyKind prog w κ} {dec:Value->κ} {led:Bool} {A:Around} {E:Value->Shared->Prop} {s:Shared}
theorem zR2 (hdec:∀ k v,knd.is k v = true->dec v = k) (id:String) (hn:∀ k v,knd.is k v = true->∀ b,v ≠ .ref b) (hne:o ≠ r) (g:Good knd dec (yL w) s.heap r kr) (go:Good knd dec (yL w) s.heap o ko) (hk:kr ≠ []) (hl:(kr.length + ko.length) * 2 <= 255) (hep:∀ ob es e t,s.heap.get? o = some ob->ob.data = .set es e t->e = ep) {Q:Unit->Shared->Prop}
  (h:∀ (h':Heap) (ks:List κ),SameBut r s.heap h'->Good knd dec (yL w) h' r ks->(∀ k,k ∈ ks ↔ k ∈ kr \/ k ∈ ko)->Q () { s with heap:=h' }) :
  wpAny (model prog w) A (setMerge r o (Builtin.Frozenset.unchanged id o ep)) Q E s:=by
 obtain ⟨ob,es,ep',t,h1,h2,h3,hf,hlo,tb,hel,hp⟩:=go.size
 have e1:=hep ob es ep' t h1 h3
 subst e1
 unfold setMerge
 rw [if_neg (by simpa using (Ne.symm hne))]
 refine wpAny_bind (wpAny_setState_of h1 h3 hf ?_)
 dsimp only
 by_cases hemp:es.isEmpty = true
 ·rw [if_pos hemp]
  have e0:es.size = 0:=by simpa [Array.isEmpty] using hemp
  have k0:ko = []:=length_eq_zero_iff.mp (by rw [<- hlo]; exact e0)
  subst k0
  exact wpAny_pure (h _ kr (SameBut.refl r s.heap) g λk=>by simp)
 rw [if_neg hemp]
 refine wpAny_bind (room_ok g (by rw [hlo]; exact hl) λh4 sb4 g4=>?_)
 obtain ⟨o5,es5,ep5,t5,i1,i2,i3,if5,il5,tb5,iel5,ip5⟩:=g4.size
 have go4:=go.keep (h':=h4) λob' e=>by rw [sb4.2 o hne]; exact e
 refine wpAny_bind (wpAny_setState_of (s:={ s with heap:=h4 }) i1 i3 if5 ?_)
 dsimp only
 have hfill:t5.fill ≠ 0:=by
  unfold SetTable.fill
  rw [zBd if5,il5]
  cases kr with
  | nil=>exact absurd rfl hk
  | cons a l=>rw [length_cons]; omega
 unfold SetTable.road
 rw [if_pos (by simpa using hfill)]
 dsimp only
 refine wpAny_bind (zHl (s:={ s with heap:=h4 }) go4 g4 (λb hb=>(mem_singleton.mp hb) ▸ ⟨kr,g4⟩) hn λes' h' hel' hp' sb gr'=>?_)
 rw [<- forIn_toList]
 have ln:es'.toList.length = ko.length:=by rw [<- hp'.length_eq,length_map]
 refine wpAny_bind (wpAny_mono (wpAny_forIn_list (β:=Unit) _ (λl _ s'=>∃ h2 ks,s' = { s with heap:=h2 } /\ SameBut r s.heap h2 /\ Good knd dec (yL w) h2 r ks /\ ElemsOf knd l /\ ks.length + l.length <= 128 /\ ∀ k,(k ∈ ks \/ k ∈ l.map λe=>dec e.2) ↔ (k ∈ kr \/ k ∈ ko)) (λ_ s'=>∃ h2 ks,s' = { s with heap:=h2 } /\ SameBut r s.heap h2 /\ Good knd dec (yL w) h2 r ks /\ ∀ k,k ∈ ks ↔ k ∈ kr \/ k ∈ ko) ?turn ?fin es'.toList () ⟨h',kr,rfl,sb4.trans sb,gr',hel',by rw [ln]; omega,λk=>?_⟩) ?post (λ_ _ h=>h))
 case turn =>
  rintro ⟨hs,v⟩ l b s' ⟨h2',ks,rfl,sb2,g2,hl2,hlen,hm⟩
  obtain ⟨⟨k,hk',hh⟩,hsc⟩:=hl2 _ mem_cons_self
  dsimp only at hk' hh hsc ⊢
  subst hh
  have dv:dec v = k:=hdec k v hk'
  rw [length_cons] at hlen
  have big:(129:Nat) < scanBound:=by decide
  have room:ks.length + 1 < scanBound:=by omega
  refine wpAny_bind (wpAny_holding (zQu (led:=yL w) (s:={ s with heap:=h2' }) hdec hk' hsc g2 room λh3' b' sb3 g3=>?_))
  have at3:h3'.get? o = some ob:=by rw [sb3.2 o hne]; show h2'.get? o = _; rw [sb2.2 o hne]; exact h1
  refine wpAny_bind ?_
  unfold Builtin.Frozenset.unchanged
  refine wpAny_bind (wpAny_setEpoch_of (s:={ s with heap:=h3' }) at3 h3 hf ?_)
  simp only [bne_self_eq_false,Bool.false_eq_true,↓reduceIte]
  refine wpAny_pure (wpAny_bind (wpAny_setState_of (s:={ s with heap:=h3' }) at3 h3 hf ?_))
  simp only [bne_self_eq_false,Bool.false_eq_true,↓reduceIte]
  refine wpAny_pure ⟨h3',_,rfl,sb2.trans sb3,g3,λe he=>hl2 e (mem_cons_of_mem _ he),?_,λc=>?_⟩
  ·split
   ·omega
   ·rw [length_cons]; omega
  ·rw [<- hm c,map_cons,mem_cons]
   show _ ↔ (c ∈ ks \/ (c = dec v \/ _))
   rw [dv]
   have e:c ∈ (if k ∈ ks then ks else k :: ks) ↔ c = k \/ c ∈ ks:=by
    split
    ·rename_i z
     exact ⟨.inr,λq=>q.elim (λq=>q ▸ z) λq=>q⟩
    ·exact mem_cons
   rw [e]
   constructor
   ·rintro ((z | z) | z)
    ·exact .inr (.inl z)
    ·exact .inl z
    ·exact .inr (.inr z)
   ·rintro (z | z | z)
    ·exact .inl (.inr z)
    ·exact .inl (.inl z)
    ·exact .inr z
 case fin =>
  rintro b s' ⟨h2',ks,rfl,sb2,g2,_,_,hm⟩
  refine ⟨h2',ks,rfl,sb2,g2,λk=>?_⟩
  rw [<- hm k]
  simp
 case post =>
  rintro b s' ⟨h2',ks,rfl,sb2,g2,hm⟩
  exact wpAny_pure (h h2' ks sb2 g2 hm)
 ·rw [hp'.mem_iff]
theorem upd_ok (hdec:∀ k v,knd.is k v = true->dec v = k) (id:String) (hn:∀ k v,knd.is k v = true->∀ b,v ≠ .ref b) (hne:o ≠ r) (g:Good knd dec (yL w) s.heap r kr) (go:Good knd dec (yL w) s.heap o ko) (h0:kr = []->s.heap.get? r = some { cls:=.type "set",dict:=none,data:=.set #[] 0 (.fresh 0 0 (yL w)) }) (hl:(kr.length + ko.length) * 2 <= 255) {Q:Unit->Shared->Prop}
  (h:∀ (h':Heap) (ks:List κ),SameBut r s.heap h'->Good knd dec (yL w) h' r ks->(∀ k,k ∈ ks ↔ k ∈ kr \/ k ∈ ko)->Q () { s with heap:=h' }) :
  wpAny (model prog w) A (Builtin.Frozenset.updateFrom id r (.ref o)) Q E s:=by
 obtain ⟨ob,es,ep',t,h1,h2,h3,hf,hlo,tb,hel,hp⟩:=go.size
 unfold Builtin.Frozenset.updateFrom
 refine wpAny_bind (zHd go.type ?_)
 simp only [↓reduceIte]
 refine wpAny_bind (wpAny_pure ?_)
 unfold Builtin.Frozenset.merge
 refine wpAny_bind (wpAny_setEpoch_of h1 h3 hf ?_)
 cases kr with
 | nil=>exact zJx (h0 rfl) (Ne.symm hne) go (by simp at hl; omega) λh' sb g'=>h h' ko sb g' λk=>by simp
 | cons a l =>
  refine zR2 hdec id hn hne g go (λz=>by cases z) hl (λob' es' e' t' z1 z2=>?_) h
  rw [h1] at z1
  cases z1
  rw [h3] at z2
  cases z2
  rfl
end
end SetP
namespace L2
open PySem PySem.Spec PyProof.Rows SetP
section
variable {X:Cx}
end
end L2
namespace Ts
open PySem L2
section
variable {K:PySem.W.Frag} {B:Bs} {sl:SL K} {md:Md} {t1 t2:TE}
end
end Ts
namespace L2
open PySem PySem.Spec PyProof.Rows
structure Cat (K:PySem.W.Frag) (C:Addr) (m:Str) (f:Addr):Prop where
 sp:specialIn K (.ref C) "__getattribute__" = some (some (.builtin "type.__getattribute__"))
 rd:PySem.W.readsIn K C (.type "type") = true
 at_:PySem.W.findCls K (.ref C) (.type "type") m = some (.val (.ref f))
 kp:keepIn K (.ref f) = true
section
variable {X:Cx} {CX:CXT} {k:Nat} {f C:Addr} {fd:FuncData} {ps:List Str} {sp:Sp} {dvs:List V} {ds:List Value} {E:XK} {x m:Str} {p pos apos:Pos} {e o:Expr} {es:List Expr} {ta:TE} {t:TA}
end
end L2
namespace Sy
open PySem L2
inductive Tr where
 | all
 | mark (x:Str)
 | one (i:Fin 7) (t:Tr)
 | two (i:Fin 4) (l r:Tr)
def w1 (i:Fin 7):Str:=(["not","somenext","eachnext","somealways","eachalways","someever","eachever"]:List Str).getD i.val Str.empty
def w2 (i:Fin 4):Str:=(["both","either","sometill","eachtill"]:List Str).getD i.val Str.empty
def Tr.depth:Tr->Nat
 | .all=>0
 | .mark _=>0
 | .one _ t=>t.depth + 1
 | .two _ l r=>max l.depth r.depth + 1
def Kp (p:Addr) (H H':Hp):Prop:=∀ b o,b ≠ p->H b = some o->H' b = some o
theorem same_new (h:H p = none) (o:HO):Same H (upd H p o):=λb u q=>by rw [zQ (zS q h)]; exact q
def zPv (w:V) (q:Addr):List (Str × V):=putF "parts" (.ref q) (putF "word" w [])
def fOne (w v:V) (q:Addr):List (Str × V):=putF "part" v (zPv w q)
def fTwo (w v u:V) (q:Addr):List (Str × V):=putF "right" u (putF "left" v (zPv w q))
def fMark (x:V) (q:Addr):List (Str × V):=putF "name" x (zPv x q)
theorem putF_len (f:Str) (v:V):∀ fs:List (Str × V),(putF f v fs).length <= fs.length + 1
 | []=>Nat.le_refl _
 | (g,x) :: r=>by
  unfold putF
  split
  ·exact Nat.le_succ _
  ·exact Nat.succ_le_succ (putF_len f v r)
structure KdAt (K:PySem.W.Frag) (C:Addr):Prop where
 cl:Cls K C
 nW:NoAttr K C "word"
 nP:NoAttr K C "parts"
 n1:NoAttr K C "part"
 nL:NoAttr K C "left"
 nR:NoAttr K C "right"
 nN:NoAttr K C "name"
inductive Hd where
 | all
 | mark
 | one (i:Fin 7)
 | two (i:Fin 4)
def spIA (C:Addr):Sp:=λvs H Q _=>∃ (p dx:Addr),vs = [.ref p] /\ H p = some (.ins C dx []) /\ ∀ (q:Addr) (H':Hp),Kp p H H'->H q = none->H' q = some (.tup [])->H' p = some (.ins C dx (zPv (.str "all") q))->Q .non H'
def spIM (C:Addr):Sp:=λvs H Q _=>∃ (p dx:Addr) (x:V),vs = [.ref p,x] /\ H p = some (.ins C dx []) /\ ∀ (q:Addr) (H':Hp),Kp p H H'->H q = none->H' q = some (.tup [])->H' p = some (.ins C dx (fMark x q))->Q .non H'
def spI1 (C:Addr) (w:Str):Sp:=λvs H Q _=>∃ (p dx:Addr) (v:V),vs = [.ref p,v] /\ H p = some (.ins C dx []) /\ ∀ (q:Addr) (H':Hp),Kp p H H'->H q = none->H' q = some (.tup [v])->H' p = some (.ins C dx (fOne (.str w) v q))->Q .non H'
def spI2 (C:Addr) (w:Str):Sp:=λvs H Q _=>∃ (p dx:Addr) (v u:V),vs = [.ref p,v,u] /\ H p = some (.ins C dx []) /\ ∀ (q:Addr) (H':Hp),Kp p H H'->H q = none->H' q = some (.tup [v,u])->H' p = some (.ins C dx (fTwo (.str w) v u q))->Q .non H'
inductive SayAt (cl:Hd->Addr) (H:Hp):Addr->Tr->Prop where
 | all {p q dx:Addr}:H p = some (.ins (cl .all) dx (zPv (.str "all") q))->H q = some (.tup [])->SayAt cl H p .all
 | mark {p q dx:Addr} {x:Str}:H p = some (.ins (cl .mark) dx (fMark (.str x) q))->H q = some (.tup [])->SayAt cl H p (.mark x)
 | one {p q dx c:Addr} {i:Fin 7} {t:Tr}:H p = some (.ins (cl (.one i)) dx (fOne (.str (w1 i)) (.ref c) q))->H q = some (.tup [.ref c])->SayAt cl H c t->SayAt cl H p (.one i t)
 | two {p q dx c d:Addr} {i:Fin 4} {l r:Tr}:H p = some (.ins (cl (.two i)) dx (fTwo (.str (w2 i)) (.ref c) (.ref d) q))->H q = some (.tup [.ref c,.ref d])->SayAt cl H c l->SayAt cl H d r->SayAt cl H p (.two i l r)
def hd:Tr->Hd
 | .all=>.all
 | .mark _=>.mark
 | .one i _=>.one i
 | .two i _ _=>.two i
def hw:Tr->Str
 | .all=>"all"
 | .mark x=>x
 | .one i _=>w1 i
 | .two i _ _=>w2 i
def pts:Tr->List Tr
 | .all=>[]
 | .mark _=>[]
 | .one _ t=>[t]
 | .two _ l r=>[l,r]
def n1 (i:Fin 7):Str:=(["Not","SomeNext","EachNext","SomeAlways","EachAlways","SomeEver","EachEver"]:List Str).getD i.val Str.empty
def n2 (i:Fin 4):Str:=(["Both","Either","SomeTill","EachTill"]:List Str).getD i.val Str.empty
structure Ini (P:Program) (w:World) (K:PySem.W.Frag) (mg:Str->Option Value) (base:Heap) (k:Nat) (cl fi:Hd->Addr) (di:Hd->FuncData):Prop where
 made:∀ h,Mk K (cl h) (fi h)
 iA:FnOk P w K mg base CX0 k (fi .all) (di .all) ["self"] (spIA (cl .all))
 bA:Binds K (di .all) ["self"] []
 iM:FnOk P w K mg base CX0 k (fi .mark) (di .mark) ["self","name"] (spIM (cl .mark))
 bM:Binds K (di .mark) ["self","name"] []
 i1:∀ i,FnOk P w K mg base CX0 k (fi (.one i)) (di (.one i)) ["self","part"] (spI1 (cl (.one i)) (w1 i))
 b1:∀ i,Binds K (di (.one i)) ["self","part"] []
 i2:∀ i,FnOk P w K mg base CX0 k (fi (.two i)) (di (.two i)) ["self","left","right"] (spI2 (cl (.two i)) (w2 i))
 b2:∀ i,Binds K (di (.two i)) ["self","left","right"] []
 mA:mg "All" = some (.ref (cl .all))
 mM:mg "Mark" = some (.ref (cl .mark))
 m1:∀ i,mg (n1 i) = some (.ref (cl (.one i)))
 m2:∀ i,mg (n2 i) = some (.ref (cl (.two i)))
end Sy
namespace Ts
open PySem L2 Sy
structure Say (cl:Hd->Addr) where
 t:Tr
def isHd:Hd->Tr->Bool
 | .all,.all=>true
 | .mark,.mark _=>true
 | .one i,.one j _=>decide (j = i)
 | .two i,.two j _ _=>decide (j = i)
 | _,_=>false
def Say.parts (x:Say cl):List (Say cl):=(pts x.t).map Say.mk
def Say.name (x:Say cl):Option Str:=match x.t with
 | .mark s=>some s
 | _=>none
structure SayC (P:Program) (w:World) (K:PySem.W.Frag) (mg:Str->Option Value) (base:Heap) (k:Nat) (cl fi:Hd->Addr) (di:Hd->FuncData):Prop where
 ini:Ini P w K mg base k cl fi di
 kd:∀ h,KdAt K (cl h)
 isi:∀ h h':Hd,∀ t:Tr,hd t = h->kitOne K (.ref (cl h)) (.ref (cl h')) = some (isHd h' t)
 c1:∀ h,findIn K (.ref (cl h)) "__class__" = some (some (.builtin "object.__class__"))
 c2:specialIn K (.builtin "object.__class__") "__get__" = some (some (.builtin "getset_descriptor.__get__"))
 c3:PySem.W.takesIn K (.builtin "object.__class__") = some true
 c4:∀ h,PySem.W.mroIn K (cl h) (.type "object") = some true
section
variable {K:PySem.W.Frag} {cl:Hd->Addr}
end
section
variable {K:PySem.W.Frag} {B:Bs} {F H H2:Hp} {O:Own}
end
section
variable {P:Program} {w:World} {K:PySem.W.Frag} {mg:Str->Option Value} {base:Heap} {B:Bs} {sl:SL K} {md:Md} {te t1 t2:TE} {cl fi:Hd->Addr} {di:Hd->FuncData} {k:Nat}
end
section
variable {K:PySem.W.Frag} {B:Bs} {sl:SL K} {md:Md} {te:TE} {α:Type} [Rp K α]
end
end Ts
namespace ZipL
open PySem PySem.Spec PyProof.Rows
set_option maxRecDepth 100000
section
variable {prog:Program} {w:World} {A:Around} {E:Value->Shared->Prop} {s:Shared}
abbrev IsZ2 (h:Heap) (z TI TO T:Addr) (b:Bool):Prop :=
 h.get? z = some { cls:=.type "zip",dict:=none,data:=.fields #[rawInt T,.bool b,.bool false,.ref TI,.ref TO],slots:=#[] }
structure ZSt (h:Heap) (S z TI TO i1 i2 l1 l2 N i:Nat) (xs ys acc:Array Value):Prop where
 sz:h.objs.size = N + i
 zz:(i = 0 /\ IsZip h z TI TO .none /\ ∃ a b,IsPair h TO a b) \/ (0 < i /\ ∃ b,IsZ2 h z TI TO N b)
 ti:IsPair h TI (.ref i1) (.ref i2)
 h1:h.IsListIter i1 l1 i
 h2:h.IsListIter i2 l2 i
 q1:h.IsList l1 xs
 q2:h.IsList l2 ys
 ls:∃ c,h.get? S = some { cls:=.type "list",dict:=none,data:=.seq acc c,slots:=#[] }
 al:acc.toList = (List.range i).map λj=>Value.ref (N + j)
 tp:∀ j x y,j < i->xs[j]? = some x->ys[j]? = some y->IsPair h (N + j) x y
variable {R:Result->Shared->Prop}
end
section
variable {prog:Program} {w:World} {A:Around} {E:Value->Shared->Prop} {s:Shared}
end
end ZipL
namespace L2
open PySem PySem.Spec PyProof.Rows ZipL
end L2
namespace Ts
open PySem L2
section
variable {K:PySem.W.Frag} {B:Bs} {sl:SL K} {md:Md} {t1 t2:TE} {α β:Type} [Rp K α] [Rp K β]
end
open PySem L2 Sy
inductive Rsn where
 | none
 | step (n:Int)
 | shut
 | walk (xs:LI)
 | out
 | loop (xs ys:LI)
 | rank (n:Int) (o:Option Int)
 | here
 | dead
 | plain
def Rsn.word:Rsn->Str
 | .none=>"none"
 | .step _=>"step"
 | .shut=>"shut"
 | .walk _=>"walk"
 | .out=>"out"
 | .loop _ _=>"loop"
 | .rank _ _=>"rank"
 | .here=>"here"
 | .dead=>"dead"
 | .plain=>"plain"
def Rsn.len:Rsn->Int
 | .step _=>2
 | .walk _=>2
 | .loop _ _=>3
 | .rank _ _=>3
 | _=>1
def Rsn.at1:Rsn->Option Int
 | .step n=>some n
 | .rank n _=>some n
 | _=>Option.none
section
variable {K:PySem.W.Frag}
def Rsn.rest (K:PySem.W.Frag) (F:Hp):Rsn->List V->Prop
 | .step n,vs=>vs = [.int n]
 | .walk xs,vs=>∃ a,vs = [a] /\ rp K F a xs
 | .loop xs ys,vs=>∃ a b,vs = [a,b] /\ rp K F a xs /\ rp K F b ys
 | .rank n o,vs=>∃ b,vs = [.int n,b] /\ rp K F b o
 | _,vs=>vs = []
theorem Rsn.rest_mono (s:Same F F'):∀ {r:Rsn} {vs:List V},r.rest K F vs->r.rest K F' vs
 | .step _,_,h=>h
 | .walk _,_,⟨a,h1,h2⟩=>⟨a,h1,Rp.mono s h2⟩
 | .loop _ _,_,⟨a,b,h1,h2,h3⟩=>⟨a,b,h1,Rp.mono s h2,Rp.mono s h3⟩
 | .rank _ _,_,⟨b,h1,h2⟩=>⟨b,h1,Rp.mono s h2⟩
 | .none,_,h=>h
 | .shut,_,h=>h
 | .out,_,h=>h
 | .here,_,h=>h
 | .dead,_,h=>h
 | .plain,_,h=>h
instance:Rp K Rsn:=⟨λF v r=>∃ p vs,v = .ref p /\ F p = some (.tup (.str r.word :: vs)) /\ r.rest K F vs,λs ⟨p,vs,h1,h2,h3⟩=>⟨p,vs,h1,s _ _ h2,Rsn.rest_mono s h3⟩⟩
instance:Nn K Rsn:=⟨λ⟨_,_,h,_⟩=>by rw [h]; intro e; cases e⟩
instance:Ty K Rsn:=⟨.type "tuple",λ⟨p,_,e,h,_⟩=>by rw [e]; exact .tup h⟩
end
section
variable {K:PySem.W.Frag} {B:Bs} {sl:SL K} {md:Md} {te t1 t2:TE}
end
end Ts
namespace L2
open PySem PySem.Spec PyProof.Rows
section
variable {X:Cx}
def rSlS:V->Option Int->Option Int->Hp->VK->Prop:=λx lo hi H Q=>∃ z j,x = .str z /\ lo = none /\ hi = some j /\ z.length <= sizeLine /\ Q (.str (Txt.slice z none (some j))) H
theorem sl_str:SlR X rSlS:=by
 intro pins s σ H x v vl vu lo hi sl Q I rx hs pl pu h
 obtain ⟨z,j,rfl,rfl,rfl,hz,q⟩:=h
 obtain ⟨t,rfl⟩:=rx
 cases pl
 cases pu with
 | int _ tk =>
  refine ⟨"str",_,PySem.F.slot_str_getitem.lookup,typeIs_str _ _ _,?_⟩
  exact wpAny_getItem_str_slice (l:=none) (u:=some (j,tk)) (st:=none) hs rfl (post_val_or_str ⟨Nat.le_trans (Txt.slice_le z _ _) hz,λt' k=>⟨.str _,H,I.tok k,⟨t',rfl⟩,q⟩⟩)
def rAddS:R2:=λx y H Q=>∃ i j,x = .str i /\ y = .str j /\ i.length + j.length <= sizeLine /\ Q (.str (i ++ j)) H
theorem zJp:OpR X (binaryOp .Add) rAddS:=zMg
def rIxT1:R2:=λx y H Q=>∃ z i c,x = .str z /\ y = .int i /\ 0 <= i /\ i < 2 ^ 63 /\ i < z.length /\ z.cps[i.toNat]? = some c /\ Q (.str ⟨#[c]⟩) H
theorem zTi (ha:PE X a ta) (hb:PE X b tb) (hs:zL0 b):PE X (.Subscript a b pos) (tOp rIxT1 ta tb):=zJm ha hb hs
end
end L2
namespace Ts
open PySem L2
section
variable {K:PySem.W.Frag} {B:Bs} {sl:SL K} {md:Md} {t t1 t2:TE}
def addS (a b:Str):Option Str:=if a.length + b.length <= 1000 then some (a ++ b) else none
theorem zKc (h1:Ex B sl .hp t1 m1) (h2:Ex B sl .hp t2 m2):Ex B sl md (tOp rAddS t1 t2) (m1.bind λa=>m2.bind λb=>addS a b):=λc hc F O H σ Q s k=>by
 obtain ⟨a,b,ha,hb,hf⟩:=zDa hc
 unfold addS at hf
 split at hf
 case isFalse=>cases hf
 rename_i hl
 cases hf
 refine h1 a ha F O H σ _ s λv F' H' g r1=>?_
 refine h2 b hb F' O H' σ _ (s.grow g) λw F2 H2 g2 r2=>?_
 cases r1
 cases r2
 exact ⟨a,b,rfl,rfl,Nat.le_trans hl (by decide),k _ F2 H2 (g.trans g2) rfl⟩
def ixS (z:Str) (i:Int):Option Str:=if 0 <= i /\ i < 2 ^ 63 /\ i < z.length then (z.cps[i.toNat]?).map λc=>⟨#[c]⟩ else none
theorem zT0 (h1:Ex B sl .hp t1 m1) (h2:Ex B sl .hp t2 m2):Ex B sl md (tOp rIxT1 t1 t2) (m1.bind λa=>m2.bind λb=>ixS a b):=λc hc F O H σ Q s k=>by
 obtain ⟨a,b,ha,hb,hf⟩:=zDa hc
 unfold ixS at hf
 split at hf
 case isFalse=>cases hf
 rename_i hl
 cases e:a.cps[b.toNat]? with
 | none=>rw [e] at hf; cases hf
 | some z =>
  rw [e] at hf
  cases hf
  refine h1 a ha F O H σ _ s λv F' H' g r1=>?_
  refine h2 b hb F' O H' σ _ (s.grow g) λw F2 H2 g2 r2=>?_
  cases r1
  cases r2
  exact ⟨a,b,z,rfl,rfl,hl.1,hl.2.1,hl.2.2,e,k _ F2 H2 (g.trans g2) rfl⟩
def cutS (z:Str) (j:Int):Option Str:=if z.length <= 1000 then some (Txt.slice z none (some j)) else none
theorem ex_cutS (h1:Ex B sl .hp t1 m1) (h2:Ex B sl .hp t2 m2):Ex B sl md (tSl rSlS t1 zNt (tPart t2)) (m1.bind λa=>m2.bind λb=>cutS a b):=λc hc F O H σ Q s k=>by
 obtain ⟨a,b,ha,hb,hf⟩:=zDa hc
 unfold cutS at hf
 split at hf
 case isFalse=>cases hf
 rename_i hl
 cases hf
 refine h1 a ha F O H σ _ s λv F' H' g r1=>?_
 refine h2 b hb F' O H' σ _ (s.grow g) λw F2 H2 g2 r2=>?_
 cases r1
 cases r2
 exact ⟨b,rfl,a,b,rfl,rfl,rfl,Nat.le_trans hl (by decide),k _ F2 H2 (g.trans g2) rfl⟩
end
section
variable {K:PySem.W.Frag} {B:Bs} {sl:SL K} {F H H' L L':Hp} {O:Own} {σ:St} {α:Type} [Rp K α]
end
open PySem L2 Sy
open PySem.SeqAt (EqAt RcAt RcNeAt)
section
variable {K:PySem.W.Frag}
variable {B:Bs} {sl:SL K} {md:Md} {t1 t2:TE}
end
theorem zJg {β:Type} [Rp K β] {m:Option β} (sl2:SL K) (h:SB B sl2 t al m) (e:sl = sl2:=by rfl):SB B sl t al m:=e ▸ h
section
variable {K:PySem.W.Frag} {B:Bs} {sl:SL K} {md:Md} {β:Type} [Rp K β]
end
structure RL (p:Addr) where
 ws:LI
section
variable {K:PySem.W.Frag} {B:Bs} {sl:SL K} {F H:Hp} {O:Own} {σ:St} {md:Md} {β:Type} [Rp K β] {p:Addr} {ws:LI}
instance:Rp K (RL p):=⟨λF v x=>v = .ref p /\ F p = some (.lst (x.ws.map V.int)),λs ⟨h1,h2⟩=>⟨h1,s _ _ h2⟩⟩
end
section
variable {K:PySem.W.Frag} {B:Bs} {sl:SL K} {F H:Hp} {O:Own} {σ:St} {md:Md} {α β S:Type} [Rp K α] [Rp K β] {p:Addr} {ws:LI} {te:TE} {t u:TS}
end
section
variable {P:Program} {w:World} {K:PySem.W.Frag} {mg:Str->Option Value} {base:Heap}
end
section
variable {K:PySem.W.Frag} {B:Bs} {sl:SL K} {md:Md} {α β S:Type} [Rp K α] [Rp K β] {te:TE}
end
section
variable {K:PySem.W.Frag} {B:Bs} {sl:SL K} {md:Md} {α β S:Type} [Rp K α] [Rp K β] {te:TE} {p:Addr} {ws:LI}
structure Fr (p:Addr) (F H F' H':Hp):Prop where
 ff:Same F F'
 hh:∀ b o,b ≠ p->H b = some o->H' b = some o
 nw:∀ b,F b = none->H b ≠ none->F' b = none
end
section
variable {K:PySem.W.Frag} {B:Bs} {sl:SL K} {md:Md} {α β S:Type} [Rp K α] [Rp K β] {te:TE} {p:Addr} {ws:LI} {n n':Bool}
end
section
variable {K:PySem.W.Frag} {B:Bs} {sl:SL K} {md:Md} {α β S:Type} [Rp K α] [Rp K β] {te t1 t2:TE} {p:Addr}
end
section
variable {K:PySem.W.Frag} {B:Bs} {sl:SL K} {F H:Hp} {O:Own} {σ:St}
end
structure Tri (α β γ:Type) where
 a:α
 b:β
 c:γ
section
variable {K:PySem.W.Frag} {B:Bs} {sl:SL K} {md:Md} {n:Bool} {α β γ S:Type} [Rp K α] [Rp K β] [Rp K γ] {te t1 t2 t3:TE}
instance:Rp K (Tri α β γ):=⟨λF v x=>∃ p u w z,v = .ref p /\ F p = some (.tup [u,w,z]) /\ rp K F u x.a /\ rp K F w x.b /\ rp K F z x.c,λs ⟨p,u,w,z,h1,h2,h3,h4,h5⟩=>⟨p,u,w,z,h1,s _ _ h2,Rp.mono s h3,Rp.mono s h4,Rp.mono s h5⟩⟩
instance:Nn K (Tri α β γ):=⟨λ⟨_,_,_,_,h,_⟩=>by rw [h]; intro e; cases e⟩
theorem zPy {m1:Option α} {m2:Option β} {m3:Option γ} (h1:Ex B sl md t1 m1) (h2:Ex B sl md t2 m2) (h3:Ex B sl md t3 m3):Ex B sl md (tTup (xK t1 (xK t2 (xK t3 tNil)))) (m1.bind λa=>m2.bind λb=>m3.bind λc=>some (Tri.mk a b c)):=λd hd F O H σ Q s kk=>by
 cases m1 with
 | none=>cases hd
 | some a =>
  cases m2 with
  | none=>cases hd
  | some b =>
   cases m3 with
   | none=>cases hd
   | some c =>
    cases (show some (Tri.mk a b c) = some d from hd)
    refine h1 a rfl F O H σ _ s λv F1 H1 g1 r1=>?_
    refine h2 b rfl F1 O H1 σ _ (s.grow g1) λw F2 H2 g2 r2=>?_
    refine h3 c rfl F2 O H2 σ _ ((s.grow g1).grow g2) λu F3 H3 g3 r3=>?_
    refine ⟨by show 3 <= sizeLine; decide,λp hp=>?_⟩
    have g4:=Grow.new g3.ok hp (.tup [v,w,u])
    exact kk _ _ _ (g1.trans (g2.trans (g3.trans g4))) ⟨p,v,w,u,rfl,zD4 g3.ok hp md,Rp.mono (xG (g2.trans (g3.trans g4)) md) r1,Rp.mono (xG (g3.trans g4) md) r2,Rp.mono (xG g4 md) r3⟩
theorem zNs (i j l:Nat) (hs:sl[i]? = some s) (ho:isOw s = false) (hs':∀ x:Slot K,(sl.set i x)[j]? = some s') (ho':isOw s' = false) (hs2:∀ x y:Slot K,((sl.set i x).set j y)[l]? = some s2) (ho2:isOw s2 = false) :
  Tg B sl n (gTup K 3 (zMv (zBc i) (zMv (zBc j) (zMv (zBc l) gNil)))) (λx:Tri α β γ=>((sl.set i (.fz n x.a)).set j (.fz n x.b)).set l (.fz n x.c)):=λv x F O H σ Q a r k=>by
 obtain ⟨p,w1,w2,w3,rfl,h1,h2,h3,h4⟩:=r
 refine ⟨p,[w1,w2,w3],rfl,.inl (.inl (zNr a.1 h1)),rfl,w1,[w2,w3],rfl,w2,[w3],rfl,w3,[],rfl,rfl,?_⟩
 exact k _ ⟨a.1,((a.2.put (s':=.fz n x.a) (λ_ _ _ z=>.fz h2 z) hs ho).put (s':=.fz n x.b) (λ_ _ _ z=>.fz h3 z) (hs' _) ho').put (λ_ _ _ z=>.fz h4 z) (hs2 _ _) ho2⟩
end
section
variable {K:PySem.W.Frag} {B:Bs} {sl:SL K} {md:Md} {te:TE}
end
section
variable {K:PySem.W.Frag} {B:Bs} {sl sl2:SL K} {md:Md} {te:TE} {t:TS} {β:Type} [Rp K β] {p:Addr}
end
section
variable {K:PySem.W.Frag} {B:Bs} {sl:SL K} {F H:Hp} {O:Own} {σ:St} {t u:TS} {al:Bool} {α β S A A1 A2:Type} [Rp K α] [Rp K β] {b:β}
end
end Ts
namespace L2
open PySem PySem.Spec PyProof.Rows
section
variable {X:Cx}
end
end L2
namespace Ts
open PySem L2
open PySem.SeqAt (EqAt RcAt RcNeAt)
section
variable {K:PySem.W.Frag} {B:Bs} {sl:SL K} {md:Md} {te t1 t2:TE} {α β γ δ:Type} [Rp K α] [Rp K β] [Rp K γ] [Rp K δ]
theorem zFq {n:Bool} {xs:List α} (i:Nat) (hs:sl[i]? = some (.ow n xs)) (hh:sl.all (λs=>!isHs s) = true):Sn B sl (zHm (tBM0 K "list" zKy (tVar i))) (λys=>sl.set i (.ow n ys)) (some xs.reverse):=λa ha G D σ H s k=>by
 cases ha
 obtain ⟨F,O,g,z⟩:=s
 obtain ⟨p,vs,h1,h2,h3,h4⟩:=z.chg hs hh
 obtain ⟨O',z'⟩:=h4 vs.reverse xs.reverse h3.rev
 exact ⟨_,h1,.inl ⟨rfl,vs,SqL.of h2⟩,p,vs,rfl,rfl,h2,k _ _ ⟨F,O',g,z'⟩⟩
theorem zS9 {L:α->SL K} (h:Ex B sl (mdb n) te m) (hg:Tg B sl n g L):Sn B sl (tAsg te g) L m:=λa ha G D σ H s k=>by
 obtain ⟨F,O,g0,z⟩:=s
 exact h a ha F O H σ _ z λv F' H' gr r=>hg v a F' O H' σ _ (z.grow gr) r λσ' z'=>k _ _ ⟨F',O,g0.trans gr.ff,z'⟩
theorem zG8 {pr:Tri α β γ->δ} (i:Int) (hp:∀ (R:Hp) (x:Tri α β γ) (u w z:V),rp K R u x.a->rp K R w x.b->rp K R z x.c->∃ y,L2.atI [u,w,z] i = some y /\ rp K R y (pr x)) (h1:Ex B sl md t1 m) (h2:Ex B sl .hp t2 (some i)):Ex B sl md (tOp (rIxT K) t1 t2) (m.bind λx=>some (pr x)):=λc hc F O H σ Q s k=>by
 cases m with
 | none=>cases hc
 | some x =>
  cases (show some (pr x) = some c from hc)
  refine h1 x rfl F O H σ _ s λv F' H' g r1=>?_
  refine h2 i rfl F' O H' σ _ (s.grow g) λw F2 H2 g2 r2=>?_
  cases r2
  obtain ⟨p,v1,v2,v3,rfl,z1,z2,z3,z4⟩:=r1
  have hle:Same (reg B F' H' md) H2:=(match md with
   | .nw=>dif_le.trans g.ok.fh
   | .fz=>g.ok.fh
   | .hp=>.refl _:Same (reg B F' H' md) H').trans g2.hh
  obtain ⟨y,e1,e2⟩:=hp _ x v1 v2 v3 z2 z3 z4
  exact ⟨p,[v1,v2,v3],i,y,rfl,rfl,.inl (.inl (hle _ _ z1)),e1,k y F2 H2 (g.trans g2) (Rp.mono (xG g2 md) e2)⟩
theorem zPz {m:Option (Tri α β γ)} (h1:Ex B sl md t1 m) (h2:Ex B sl .hp t2 (some (0:Int))):Ex B sl md (tOp (rIxT K) t1 t2) (m.bind λx=>some x.a):=zG8 0 (λ_ _ u _ _ h _ _=>⟨u,rfl,h⟩) h1 h2
theorem ex_tri1 {m:Option (Tri α β γ)} (h1:Ex B sl md t1 m) (h2:Ex B sl .hp t2 (some (1:Int))):Ex B sl md (tOp (rIxT K) t1 t2) (m.bind λx=>some x.b):=zG8 1 (λ_ _ _ u _ _ h _=>⟨u,rfl,h⟩) h1 h2
theorem ex_tri2 {m:Option (Tri α β γ)} (h1:Ex B sl md t1 m) (h2:Ex B sl .hp t2 (some (2:Int))):Ex B sl md (tOp (rIxT K) t1 t2) (m.bind λx=>some x.c):=zG8 2 (λ_ _ _ _ u _ _ h=>⟨u,rfl,h⟩) h1 h2
end
section
variable {K:PySem.W.Frag} {α β γ:Type} [Rp K α] [DecidableEq α] [Eqv K α] [Rp K β] [DecidableEq β] [Eqv K β] [Rp K γ] [DecidableEq γ] [Eqv K γ] {X:Cx} {pins:List (Addr × Obj)} {σ:St} {H:Hp} {s:Shared} {A:Around} {a b:Tri α β γ} {p p':Addr} {v1 v2 v3 w1 w2 w3:V}
end
section
variable {K:PySem.W.Frag} {B:Bs} {sl:SL K} {md:Md} {te:TE} {β S:Type} [Rp K β] {p:Addr} {ws:LI} {g:TG} {tb:TS}
end
section
variable {K:PySem.W.Frag} {B:Bs} {sl slE slW:SL K} {md:Md} {te:TE} {F F' H H' L L':Hp} {O:Own} {σ:St} {α β γ:Type} [Rp K α] [Rp K β] [Rp K γ]
inductive CalmL:SL K->Prop
 | nil:CalmL []
 | nu {a:SL K}:CalmL a->CalmL (.nu (LOpq.mk ()) :: a)
 | oth {s:Slot K} {a:SL K}:zEm s = false->CalmL a->CalmL (s :: a)
inductive NuE:SL K->SL K->SL K->Prop
 | nil:NuE [] [] []
 | nu {α:Type} [Rp K α] [IsL K α] {x:α} {a b c:SL K}:NuE a b c->NuE (.nu x :: a) (.fz true x :: b) (.nu (LOpq.mk ()) :: c)
 | oth {s:Slot K} {a b c:SL K}:zEm s = false->isOw s = false->NuE a b c->NuE (s :: a) (.un :: b) (s :: c)
end
end Ts
namespace L2
open PySem PySem.Spec PyProof.Rows
section
variable {X:Cx}
end
end L2
namespace Ts
open PySem L2
section
variable {K:PySem.W.Frag} {mg:Str->Option Value} {B:Bs} {sl:SL K} {md:Md} {te t1 t2:TE} {C:Addr} {α β γ S:Type} [Rp K α] [Rp K β] [Rp K γ] {u:TS} {al:Bool}
end
end Ts
namespace L2
open PySem PySem.Spec PyProof.Rows
section
variable {X:Cx}
end
end L2
namespace Ts
open PySem L2
section
variable {K:PySem.W.Frag} {B:Bs} {sl:SL K} {md:Md} {α β:Type} [Rp K α] [Rp K β] {te t1 t2:TE}
end
end Ts
namespace PySem
open Sem (wp)
structure IK (prog:Program) (w:World) (α:Type) [DecidableEq α] where
 is:Heap->α->Value->Prop
 hash:α->Int
 draws:α->Nat
 inj:∀ {h:Heap} {v:Value} {x y:α},is h x v->is h y v->x = y
 keeps:∀ {h h':Heap} {k:α} {v:Value} {d:Addr} {o:Obj} {es ep},is h k v->h.get? d = some o->o.data = .dict es ep->SameBut d h h'->is h' k v
 pyHash:∀ {A:Around} {E:Value->Shared->Prop} {s:Shared} {k:α} {v:Value} {Q:Int->Shared->Prop},A.units < cLine->is s.heap k v->Q (hash k) { s with toks:=s.toks + draws k }->wpAny (model prog w) A (PySem.pyHash v) Q E s
 eqBool:∀ {A:Around} {E:Value->Shared->Prop} {s:Shared} {x y:α} {u v:Value} {Q:Bool->Shared->Prop},A.units < cLine->is s.heap x u->is s.heap y v->Q (decide (x = y)) s->wpAny (model prog w) A (PySem.eqBool u v) Q E s
 quiet:∀ {A:Around} {E:Value->Shared->Prop} {s:Shared} {k:α} {v:Value} {Q:Bool->Shared->Prop},is s.heap k v->Q true s->wpAny (model prog w) A (eqIsQuiet 7 v) Q E s
section
variable {prog:Program} {w:World} {α β:Type} [DecidableEq α] [DecidableEq β]
def leafIK (knd:KeyKind prog w α):IK prog w α where
 is:=λ_ k v=>knd.is k v = true
 hash:=knd.hash
 draws:=λ_=>1
 inj:=λh1 h2=>knd.inj _ _ _ h1 h2
 keeps:=λh _ _ _=>h
 pyHash:=λ_ h q=>knd.pyHash h q
 eqBool:=λ_ h1 h2 q=>knd.eqBool h1 h2 q
 quiet:=λh q=>by rw [eqIsQuiet_byValue _ (knd.byValue _ _ h)]; exact wpAny_pure q
theorem quiet7 {knd:KeyKind prog w α} {A:Around} {E:Value->Shared->Prop} {s:Shared} {ks:List α} {a:Addr} {Q:Bool->Shared->Prop} (hk:IsTupleKey knd s.heap ks a) (h:Q true s):wpAny (model prog w) A (eqIsQuiet 7 (.ref a)) Q E s:=by
 have hT:=hk.typeIs
 obtain ⟨o,items,n,ho,_,hd,hi⟩:=hk
 unfold eqIsQuiet
 refine wpAny_bind (wpAny_specialOf hT F.slot_tuple_eq.lookup ?_); show wpAny _ _ (isInstance (.ref a) (.type "tuple") >>= _) _ _ s
 refine wpAny_bind (wpAny_isInstance hT isSubtype_tuple_tuple ?_); simp only [Bool.not_true,Bool.false_eq_true,if_false]
 refine wpAny_bind (wpAny_seqItems ho hd (wpAny_bind ?_)); show wpAny _ _ (forIn items _ _) _ _ s
 rw [<- forIn_toList]
 refine wpAny_forIn_list _ (λrest r s'=>r.1 = none /\ s' = s /\ ∀ v ∈ rest,carriedByValue v = true) _ (λv rest r s' q=>?_) (λr s' q=>?_) _ _ ⟨rfl,rfl,hi.byValue⟩
 ·obtain ⟨hr,rfl,hall⟩:=q
  rw [eqIsQuiet_byValue _ (hall v mem_cons_self)]
  refine wpAny_bind (wpAny_pure ?_)
  rw [if_neg (by decide)]
  exact wpAny_pure ⟨rfl,rfl,λu hu=>hall u (mem_cons_of_mem _ hu)⟩
 ·obtain ⟨r1,r2⟩:=r
  obtain ⟨hr,rfl,_⟩:=q
  have hr:r1 = none:=hr
  subst hr
  exact wpAny_pure h
def tupIK (knd:KeyKind prog w α):IK prog w (List α) where
 is:=λh k v=>∃ a,v = .ref a /\ IsTupleKey knd h k a
 hash:=tupleKeyHash knd
 draws:=λks=>ks.length + 1
 inj:=λ⟨a,e,h1⟩ ⟨b,e2,h2⟩=>by rw [e] at e2; cases e2; exact h1.inj h2
 keeps:=λ⟨a,e,h⟩ ho hd hs=>⟨a,e,h.keeps ho hd hs⟩
 pyHash:=λhu ⟨a,e,h⟩ q=>by rw [e]; exact wpAny_pyHash_tuple hu h q
 eqBool:=λhu ⟨a,e,h1⟩ ⟨b,e2,h2⟩ q=>by rw [e,e2]; exact wpAny_eqBool_tuple hu h1 h2 q
 quiet:=λ⟨a,e,h⟩ q=>by rw [e]; exact quiet7 h q
def IsPairKey (k1:IK prog w α) (k2:IK prog w β) (h:Heap) (x:α × β) (a:Addr):Prop:=∃ o u v n,h.get? a = some o /\ o.cls = .type "tuple" /\ o.data = .seq #[u,v] n /\ k1.is h x.1 u /\ k2.is h x.2 v
variable {k1:IK prog w α} {k2:IK prog w β}
theorem IsPairKey.ty {s:Shared} (h:IsPairKey k1 k2 s.heap x a):s.TypeIs (.ref a) "tuple":=let ⟨o,_,_,_,ho,hc,_⟩:=h; ⟨o,ho,hc⟩
theorem IsPairKey.inj (hx:IsPairKey k1 k2 h x a) (hy:IsPairKey k1 k2 h y a):x = y:=by
 obtain ⟨o,u,v,n,ho,_,hd,i1,i2⟩:=hx
 obtain ⟨o',u',v',n',ho',_,hd',j1,j2⟩:=hy
 cases ho.symm.trans ho'
 rw [hd] at hd'
 cases hd'
 exact Prod.ext (k1.inj i1 j1) (k2.inj i2 j2)
def zGo (k1:IK prog w α) (k2:IK prog w β) (x:α × β):Int:=reduceHash (Builtin.Tuple.tupleHashOf [k1.hash x.1,k2.hash x.2])
variable {A:Around} {E:Value->Shared->Prop} {s:Shared}
theorem zOn {Q:Int->Shared->Prop} (hu:A.units + 1 < cLine) (hk:IsPairKey k1 k2 s.heap x a) (h:Q (zGo k1 k2 x) { s with toks:=s.toks + (k1.draws x.1 + k2.draws x.2 + 1) }):wpAny (model prog w) A (pyHash (.ref a)) Q E s:=by
 have hT:=hk.ty
 obtain ⟨o,u,v,n,ho,_,hd,i1,i2⟩:=hk
 unfold pyHash
 first | unfold pyHashByItsType | skip
 first | refine wpAny_bind (wpAny_cRoomFor_or (.inr (Nat.lt_of_succ_lt hu)) ?_) | skip
 refine wpAny_bind (wpAny_specialOf hT F.slot_tuple_hash.lookup ?_); show wpAny _ _ (if (some (Value.builtin "tuple.__hash__") == some Value.none) = true then _ else _) Q E s
 rw [if_neg (by rw [beq_builtin_none]; exact Bool.false_ne_true)]
 refine wpAny_bind (wpAny_specialOf hT F.slot_tuple_hash.lookup ?_); show wpAny _ _ (callSpecialIfBoundUnlessNone? (.ref a) "__hash__" _ >>= _) Q E s
 refine wpAny_bind (wpAny_callSpecialIfBoundUnlessNone?_slot hT F.slot_tuple_hash (wpAny_call_entry F.slot_tuple_hash hT F.entry_tuple_hash ?_ (F.args_tuple_hash_1 _))); show wpAny _ _ (Builtin.Tuple.tupleItemsOf (.ref a) >>= _) _ _ s
 refine wpAny_bind (wpAny_tupleItemsOf ho hd (wpAny_bind ?_))
 rw [<- forIn_toList]
 show wpAny _ _ (forIn [u,v] _ _) _ _ s
 rw [forIn_cons]
 refine wpAny_bind (wpAny_bind (k1.pyHash (by exact hu) i1 ?_))
 refine wpAny_pure ?_
 show wpAny _ _ (forIn [v] (#[].push (k1.hash x.fst)) _) _ _ _
 rw [forIn_cons]
 refine wpAny_bind (wpAny_bind (k2.pyHash (by exact hu) i2 (wpAny_pure ?_)))
 show wpAny _ _ (forIn [] ((#[].push (k1.hash x.fst)).push (k2.hash x.snd)) _) _ _ _
 rw [forIn_nil]
 refine wpAny_pure ?_
 show wpAny _ _ (retInt (Builtin.Tuple.tupleHashOf [k1.hash x.fst,k2.hash x.snd])) _ _ _
 refine wpAny_ret_mkInt ?_
 have et:s.toks + k1.draws x.fst + k2.draws x.snd + 1 = s.toks + (k1.draws x.1 + k2.draws x.2 + 1):=by omega
 unfold zGo reduceHash at h
 show wpAny _ _ (if (decide (-(2:Int) ^ 63 <= Builtin.Tuple.tupleHashOf [k1.hash x.fst,k2.hash x.snd]) && decide (Builtin.Tuple.tupleHashOf [k1.hash x.fst,k2.hash x.snd] < 2 ^ 63)) = true then _ else _) Q E _
 split
 ·rename_i hr
  rw [if_pos hr] at h
  refine wpAny_pure ?_
  rw [et]
  exact h
 ·rename_i hr
  rw [if_neg hr] at h
  refine wpAny_bind (wpAny_rule (wpAny_pure ?_))
  rw [et]
  exact h
theorem pair_eq {Q:Bool->Shared->Prop} (hu:A.units + 1 < cLine) (hx:IsPairKey k1 k2 s.heap x a) (hy:IsPairKey k1 k2 s.heap y b) (h:Q (decide (x = y)) s):wpAny (model prog w) A (eqBool (.ref a) (.ref b)) Q E s:=by
 unfold eqBool
 try with_reducible refine wpAny_holding ?_
 show wpAny _ _ (if (Value.ref a == Value.ref b) = true then _ else _) Q E s
 by_cases hab:(Value.ref a == Value.ref b) = true
 ·rw [if_pos hab]
  have e:a = b:=by have:=eq_of_beq hab; injection this
  subst e
  obtain rfl:=hx.inj hy
  exact wpAny_bind (wpAny_rule (wpAny_pure (by rw [decide_eq_true rfl] at h; exact h)))
 ·rw [if_neg hab]
  have ta:=hx.ty
  have tb:=hy.ty
  obtain ⟨oa,u,v,na,hoa,_,hda,i1,i2⟩:=hx
  obtain ⟨ob,u',v',nb,hob,_,hdb,j1,j2⟩:=hy
  refine wpAny_bind (wpAny_richCompare_same_room (op:=.Eq) ta tb F.slot_tuple_eq (wpAny_call_entry F.slot_tuple_eq ta F.entry_tuple_eq ?_ (F.args_tuple_eq_2 _ _)) (Nat.lt_of_succ_lt hu))
  show wpAny _ _ (isInstance (.ref b) (.type "tuple") >>= _) _ _ s
  refine wpAny_bind (wpAny_isInstance tb isSubtype_tuple_tuple ?_)
  rw [if_neg (by decide)]
  refine wpAny_bind (wpAny_tupleItemsOf hoa hda (wpAny_bind (wpAny_tupleItemsOf hob hdb (wpAny_bind ?_))))
  show wpAny _ _ (forIn [(u,u'),(v,v')] _ _) _ _ s
  rw [forIn_cons]
  refine wpAny_bind (wpAny_bind (k1.eqBool (by exact hu) i1 j1 ?_))
  by_cases q1:x.1 = y.1
  ·rw [if_neg (by rw [decide_eq_true q1]; decide)]
   refine wpAny_pure ?_
   show wpAny _ _ (forIn [(v,v')] _ _) _ _ s
   rw [forIn_cons]
   refine wpAny_bind (wpAny_bind (k2.eqBool (by exact hu) i2 j2 ?_))
   by_cases q2:x.2 = y.2
   ·rw [if_neg (by rw [decide_eq_true q2]; decide)]
    refine wpAny_pure ?_
    show wpAny _ _ (forIn [] _ _) _ _ s
    rw [forIn_nil]
    have e:decide (x = y) = true:=decide_eq_true (Prod.ext q1 q2)
    rw [e] at h
    exact wpAny_pure (wpAny_pure ⟨_,rfl,(λe=>nomatch e),wpAny_truthy_bool h⟩)
   ·rw [if_pos (by rw [decide_eq_false q2]; decide)]
    have e:decide (x = y) = false:=decide_eq_false λz=>q2 (by rw [z])
    rw [e] at h
    exact wpAny_bind (wpAny_pure (wpAny_pure (wpAny_pure (wpAny_pure ⟨_,rfl,(λe=>nomatch e),wpAny_truthy_bool h⟩))))
  ·rw [if_pos (by rw [decide_eq_false q1]; decide)]
   have e:decide (x = y) = false:=decide_eq_false λz=>q1 (by rw [z])
   rw [e] at h
   exact wpAny_bind (wpAny_pure (wpAny_pure (wpAny_pure (wpAny_pure ⟨_,rfl,(λe=>nomatch e),wpAny_truthy_bool h⟩))))
theorem zMe {Q:Bool->Shared->Prop} (hk:IsPairKey k1 k2 s.heap x a) (h:Q true s):wpAny (model prog w) A (eqIsQuiet 8 (.ref a)) Q E s:=by
 have hT:=hk.ty
 obtain ⟨o,u,v,n,ho,_,hd,i1,i2⟩:=hk
 unfold eqIsQuiet
 refine wpAny_bind (wpAny_specialOf hT F.slot_tuple_eq.lookup ?_); show wpAny _ _ (isInstance (.ref a) (.type "tuple") >>= _) _ _ s
 refine wpAny_bind (wpAny_isInstance hT isSubtype_tuple_tuple ?_); simp only [Bool.not_true,Bool.false_eq_true,if_false]
 refine wpAny_bind (wpAny_seqItems ho hd (wpAny_bind ?_))
 show wpAny _ _ (forIn (#[u,v]:Array Value) _ _) _ _ s
 rw [<- forIn_toList]
 show wpAny _ _ (forIn [u,v] _ _) _ _ s
 rw [forIn_cons]
 refine wpAny_bind (wpAny_bind (k1.quiet i1 ?_))
 rw [if_neg (by decide)]
 refine wpAny_pure ?_
 show wpAny _ _ (forIn [v] _ _) _ _ s
 rw [forIn_cons]
 refine wpAny_bind (wpAny_bind (k2.quiet i2 ?_))
 rw [if_neg (by decide)]
 refine wpAny_pure ?_
 show wpAny _ _ (forIn [] _ _) _ _ s
 rw [forIn_nil]
 exact wpAny_pure (wpAny_pure h)
def zRx (k1:IK prog w α) (k2:IK prog w β):HeapKind prog w (α × β) where
 is:=IsPairKey k1 k2
 hash:=zGo k1 k2
 draws:=λx=>k1.draws x.1 + k2.draws x.2 + 1
 room:=λA=>A.units + 1 < cLine
 inj:=λhx hy=>hx.inj hy
 keeps:=λ{h h' k a d o es ep} ⟨o',u,v,n,ho',hc,hd',i1,i2⟩ ho hd hs=>by
  have hne:a ≠ d:=by
   rintro rfl
   cases ho'.symm.trans ho
   rw [hd] at hd'
   exact nomatch hd'
  exact ⟨o',u,v,n,(hs.2 a hne).trans ho',hc,hd',k1.keeps i1 ho hd hs,k2.keeps i2 ho hd hs⟩
 pyHash:=λhu hk h=>zOn hu hk h
 eqBool:=λhu hx hy h=>pair_eq hu hx hy h
 quiet:=λhk h=>zMe hk h
end
section
variable {prog:Program} {w:World} {K:Type} [DecidableEq K] {knd:HeapKind prog w K} {A:Around} {E:Value->Shared->Prop} {s:Shared}
theorem zJf {Q:Value->Shared->Prop} (hu:knd.room A) (hkey:knd.is s.heap k a) (hm:s.heap.DictOfH knd d xs) (hold:∀ p,atKey xs k = some p->Q p.2 { s with toks:=s.toks + knd.draws k })
  (hnew:atKey xs k = none->∀ h',h'.DictOfH knd d (xs ++ [(k,a,v)])->SameBut d s.heap h'->Q v { s with heap:=h',toks:=s.toks + knd.draws k }) (hsz:xs.length <= sizeLine):wpAny (model prog w) A (dictSetDefault d (.ref a) v) Q E s:=by
 obtain ⟨o,es,ep,ho,hc,hd,he,his,hn⟩:=hm
 unfold dictSetDefault
 try with_reducible refine wpAny_holding ?_
 refine wpAny_bind (knd.pyHash hu hkey (wpAny_bind (wpAny_dictFind_heap (s:={ s with toks:=s.toks + knd.draws k }) hu hkey ho hd he his hn (λhno=>?_) (λj p hj=>?_))))
 ·have hnot:k ∉ xs.map (·.1):=not_mem_keys_of_get hno
  have no:=atKey_none_of_get hno
  refine wpAny_bind (wpAny_rule (wpAny_bind (wpAny_updateDictKeys (hz:=by have e:=size_of_entries he; omega) (s:={ s with toks:=s.toks + knd.draws k }) ho hd (wpAny_pure (hnew no _ ⟨_,_,ep + 1,get?_update_self _ ho (Obj.isFreed_of_dict (Obj.data_mapDictKeys hd _)),hc.mapDictKeys _,Obj.data_mapDictKeys hd _,?_,λx hx=>?_,?_⟩ (SameBut.update ..))))))
  ·simp [he,entryOfKey]
  ·rcases mem_append.mp hx with hx | hx
   ·exact knd.keeps (his x hx) ho hd (SameBut.update ..)
   ·rw [mem_singleton.mp hx]
    exact knd.keeps hkey ho hd (SameBut.update ..)
  ·rw [map_append,nodup_append]
   refine ⟨hn,by simp,λx hx y hy e=>hnot ?_⟩
   rw [map_cons,map_nil,mem_singleton] at hy
   have hy:y = k:=hy
   rw [<- hy,<- e]
   exact hx
 ·refine wpAny_bind (wpAny_dictEntries (s:={ s with toks:=s.toks + knd.draws k }) ho hd ?_)
  rw [entry_at he j,hj]
  exact wpAny_bind (wpAny_rule (wpAny_pure (hold p (atKey_of_get hn hj))))
theorem zGw (knd:HeapKind prog w K) (d a:Addr) (hd:(d == sysModules) = false) (v:Value) :
  MeetsIn prog w (Builtin.«dict.setdefault» ⟨[.ref d,.ref a,v],[]⟩) (λA R s=>knd.room A.in1 /\ ∃ k xs,knd.is s.heap k a /\ s.heap.DictOfH knd d xs /\ xs.length <= sizeLine /\ (∀ p,atKey xs k = some p->R (.ok (.ret p.2)) { s with toks:=s.toks + knd.draws k }) /\
   (atKey xs k = none->∀ h',h'.DictOfH knd d (xs ++ [(k,a,v)])->SameBut d s.heap h'->R (.ok (.ret v)) { s with heap:=h',toks:=s.toks + knd.draws k })) :=
 .of_wp λA R s ⟨hu,k,xs,hkey,hm,hz,h1,h2⟩=>by
  unfold Builtin.«dict.setdefault»
  refine wpAny_bind ?_
  unfold Builtin.Dict.keyAndDefault
  refine wpAny_bind (wpAny_notOrdered_dict hm.typeIs ?_); show wpAny _ _ (pure (d,Value.ref a,some v)) _ _ s
  refine wpAny_pure ?_
  show wpAny _ _ (if (d == sysModules) = true then _ else (dictSetDefault d (.ref a) v >>= _)) _ _ s
  rw [if_neg (by rw [hd]; decide)]
  exact wpAny_bind (zJf hu hkey hm (λp hp=>wpAny_pure ⟨_,rfl,h1 p hp⟩) (λhn h' hm' hs'=>wpAny_pure ⟨_,rfl,h2 hn h' hm' hs'⟩) hz)
theorem zR6 {Q:Value->Shared->Prop} (hd:(d == sysModules) = false) (hm:s.heap.DictOfH knd d xs) (hfit:(xs.length:Int) < 2 ^ 63) (h:∀ t t',Q (.int xs.length t) { s with toks:=t' }):wpAny (model prog w) A (call (.builtin "len") [.ref d]) Q E s:=by
 have ty:=hm.typeIs
 obtain ⟨o,es,ep,ho,hc,hdat,he,_⟩:=hm
 have ez:=size_of_entries he
 refine Calls.call_function_entry kind_len plain_len entry_len (args_len1 _) ?_
 unfold Builtin.«len»
 have mt:MeetsIn prog w (Builtin.«dict.__len__» ⟨[.ref d],[]⟩) (λ_ R s'=>s' = s /\ R (.ok (.ret (.int xs.length s.toks))) { s with toks:=s.toks + 1 }):=.of_wp λA R s' q=>by
  obtain ⟨rfl,q⟩:=q
  show wpAny _ _ (dictSize d >>= _) _ _ _
  unfold dictSize
  refine wpAny_bind (wpAny_bind (wpAny_dictEntries ho hdat (wpAny_pure ?_)))
  show wpAny _ _ (Builtin.Dict.pendingCount d >>= _) _ _ _
  refine wpAny_bind (wpAny_pendingCount_other hd (wpAny_ret_mkInt ?_))
  rw [Nat.add_zero,ez]; exact q
 refine wpAny_bind (m:=oneArg "len" _) (wpAny_pure ?_)
 refine wpAny_bind (m:=callSpecial? (.ref d) (Str.ofString "__len__")) (wpAny_callSpecial?_slot (name:=Str.ofString "__len__") ty F.slot_dict_len (call_meetsIn F.slot_dict_len ty F.entry_dict_len (F.args_dict_len_1 _) mt ⟨rfl,?_⟩))
 show wpAny _ _ _ _ _ { s with toks:=s.toks + 1 }
 refine wpAny_bind (wpAny_holding (wpAny_pure (wpAny_bind (wpAny_letGo ?_))))
 show wpAny _ _ (if ((xs.length:Nat):Int) < 0 then _ else _) _ _ _
 rw [if_neg (by omega)]
 show wpAny _ _ (if ((xs.length:Nat):Int) ≥ 2 ^ 63 then _ else _) _ _ _
 rw [if_neg (by omega)]
 exact wpAny_bind (wpAny_mkInt (wpAny_pure ⟨_,rfl,h _ _⟩))
end
end PySem
namespace L2
open PySem PySem.Spec PyProof.Rows
structure AK (α:Type) [DecidableEq α] where
 at_:Hp->α->V->Prop
 ik:∀ (P:Program) (w:World),IK P w α
 ok:∀ {P:Program} {w:World} {H:Hp} {h:Heap} {x:α} {v:V} {u:Value},HOk P w H h->at_ H x v->RelV v u->(ik P w).is h x u
 mono:∀ {H H':Hp} {x:α} {v:V},at_ H x v->(∀ b xs,H b = some (.tup xs)->H' b = some (.tup xs))->at_ H' x v
def zUc:AK Key where
 at_:=λ_ k v=>v = kV k
 ik:=λP w=>leafIK (xZ P w)
 ok:=λ_ e r=>by subst e; exact zPi r
 mono:=λe _=>e
def zNa:AK (List Key) where
 at_:=λH ks v=>∃ a,v = .ref a /\ H a = some (.tup (ks.map kV))
 ik:=λP w=>tupIK (xZ P w)
 ok:=λok ⟨a,e,h⟩ r=>by
  subst e
  exact ⟨a,r,zIg ok h⟩
 mono:=λ⟨a,e,h⟩ k=>⟨a,e,k _ _ h⟩
section
variable {α β:Type} [DecidableEq α] [DecidableEq β]
def NAt (a1:AK α) (a2:AK β) (H:Hp) (x:α × β) (p:Addr):Prop:=∃ v1 v2,H p = some (.tup [v1,v2]) /\ a1.at_ H x.1 v1 /\ a2.at_ H x.2 v2
theorem NAt.mono {a1:AK α} {a2:AK β} {H H':Hp} {x:α × β} {p:Addr} (h:NAt a1 a2 H x p) (k:∀ b xs,H b = some (.tup xs)->H' b = some (.tup xs)):NAt a1 a2 H' x p:=by
 obtain ⟨v1,v2,e,h1,h2⟩:=h
 exact ⟨v1,v2,k _ _ e,a1.mono h1 k,a2.mono h2 k⟩
abbrev nKd (P:Program) (w:World) (a1:AK α) (a2:AK β):HeapKind P w (α × β):=zRx (a1.ik P w) (a2.ik P w)
theorem NAt.is {P:Program} {w:World} {a1:AK α} {a2:AK β} {H:Hp} {h:Heap} {x:α × β} {p:Addr} (ok:HOk P w H h) (n:NAt a1 a2 H x p):(nKd P w a1 a2).is h x p:=by
 obtain ⟨v1,v2,e,h1,h2⟩:=n
 obtain ⟨_,its,r,o,e1,e2,n,e3⟩:=(show ObjOk P w H h p (.tup [v1,v2]) from ok p _ e)
 cases r with
 | cons r1 r=>cases r with
  | cons r2 r =>
   cases r
   exact ⟨o,_,_,n,e1,e2,e3,a1.ok ok h1 r1,a2.ok ok h2 r2⟩
abbrev NKV (α β:Type):=List ((α × β) × Addr × Int)
def KVn:NKV α β->List ((α × β) × Addr × Value)->Prop:=Paired λp q=>p.1 = q.1 /\ p.2.1 = q.2.1 /\ ∃ t,q.2.2 = .int p.2.2 t
def dnO (P:Program) (w:World) (a1:AK α) (a2:AK β) (d:Addr) (kvs:NKV α β):HO:=.ext λh=>(d == sysModules) = false /\ kvs.length <= 9000 /\ ∃ xs o es ep,KVn kvs xs /\ h.get? d = some o /\ o.ExactDict /\ o.data = .dict es ep /\ es.toList = xs.map (entryOfKey (nKd P w a1 a2)) /\ (xs.map (·.1)).Nodup
def nVal (kvs:NKV α β) (x:α × β):Option Int:=(kvs.find? λp=>decide (p.1 = x)).map (·.2.2)
theorem zPe (h:KVn kvs xs):kvs.length = xs.length:=Paired.length h
theorem zPf (h:KVn kvs xs) (x:α × β):(nVal kvs x = none /\ atKey xs x = none) \/ ∃ i p t,nVal kvs x = some i /\ atKey xs x = some (p,.int i t):=by
 unfold nVal atKey
 induction h with
 | nil=>exact .inl ⟨rfl,rfl⟩
 | @cons p q ps qs r _ ih =>
  obtain ⟨e1,e2,t,e3⟩:=r
  by_cases z:p.1 = x
  ·refine .inr ⟨p.2.2,q.2.1,t,?_,?_⟩
   ·simp [find?_cons,z]
   ·have z2:q.1 = x:=e1 ▸ z
    have e4:q.2 = (q.2.1,Value.int p.2.2 t):=Prod.ext rfl e3
    simp [find?_cons,z2]
    exact e4
  ·have z2:¬ q.1 = x:=λy=>z (e1.trans y)
   simp only [find?_cons,decide_eq_false z,decide_eq_false z2]
   exact ih
theorem kvn_mem (h:KVn kvs xs) (hx:x ∈ xs):∃ i,(x.1,x.2.1,i) ∈ kvs:=by
 induction h with
 | nil=>cases hx
 | @cons p q ps qs r _ ih =>
  obtain ⟨e1,e2,t,e3⟩:=r
  rcases mem_cons.mp hx with e | hx
  ·exact ⟨p.2.2,by rw [e,<- e1,<- e2]; exact mem_cons_self⟩
  ·obtain ⟨i,hi⟩:=ih hx
   exact ⟨i,mem_cons_of_mem _ hi⟩
theorem kvn_app (h:KVn kvs xs) (x:α × β) (p:Addr) (i:Int) (t:Tok):KVn (kvs ++ [(x,p,i)]) (xs ++ [(x,p,.int i t)]):=by
 induction h with
 | nil=>exact .cons ⟨rfl,rfl,t,rfl⟩ .nil
 | cons r _ ih=>exact .cons r ih
variable {X:Cx} {pins:List (Addr × Obj)} {σ:St} {H:Hp} {s:Shared} {a1:AK α} {a2:AK β} {d:Addr} {kvs:NKV α β}
theorem zSo (I:Inv X pins σ H s) (e:H d = some (dnO X.prog X.w a1 a2 d kvs)) (hk:∀ p ∈ kvs,NAt a1 a2 H p.1 p.2.1):(d == sysModules) = false /\ kvs.length <= 9000 /\ ∃ xs,KVn kvs xs /\ s.heap.DictOfH (nKd X.prog X.w a1 a2) d xs:=by
 obtain ⟨⟨h1,h2,xs,o,es,ep,r,e1,e2,e3,e4,e5⟩,_⟩:=I.hok d _ e
 refine ⟨h1,h2,xs,r,o,es,ep,e1,e2,e3,e4,λx hx=>?_,e5⟩
 obtain ⟨i,hi⟩:=kvn_mem r hx
 exact (hk _ hi).is I.hok
def tDNewN (P:Program) (w:World) (a1:AK α) (a2:AK β):TE:=λ_ H Q=>∀ p,H p = none->Q (.ref p) (upd H p (dnO P w a1 a2 p []))
theorem zQa {h1 h2:Heap} (p:(d == sysModules) = false /\ kvs.length <= 9000 /\ ∃ xs o es ep,KVn kvs xs /\ h1.get? d = some o /\ o.ExactDict /\ o.data = .dict es ep /\ es.toList = xs.map (entryOfKey (nKd P w a1 a2)) /\ (xs.map (·.1)).Nodup) (k:∀ o,h1.get? d = some o->h2.get? d = some o) :
  (d == sysModules) = false /\ kvs.length <= 9000 /\ ∃ xs o es ep,KVn kvs xs /\ h2.get? d = some o /\ o.ExactDict /\ o.data = .dict es ep /\ es.toList = xs.map (entryOfKey (nKd P w a1 a2)) /\ (xs.map (·.1)).Nodup:=by
 obtain ⟨z1,z2,xs,o,es,ep,r,e1,q⟩:=p
 exact ⟨z1,z2,xs,o,es,ep,r,k _ e1,q⟩
theorem zRt:PE X (.Dict [] [] pos) (tDNewN X.prog X.w a1 a2):=λpins s σ H Q I h=>by
 have hd:=(zLq (P:=X.prog) (w:=X.w) (H:=H) s.heap I.big).2.1
 refine wpAny_Dict_empty ⟨.ref s.heap.objs.size,_,I.laid (a:=s.heap.objs.size) (o:=dnO X.prog X.w a1 a2 s.heap.objs.size []) (t':=s.toks) (λ_ _ q=>get?_push_of_some _ q) (Nat.le_refl _) ⟨?_,?_,λh1 h2=>zQa⟩,rfl,h _ (I.hok.fresh (Nat.le_refl _))⟩
 ·exact ⟨hd,Nat.zero_le _,[],_,#[],0,.nil,get?_push_size _ rfl,⟨rfl,rfl,rfl⟩,rfl,rfl,nodup_nil⟩
 ·exact ⟨_,get?_push_size _ rfl⟩
def rLenN (P:Program) (w:World) (a1:AK α) (a2:AK β):List V->Hp->VK->Prop:=λxs H Q=>∃ d kvs,xs = [.ref d] /\ H d = some (dnO P w a1 a2 d kvs) /\ (∀ p ∈ kvs,NAt a1 a2 H p.1 p.2.1) /\ Q (.int (kvs.length:Int)) H
theorem zQl:zAx X (.builtin "len") (rLenN X.prog X.w a1 a2):=by
 intro pins s σ H xs us Q I r h
 obtain ⟨d,kvs,rfl,e,hk,q⟩:=h
 cases r with
 | cons r1 r =>
  cases r
  rename_i u
  obtain rfl:u = .ref d:=r1
  obtain ⟨h1,h2,xs,rel,dd⟩:=zSo I e hk
  have el:=zPe rel
  refine zR6 h1 dd (by omega) λt t'=>⟨.int (kvs.length:Int),H,I.tok t',⟨t,by rw [el]⟩,q⟩
def zS6 (P:Program) (w:World) (a1:AK α) (a2:AK β) (td tk:TE):TE:=λσ H Q=>td σ H λx H1=>tk σ H1 λy H2=>∃ d kvs p k i,x = .ref d /\ y = .ref p /\ H2 d = some (dnO P w a1 a2 d kvs) /\ (∀ p ∈ kvs,NAt a1 a2 H2 p.1 p.2.1) /\ NAt a1 a2 H2 k p /\ nVal kvs k = some i /\ Q (.int i) H2
theorem zRu (hu:X.A.units + 2 < cLine) (ho:PE X o td) (hi:PE X i ty) (hs:NoSl i):PE X (.Subscript o i pos) (zS6 X.prog X.w a1 a2 td ty):=by
 intro pins s σ H Q I h
 refine zNx PySem.F.slot_dict_getitem.lookup hs (thn (ho pins s σ H _ I h) λu s1 ⟨x,H1,I1,rx,q1⟩=>thn (hi pins s1 σ H1 _ I1 q1) λiv s2 ⟨y,H2,I2,ry,d,kvs,p,k,z,ex,ey,e,hk,hn,hv,q2⟩=>?_)
 subst ex ey
 obtain rfl:u = Value.ref d:=rx
 obtain rfl:iv = Value.ref p:=ry
 obtain ⟨h1,h2,xs,rel,dd⟩:=zSo I2 e hk
 rcases zPf rel k with ⟨n1,_⟩ | ⟨z',p',t,n1,n2⟩
 ·rw [n1] at hv; cases hv
 ·rw [n1] at hv
  cases hv
  exact ⟨dd.typeIs,wpAny_getItem_heap (knd:=nKd X.prog X.w a1 a2) (show X.A.in1.units + 1 < cLine from hu) (hn.is I2.hok) dd n2 ⟨.int z,H2,I2.tok _,⟨t,rfl⟩,q2⟩⟩
def tSetdN (P:Program) (w:World) (a1:AK α) (a2:AK β) (td tk tv:TE):TE:=λσ H Q=>td σ H λx H1=>∃ d kvs,x = .ref d /\ H1 d = some (dnO P w a1 a2 d kvs) /\ (∀ p ∈ kvs,NAt a1 a2 H1 p.1 p.2.1) /\ tk σ H1 λy H2=>tv σ H2 λz H3=>∃ kvs p k i,y = .ref p /\ z = .int i /\ H3 d = some (dnO P w a1 a2 d kvs) /\ (∀ p ∈ kvs,NAt a1 a2 H3 p.1 p.2.1) /\ NAt a1 a2 H3 k p /\
 (∀ j,nVal kvs k = some j->Q (.int j) H3) /\ (nVal kvs k = none->kvs.length < 9000 /\ Q (.int i) (upd H3 d (dnO P w a1 a2 d (kvs ++ [(k,p,i)]))))
theorem zRr (hu:X.A.units + 2 < cLine) (ho:PE X o td) (he:PE X e ty) (hf:PE X f tx) (m:M2 X o "setdefault" apos e f cpos):PE X (.Call (.Attribute o "setdefault" apos) [e,f] [] cpos) (tSetdN X.prog X.w a1 a2 td ty tx):=by
 intro pins s σ H Q I h
 refine wpAny_Call_method m.base m.few m.line PySem.F.plainAttrs_dict PySem.F.slot_dict_setdefault PySem.F.type_dict_setdefault (thn (ho pins s σ H _ I h) λu s1 ⟨x,H1,I1,rx,d,kvs0,ex,e0,hk0,q1⟩=>?_)
 subst ex
 obtain rfl:u = Value.ref d:=rx
 obtain ⟨_,_,xs0,_,dd0⟩:=zSo I1 e0 hk0
 refine ⟨dd0.typeIs,λb q=>?_,?_⟩
 ·cases q
  obtain ⟨ob,_,_,g1,g2,_⟩:=dd0
  exact ⟨ob,g1,g2.2.1⟩
 rw [m.trees]
 refine Calls.callWith_builtin rfl (Calls.evalArgs_plain (Calls.spliced_cons (thn (he pins s1 σ H1 _ I1 q1) λiv s2 ⟨y,H2,I2,ry,q2⟩ =>
  Calls.spliced_cons (thn (hf pins s2 σ H2 _ I2 q2) λfv s3 ⟨z,H3,I3,rz,kvs,p,k,i,ey,ez,e3,hk,hn,q3,q4⟩=>Calls.spliced_nil ?_))))
 subst ey ez
 obtain rfl:iv = Value.ref p:=ry
 obtain ⟨t,rfl⟩:=rz
 obtain ⟨h1,h2,xs,rel,dd⟩:=zSo I3 e3 hk
 have el:=zPe rel
 refine call_meetsIn PySem.F.slot_dict_setdefault dd.typeIs PySem.F.entry_dict_setdefault (PySem.F.args_dict_setdefault_3 _ _ _) (zGw (nKd X.prog X.w a1 a2) d p h1 (.int i t)) ⟨show X.A.in1.units + 1 < cLine from hu,k,xs,hn.is I3.hok,dd,Nat.le_trans (show xs.length <= 9000 by omega) (by decide),λpq hp=>?_,λno h' dd' hs=>?_⟩
 ·rcases zPf rel k with ⟨_,n2⟩ | ⟨j,p',t',n1,n2⟩
  ·rw [n2] at hp; cases hp
  ·rw [n2] at hp
   cases hp
   exact ⟨.int j,H3,I3.tok _,⟨t',rfl⟩,q3 j n1⟩
 ·rcases zPf rel k with ⟨n1,_⟩ | ⟨j,p',t',n1,n2⟩
  ·obtain ⟨l9,q5⟩:=q4 n1
   obtain ⟨o',es',ep',g1,g2,g3,g4,_,g6⟩:=dd'
   refine ⟨.int i,_,zKf (ob:=dnO X.prog X.w a1 a2 d (kvs ++ [(k,p,i)])) I3 (by rw [e3]; exact True.intro) hs ⟨o',g1⟩ ⟨?_,⟨o',g1⟩,λh1 h2=>zQa⟩,⟨t,rfl⟩,q5⟩
   exact ⟨h1,by rw [length_append,length_singleton]; omega,_,o',es',ep',kvn_app rel k p i t,g1,g2,g3,g4,g6⟩
  ·rw [n2] at no; cases no
end
end L2
namespace Ts
open PySem PySem.Spec L2 PyProof.Rows
def sleb (a b:Str):Bool:=!ltCps b.cps.toList a.cps.toList
theorem zDr:sleb a b = true ↔ ¬ b.cps.toList < a.cps.toList:=by
 unfold sleb
 rw [ltCps_eq]
 simp
theorem zN3 (h1:sleb a b = true) (h2:sleb b c = true):sleb a c = true:=by
 rw [zDr] at *
 exact not_lt.mpr (List.le_trans (not_lt.mp h1) (not_lt.mp h2))
theorem zRe (a b:Str):(sleb a b || sleb b a) = true:=by
 rw [Bool.or_eq_true,zDr,zDr]
 rcases List.le_total a.cps.toList b.cps.toList with h | h
 ·exact .inl (not_lt.mpr h)
 ·exact .inr (not_lt.mpr h)
theorem sleb_anti (h1:sleb a b = true) (h2:sleb b a = true):a = b:=by
 rw [zDr] at *
 have e:=List.le_antisymm (not_lt.mp h1) (not_lt.mp h2)
 cases a
 cases b
 exact congrArg Str.mk (Array.toList_inj.mp e)
def ssort (l:List Str):List Str:=l.mergeSort sleb
def zHo (l:List Str):Option (List Str):=if l.length < 64 then some (ssort l) else none
theorem ssort_perm (l:List Str):(ssort l).Perm l:=List.mergeSort_perm l sleb
theorem ssort_pw (l:List Str):(ssort l).Pairwise λa b=>sleb a b = true:=List.pairwise_mergeSort (le:=sleb) (λ_ _ _ h1 h2=>zN3 h1 h2) zRe l
theorem perm_uniq {α:Type} {r:α->α->Prop} (anti:∀ a b,r a b->r b a->a = b):∀ {xs ys:List α},xs.Perm ys->xs.Pairwise r->ys.Pairwise r->xs = ys
 | [],ys,h,_,_=>by rw [List.nil_perm.mp h]
 | x :: xs,[],h,_,_=>by cases List.perm_nil.mp h
 | x :: xs,y :: ys,h,h1,h2=>by
  have hx:x ∈ y :: ys:=h.subset mem_cons_self
  have hy:y ∈ x :: xs:=h.symm.subset mem_cons_self
  have e:x = y:=by
   rcases mem_cons.mp hx with q | q
   ·exact q
   rcases mem_cons.mp hy with z | z
   ·exact z.symm
   exact anti _ _ (rel_of_pairwise_cons h1 z) (rel_of_pairwise_cons h2 q)
  subst e
  rw [perm_uniq anti (List.perm_cons x |>.mp h) (pairwise_cons.mp h1).2 (pairwise_cons.mp h2).2]
theorem sortedS_pw:∀ {l:List Str},sortedS l = true->l.Pairwise λa b=>sleb a b = true
 | [],_=>.nil
 | x :: r,h=>by
  have go:∀ (p:Str) (l:List Str),risingS p l = true->(p :: l).Pairwise λa b=>sleb a b = true:=by
   intro p l
   induction l generalizing p with
   | nil=>intro _; exact List.pairwise_singleton _ _
   | cons y t ih =>
    intro q
    have q:(!ltCps y.cps.toList p.cps.toList && risingS y t) = true:=q
    rw [Bool.and_eq_true] at q
    have i:=ih y q.2
    refine pairwise_cons.mpr ⟨λz hz=>?_,i⟩
    rcases mem_cons.mp hz with e | hz
    ·rw [e]; exact q.1
    ·exact zN3 q.1 (rel_of_pairwise_cons i hz)
  exact go x r h
theorem strs_of {ss:List Str} (r:Vals (ss.map V.str) its):StrsAre its ss:=by
 induction ss generalizing its with
 | nil=>cases r; exact .nil
 | cons x t ih =>
  cases r with
  | cons r1 r =>
   obtain ⟨k,rfl⟩:=r1
   exact .cons x k (ih r)
theorem vals_of_strs (h:StrsAre vs ss):Vals (ss.map V.str) vs:=by
 induction h with
 | nil=>exact .nil
 | cons x t _ ih=>exact .cons ⟨t,rfl⟩ ih
section
variable {X:Cx} {K:PySem.W.Frag} {B:Bs} {sl:SL K} {md:Md} {t:TE}
def zTf (K:PySem.W.Frag):List V->Hp->VK->Prop:=λxs H Q=>∃ (p:Addr) (ss:List Str),xs = [.ref p] /\ SqL K H p (ss.map V.str) /\ ss.length < 64 /\ ∀ l:Addr,H l = none->Q (.ref l) (upd H l (.lst ((ssort ss).map V.str)))
theorem zM6 (K:PySem.W.Frag) (hK:X.K = K:=by rfl):zAx X (.builtin "sorted") (zTf K):=by
 subst hK
 intro pins s σ H xs us Q I r h
 obtain ⟨p,ss,rfl,hq,h64,q⟩:=h
 obtain ⟨u,rfl,rx⟩:=zFe r
 cases rx
 obtain ⟨its,r',pl,hz⟩:=I.list hq
 have hl:=r'.length
 rw [length_map] at hl
 refine sorted_strs pl.isList (strs_of r') (by omega) λout ss' a1 a2 a3=>?_
 obtain ⟨e,he⟩:=sortedAll_at s.heap its out
 have fr:H (s.heap.objs.size + 1) = none:=I.hok.fresh (Nat.le_succ _)
 have eu:ss' = ssort ss:=perm_uniq (r:=λa b=>sleb a b = true) (λ_ _=>sleb_anti) (a2.trans (ssort_perm ss).symm) (sortedS_pw a3) (ssort_pw ss)
 rw [eu] at a1
 refine ⟨.ref (s.heap.objs.size + 1),_,I.laid (t':=s.toks) (o:=.lst ((ssort ss).map V.str)) (λb ob w=>sortedAll_old w) (Nat.le_succ _) ⟨?_,out.toList,e,vals_of_strs a1,?_⟩,rfl,q _ fr⟩
 ·rw [length_map,(ssort_perm ss).length_eq]
  exact Nat.le_of_lt (Nat.lt_trans h64 (by decide))
 ·rw [toArray_toList]
  exact he
theorem zSk (h:Ex B sl .hp t m):Eo B sl md (tCB (zTf K) (xK t tNil)) (m.bind zHo):=λc hc F O H σ Q s k=>by
 cases m with
 | none=>cases hc
 | some ss =>
  have hc:zHo ss = some c:=hc
  unfold zHo at hc
  split at hc
  case isFalse=>cases hc
  rename_i hl
  cases hc
  refine h ss rfl F O H σ _ s λv F' H' g r1=>?_
  obtain ⟨p,vs,rfl,z1,z2⟩:=r1
  have z3:vs = ss.map V.str:=A2.eq_map z2
  subst z3
  exact ⟨p,ss,rfl,SqL.of z1,hl,λl hn=>k l _ F' H' g hn (A2.of_map (f:=V.str) (λ_=>rfl) _)⟩
structure Tp (α:Type) where
 xs:List α
deriving instance DecidableEq for Tp
end
open PySem L2
section
variable {X:Cx} {K:PySem.W.Frag} {B:Bs} {sl:SL K} {md:Md} {t:TE} {α:Type} [Rp K α]
instance {α:Type} [Rp K α]:Rp K (Tp α):=⟨λF v x=>∃ p vs,v = .ref p /\ F p = some (.tup vs) /\ A2 (rp K F) vs x.xs,λs ⟨p,vs,h1,h2,h3⟩=>⟨p,vs,h1,s _ _ h2,h3.imp λ_ _=>Rp.mono s⟩⟩
theorem reg_leT (k:Ok B F' O H'):∀ md:Md,Same (reg B F' H' md) H'
 | .nw=>dif_le.trans k.fh
 | .fz=>k.fh
 | .hp=>.refl _
def zTe (K:PySem.W.Frag):List V->Hp->VK->Prop:=λxs H Q=>∃ p ys,xs = [.ref p] /\ SqL K H p ys /\ ∀ l,H l = none->Q (.ref l) (upd H l (.tup ys))
theorem zC9 (K:PySem.W.Frag) (hK:X.K = K:=by rfl):zAx X (.type "tuple") (zTe K):=by
 subst hK
 exact λpins s σ H xs us Q I r ⟨p,ys,e,h1,h2⟩=>zHa pins s σ H xs us Q I r ⟨p,ys,e,.inl ⟨h1,h2⟩⟩
theorem zG7 {m:Option (List α)} (h:Ex B sl md t m):Ex B sl md (tCB (zTe K) (xK t tNil)) (m.bind λxs=>some (Tp.mk xs)):=λc hc F O H σ Q s k=>by
 cases m with
 | none=>cases hc
 | some xs =>
  cases (show some (Tp.mk xs) = some c from hc)
  refine h xs rfl F O H σ _ s λv F' H' g r1=>?_
  obtain ⟨p,vs,rfl,z1,z2⟩:=r1
  refine ⟨p,vs,rfl,SqL.of (reg_leT g.ok md _ _ z1),λl hl=>?_⟩
  have g3:=Grow.new g.ok hl (.tup vs)
  exact k _ _ _ (g.trans g3) ⟨l,vs,rfl,zD4 g.ok hl md,z2.imp λ_ _=>Rp.mono (xG g3 md)⟩
end
section
variable {κ:Type} [DecidableEq κ]
def dd:List κ->List κ->List κ
 | acc,[]=>acc
 | acc,k :: r=>dd (if k ∈ acc then acc else acc ++ [k]) r
def nbr (ks:List κ):LI:=ks.map λk=>((dd [] ks).idxOf k:Int)
theorem zT6 (a b:List κ):∀ (acc:List κ),dd acc (a ++ b) = dd (dd acc a) b:=by
 induction a with
 | nil=>intro acc; rfl
 | cons k r ih=>intro acc; exact ih _
theorem zQe:∀ (ks acc:List κ),∃ r,dd acc ks = acc ++ r
 | [],acc=>⟨[],(append_nil acc).symm⟩
 | k :: ks,acc=>by
  obtain ⟨r,e⟩:=zQe ks (if k ∈ acc then acc else acc ++ [k])
  show ∃ r,dd (if k ∈ acc then acc else acc ++ [k]) ks = acc ++ r
  split at e
  ·rename_i h
   rw [if_pos h]
   exact ⟨r,e⟩
  ·rename_i h
   rw [if_neg h]
   exact ⟨[k] ++ r,by rw [e,append_assoc]⟩
theorem zT5:∀ (ks acc:List κ),(dd acc ks).length <= acc.length + ks.length
 | [],acc=>Nat.le_refl _
 | k :: ks,acc=>by
  have:=zT5 ks (if k ∈ acc then acc else acc ++ [k])
  show (dd (if k ∈ acc then acc else acc ++ [k]) ks).length <= _
  split at this
  ·rename_i h
   rw [if_pos h,length_cons]; omega
  ·rename_i h
   rw [if_neg h,length_cons]
   rw [length_append,length_singleton] at this
   omega
theorem zF3:∀ {ks acc:List κ} {k:κ},k ∈ ks->k ∈ dd acc ks
 | k' :: ks,acc,k,h=>by
  show k ∈ dd (if k' ∈ acc then acc else acc ++ [k']) ks
  rcases mem_cons.mp h with e | h
  ·obtain ⟨r,q⟩:=zQe ks (if k' ∈ acc then acc else acc ++ [k'])
   rw [q,e]
   refine mem_append_left _ ?_
   split
   ·assumption
   ·exact mem_append_right _ mem_cons_self
  ·exact zF3 h
end
end Ts
namespace L2
open PySem Ts
section
variable {α β:Type} [DecidableEq α] [DecidableEq β]
def NbOk (kvs:NKV α β) (ds:List (α × β)):Prop:=kvs.map (·.1) = ds /\ ∀ (j:Nat) p,kvs[j]? = some p->p.2.2 = (j:Int)
theorem NbOk.val {kvs:NKV α β} {ds:List (α × β)} (h:NbOk kvs ds) {k:α × β} (hk:k ∈ ds):nVal kvs k = some (ds.idxOf k:Int):=by
 obtain ⟨h1,h2⟩:=h
 have key:∀ (l:NKV α β) (n:Nat),(∀ (j:Nat) p,l[j]? = some p->p.2.2 = ((n + j:Nat):Int))->k ∈ l.map (·.1)->(l.find? λp=>decide (p.1 = k)).map (·.2.2) = some (((n + (l.map (·.1)).idxOf k:Nat)):Int):=by
  intro l
  induction l with
  | nil=>intro n _ h; cases h
  | cons p r ih =>
   intro n hn hm
   by_cases q:p.1 = k
   ·have e:=hn 0 p rfl
    rw [map_cons,idxOf_cons]
    simp [find?_cons,q,e]
   ·have hm':k ∈ r.map (·.1):=by
     rw [map_cons] at hm
     rcases mem_cons.mp hm with z | z
     ·exact absurd z.symm q
     ·exact z
    have i:=ih (n + 1) (λj p' hj=>by have:=hn (j + 1) p' hj; rw [this]; congr 1; omega) hm'
    rw [map_cons,idxOf_cons,List.find?_cons_of_neg (by simpa using q),i]
    rw [show (p.1 == k) = false from beq_eq_false_iff_ne.mpr q]
    simp only [cond_false]
    congr 2
    omega
 have:=key kvs 0 (λj p hj=>by rw [h2 j p hj]; congr 1; omega) (by rw [h1]; exact hk)
 rw [h1] at this
 unfold nVal
 rw [this]
 congr 2
 omega
theorem NbOk.non {kvs:NKV α β} {ds:List (α × β)} (h:NbOk kvs ds) {k:α × β} (hk:k ∉ ds):nVal kvs k = none:=by
 unfold nVal
 rw [find?_eq_none.mpr λp hp q=>hk (by rw [<- h.1,<- of_decide_eq_true q]; exact List.mem_map_of_mem hp)]
 rfl
theorem NbOk.snoc (h:NbOk kvs ds) (k:α × β) (p:Addr):NbOk (kvs ++ [(k,p,(kvs.length:Int))]) (ds ++ [k]):=by
 obtain ⟨h1,h2⟩:=h
 refine ⟨by rw [map_append,h1]; rfl,λj q hj=>?_⟩
 rcases Nat.lt_or_ge j kvs.length with z | z
 ·rw [getElem?_append_left z] at hj
  exact h2 j q hj
 ·rw [getElem?_append_right z] at hj
  have e:j - kvs.length = 0:=by
   rcases Nat.eq_zero_or_pos (j - kvs.length) with e | e
   ·exact e
   ·rw [List.getElem?_eq_none (by rw [length_singleton]; omega)] at hj; cases hj
  rw [e] at hj
  cases hj
  show (kvs.length:Int) = j
  omega
end
end L2
namespace Ts
open PySem L2
structure RwD where
 xss:List LI
def RowD (F:Hp) (q:Addr) (xs:LI):Prop:=F q = some (.lst (xs.map V.int))
section
variable {K:PySem.W.Frag} {B:Bs} {sl:SL K} {F H G L:Hp} {O:Own} {σ:St} {te t2:TE} {u:TS} {al:Bool}
instance:Rp K RwD:=⟨λF v x=>∃ (p:Addr) (ps:List Addr),v = .ref p /\ F p = some (.lst (ps.map V.ref)) /\ (p :: ps).Nodup /\ A2 (RowD F) ps x.xss,λs ⟨p,ps,h1,h2,h3,h4⟩=>⟨p,ps,h1,s _ _ h2,h3,h4.imp λ_ _ h=>s _ _ h⟩⟩
theorem rd_a2:∀ {ps:List Addr} {xss:List LI},A2 (RowD F) ps xss->A2 (rp K F) (ps.map V.ref) xss
 | [],[],_=>trivial
 | _ :: _,xs :: _,h=>⟨⟨_,xs.map V.int,rfl,h.1,zB6 xs⟩,rd_a2 h.2⟩
 | [],_ :: _,h=>h.elim
 | _ :: _,[],h=>h.elim
theorem rd_ll {v:V} {x:RwD} (h:rp K F v x):rp K F v x.xss:=by
 obtain ⟨p,ps,h1,h2,h3,h4⟩:=h
 exact ⟨p,ps.map V.ref,h1,h2,rd_a2 h4⟩
theorem rd_at:∀ {ps:List Addr} {xss:List LI} {j:Nat} {r:LI},A2 (RowD F) ps xss->xss[j]? = some r->∃ q,ps[j]? = some q /\ RowD F q r
 | p :: ps,xs :: xss,0,r,h,e=>by cases e; exact ⟨p,rfl,h.1⟩
 | p :: ps,xs :: xss,j + 1,r,h,e=>by simpa using rd_at (j:=j) h.2 e
 | [],[],_,_,_,e=>by simp at e
 | [],_ :: _,_,_,h,_=>h.elim
 | _ :: _,[],_,_,h,_=>h.elim
theorem zOe:∀ {ps:List Addr} {xss:List LI},(∀ q ∈ ps,∀ xs,RowD F q xs->RowD F' q xs)->A2 (RowD F) ps xss->A2 (RowD F') ps xss
 | [],[],_,_=>trivial
 | p :: ps,_ :: _,k,h=>⟨k p mem_cons_self _ h.1,zOe (λq hq=>k q (mem_cons_of_mem _ hq)) h.2⟩
 | [],_ :: _,_,h=>h.elim
 | _ :: _,[],_,h=>h.elim
theorem zTb:∀ {ps:List Addr} {xss:List LI} {j:Nat} {q:Addr} {r:LI},ps.Nodup->ps[j]? = some q->(∀ b ∈ ps,b ≠ q->∀ xs,RowD F b xs->RowD F' b xs)->RowD F' q r->A2 (RowD F) ps xss->A2 (RowD F') ps (xss.set j r)
 | [],[],_,_,_,_,e,_,_,_=>by simp at e
 | p :: ps,xs :: xss,0,q,r,nd,e,k,n,h=>by
  cases e
  exact ⟨n,zOe (λb hb xs=>k b (mem_cons_of_mem _ hb) (λe=>(nodup_cons.mp nd).1 (e ▸ hb)) xs) h.2⟩
 | p :: ps,xs :: xss,j + 1,q,r,nd,e,k,n,h=>by
  have e:ps[j]? = some q:=by simpa using e
  exact ⟨k p mem_cons_self (λz=>(nodup_cons.mp nd).1 (z ▸ mem_of_getElem? e)) _ h.1,zTb (nodup_cons.mp nd).2 e (λb hb=>k b (mem_cons_of_mem _ hb)) n h.2⟩
 | [],_ :: _,_,_,_,_,_,_,_,h=>h.elim
 | _ :: _,[],_,_,_,_,_,_,_,h=>h.elim
theorem zTc:∀ {ps:List Addr} {xss:List LI} {q:Addr},A2 (RowD F) ps xss->q ∈ ps->∃ xs,RowD F q xs
 | p :: ps,xs :: xss,q,h,hq=>by
  rcases mem_cons.mp hq with e | hq
  ·rw [e]; exact ⟨_,h.1⟩
  ·exact zTc h.2 hq
 | [],[],_,_,hq=>by cases hq
 | [],_ :: _,_,h,_=>h.elim
 | _ :: _,[],_,h,_=>h.elim
theorem zSg {x:RwD} (i:Nat) (hs:sl[i]? = some (.nu x)):Ex B sl .hp (tVar i) (some x.xss):=λa' ha F O H σ Q s k=>by
 cases ha
 obtain ⟨v,h1,h2⟩:=s.2.nu_at hs
 exact ⟨v,h1,k v F H (.refl s.1) (rd_ll (Rp.mono (dif_le.trans zR5) h2))⟩
theorem zKt {x:RwD} (i:Nat) (hs:sl[i]? = some (.nu x)):SB B sl (tSeq (tRet (tVar i)) u) false (some x.xss):=λb hb G D σ H s k=>by
 cases hb
 obtain ⟨F,O,g,a⟩:=s
 obtain ⟨v,h1,h2⟩:=a.2.nu_at hs
 exact ⟨v,h1,k v H ⟨a.1.h0,rd_ll (Rp.mono (wE zR5) h2)⟩⟩
theorem en_nilD:En B sl (tLst tNil) (some (RwD.mk [])):=λc hc F O H σ Q s kk=>by
 cases hc
 refine ⟨Nat.zero_le _,λp hp=>kk _ F H _ (.refl s.1) (same_new hp _) ⟨p,[],rfl,?_,by simp,trivial⟩⟩
 rw [xU hp,zR]; rfl
def zMc (j:Int):Option RwD:=if 0 <= j /\ j <= 900 then some (RwD.mk (replicate j.toNat [])) else none
theorem zTd:∀ {ps:List Addr},(∀ q ∈ ps,F q = some (.lst []))->A2 (RowD F) ps (replicate ps.length [])
 | [],_=>trivial
 | p :: ps,h=>⟨h p mem_cons_self,zTd λq hq=>h q (mem_cons_of_mem _ hq)⟩
theorem zSl (h:Ex B sl .hp te m):En B sl (zQ4 1 [] (iRng1 (xK te tNil)) (zBc 0) tIf0 (tLst tNil)) (m.bind zMc):=λc hc F O H σ Q s kk=>by
 cases m with
 | none=>cases hc
 | some j =>
  have hc:zMc j = some c:=hc
  unfold zMc at hc
  split at hc
  case isFalse=>cases hc
  rename_i hj
  cases hc
  refine h j rfl F O H σ _ s λv F1 H1 g r=>?_
  cases r
  ·refine ⟨j,rfl,Int.le_trans (by decide) hj.1,Int.lt_of_le_of_lt hj.2 (by decide),zM3 (lo:=0) (k:=j.toNat) (λi ys σ2 H2=>∃ (ps:List Addr),ys = ps.map V.ref /\ ps.length = i /\ ps.Nodup /\ Same H1 H2 /\ ∀ q ∈ ps,H1 q = none /\ H2 q = some (.lst [])) ⟨[],rfl,rfl,.nil,.refl _,λq hq=>by cases hq⟩
    (λi ys σ2 H2 hi ⟨ps,e1,e2,_⟩=>by rw [e1,length_map,e2]; exact Nat.le_refl _) (Nat.lt_of_le_of_lt (show j.toNat <= 900 by omega) (by decide)) ?_ ?_⟩
   ·rintro i ys σ2 H2 hi ⟨ps,rfl,rfl,nd,s2,hq⟩
    refine ⟨Nat.zero_le _,λp hp=>⟨ps ++ [p],by rw [map_append]; rfl,by rw [length_append]; rfl,?_,s2.trans (same_new hp _),λq hq'=>?_⟩⟩
    ·rw [nodup_append]
     refine ⟨nd,by simp,λa ha b hb e=>?_⟩
     rw [mem_singleton.mp hb] at e
     rw [<- e,(hq a ha).2] at hp
     cases hp
    ·rcases mem_append.mp hq' with z | z
     ·exact ⟨(hq q z).1,same_new hp _ _ _ (hq q z).2⟩
     ·rw [mem_singleton.mp z]
      exact ⟨s2.free hp,zR⟩
   ·rintro ys σ2 H2 ⟨ps,rfl,e2,nd,s2,hq⟩ p hp
    refine kk _ F1 H1 _ g (s2.trans (same_new hp _)) ⟨p,ps,rfl,?_,nodup_cons.mpr ⟨λz=>?_,nd⟩,?_⟩
    ·rw [xU (s2.free hp),zR]
    ·rw [(hq p z).2] at hp; cases hp
    ·rw [<- e2]
     refine zTd λq z=>?_
     rw [xU (hq q z).1]
     exact same_new hp _ _ _ (hq q z).2
def zGj (x:RwD) (ys:LI):Option RwD:=if x.xss.length < cap then some (RwD.mk (x.xss ++ [ys])) else none
theorem sn_appD (i j:Nat) (hi:sl[i]? = some (.nu x)) (hj:sl[j]? = some (.ow n ys)) (hij:i ≠ j) (hn:((sl.set j .un).set i .un).all (λs=>!zEm s) = true) :
  Sn B sl (zHm (tBM K "list" zD5 (tVar i) (xK (tVar j) tNil))) (λa=>(sl.set j .un).set i (.nu a)) (zGj x ys):=λc hc G D σ H s k=>by
 unfold zGj at hc
 split at hc
 case isFalse=>cases hc
 rename_i hl
 cases hc
 obtain ⟨F,O,g,z⟩:=s
 obtain ⟨v,y1,p,ps,rfl,y2,y3,y4⟩:=z.2.nu_at hi
 obtain ⟨a1,a2,a3,a4⟩:=zCg y2
 obtain ⟨O1,O2,q,vs,rfl,w1,w2,_,w4⟩:=z.2.ow_at hj
 have ev:vs = ys.map V.int:=A2.eq_map (w2.imp λ_ _ h=>h)
 obtain ⟨b1,b2,b3⟩:=z.1.one
 have qp:p ≠ q:=λe=>a3 (q,.lst vs) (by simp) e.symm
 have inO:∀ x ∈ O1 ++ O2,x ∈ O1 ++ (q,HO.lst vs) :: O2:=λx hx=>by
  rcases mem_append.mp hx with e | e
  ·exact mem_append_left _ e
  ·exact mem_append_right _ (mem_cons_of_mem _ e)
 have yl:ps.length = x.xss.length:=y4.len
 refine ⟨_,y1,.inl ⟨rfl,_,SqL.of a4⟩,_,w1,p,_,.ref q,rfl,rfl,a4,zDj (by rw [length_map,yl]; exact hl),k _ _ ⟨F,O1 ++ O2,g,z.1.drop.poke a1 a2 λx hx=>a3 x (inO x hx),?_⟩⟩
 have zu:=w4 .un (some (.ref q)) λ_ _ _ y=>.un y
 rw [vO w1] at zu
 have hi':(sl.set j .un)[i]? = some (.nu x):=by rw [getElem?_set_ne (Ne.symm hij)]; exact hi
 have z4:SlotsOk B F (lo F (O1 ++ O2) (upd H p (.lst (ps.map V.ref ++ [.ref q])))) (upd H p (.lst (ps.map V.ref ++ [.ref q]))) ((sl.set j .un).set i .un) σ (O1 ++ O2):=(zKq zu hi' rfl).calm hn
 have hil:i < (sl.set j .un).length:=(List.getElem?_eq_some_iff.mp hi').1
 have nq:q ∉ ps:=λhq=>by
  obtain ⟨xs,hx⟩:=zTc y4 hq
  exact (zCg hx).2.2.1 (q,.lst vs) (by simp) rfl
 have rl:rp K (dif (lo F (O1 ++ O2) (upd H p (.lst (ps.map V.ref ++ [.ref q])))) B.H0) (.ref p) (RwD.mk (x.xss ++ [ys])):=by
  refine ⟨p,ps ++ [q],rfl,?_,?_,?_⟩
  ·rw [xU a2,zIf a1 λx hx=>a3 x (inO x hx),zR,map_append]; rfl
  ·have n1:=nodup_cons.mp y3
   refine nodup_cons.mpr ⟨λe=>?_,?_⟩
   ·rcases mem_append.mp e with e | e
    ·exact n1.1 e
    ·exact qp (mem_singleton.mp e)
   ·rw [nodup_append]
    refine ⟨n1.2,by simp,λa ha b hb e=>nq ?_⟩
    rw [<- mem_singleton.mp hb,<- e]
    exact ha
  ·refine A2.snoc (zOe (λb hb xs hx=>?_) y4) ?_
   ·obtain ⟨c1,c2,c3,c4⟩:=zCg hx
    have bp:b ≠ p:=λe=>(nodup_cons.mp y3).1 (e ▸ hb)
    show dif _ _ b = _
    rw [xU c2,zIf c1 λx hx=>c3 x (inO x hx),zQ bp,c4]
   ·show dif _ _ q = _
    rw [xU b2,zIf b1 (z.1.ndp),zQ qp.symm,b3,ev]
 have z5:=z4.put (i:=i) (s:=.un) (s':=.nu (RwD.mk (x.xss ++ [ys]))) (x:=some (.ref p)) (λ_ _ _ y=>.nu rl y) (by rw [getElem?_set_self hil]) rfl
 rw [set_set,vO y1] at z5
 exact z5
def zDd (x:RwD) (j y:Int):Option RwD:=if 0 <= j then (x.xss[j.toNat]?).bind λr=>if r.length < cap then some (RwD.mk (x.xss.set j.toNat (r ++ [y]))) else none else none
theorem zHr (i:Nat) (hs:sl[i]? = some (.nu x)) (hn:(sl.set i .un).all (λs=>!zEm s) = true) (h2:Ex B sl .hp t2 m2) (h:Ex B sl .hp te m) :
  Sn B sl (zHm (tBM K "list" zD5 (tOp (rIxL K) (tVar i) t2) (xK te tNil))) (λa=>sl.set i (.nu a)) (m2.bind λj=>m.bind λy=>zDd x j y):=λc hc G D σ H s k=>by
 cases m2 with
 | none=>cases hc
 | some j =>
  cases m with
  | none=>cases hc
  | some y =>
   have hc:zDd x j y = some c:=hc
   unfold zDd at hc
   split at hc
   case isFalse=>cases hc
   rename_i j0
   cases er:x.xss[j.toNat]? with
   | none=>rw [er] at hc; cases hc
   | some r =>
    rw [er] at hc
    have hc:(if r.length < cap then some (RwD.mk (x.xss.set j.toNat (r ++ [y]))) else none) = some c:=hc
    split at hc
    case isFalse=>cases hc
    rename_i hl
    cases hc
    obtain ⟨F,O,g,z⟩:=s
    obtain ⟨v,y1,p,ps,rfl,y2,y3,y4⟩:=z.2.nu_at hs
    obtain ⟨a1,a2,a3,a4⟩:=zCg y2
    obtain ⟨q,e3,e4⟩:=rd_at y4 er
    obtain ⟨b1,b2,b3,b4⟩:=zCg e4
    refine ⟨_,y1,h2 j rfl F O H σ _ z λw F2 H2 g2 r2=>?_⟩
    cases r2
    have hix:atI (ps.map V.ref) j = some (.ref q):=by
     have:=zQr (zOc e3)
     rw [show ((j.toNat:Nat):Int) = j by omega] at this
     exact this
    refine ⟨p,_,j,.ref q,rfl,rfl,SqL.of (g2.hh _ _ a4),hix,.inl ⟨rfl,_,SqL.of (g2.hh _ _ b4)⟩,?_⟩
    refine h y rfl F2 O H2 σ _ (z.grow g2) λw F3 H3 g3 r3=>?_
    cases r3
    have g23:=g2.trans g3
    have q1:=g23.nw q b1 (by rw [b4]; intro z; cases z)
    have p1:=g23.nw p a1 (by rw [a4]; intro z; cases z)
    have b4':=g23.hh _ _ b4
    refine ⟨q,_,.int y,rfl,rfl,b4',zDj (by rw [length_map]; exact hl),k _ _ ⟨F3,O,g.trans g23.ff,g23.ok.poke q1 b2 b3,?_⟩⟩
    have z3:=(z.grow g23).2
    have z4:SlotsOk B F3 (lo F3 O (upd H3 q (.lst (r.map V.int ++ [.int y])))) (upd H3 q (.lst (r.map V.int ++ [.int y]))) (sl.set i .un) σ O:=(zKq z3 hs rfl).calm hn
    have hi:i < sl.length:=(List.getElem?_eq_some_iff.mp hs).1
    have pq:p ≠ q:=λe=>(nodup_cons.mp y3).1 (e ▸ mem_of_getElem? e3)
    have rl:rp K (dif (lo F3 O (upd H3 q (.lst (r.map V.int ++ [.int y])))) B.H0) (.ref p) (RwD.mk (x.xss.set j.toNat (r ++ [y]))):=by
     refine ⟨p,ps,rfl,?_,y3,zTb (nodup_cons.mp y3).2 e3 (λb hb nb xs hx=>?_) ?_ y4⟩
     ·rw [xU a2,zIf p1 a3,zQ pq]
      exact g23.hh _ _ a4
     ·obtain ⟨c1,c2,c3,c4⟩:=zCg hx
      show dif _ _ b = _
      rw [xU c2,zIf (g23.nw b c1 (by rw [c4]; intro z; cases z)) c3,zQ nb]
      exact g23.hh _ _ c4
     ·show dif _ _ q = _
      rw [xU b2,zIf q1 b3,zR,map_append]; rfl
    have z5:=z4.put (i:=i) (s:=.un) (s':=.nu (RwD.mk (x.xss.set j.toNat (r ++ [y])))) (x:=some (.ref p)) (λ_ _ _ y=>.nu rl y) (by rw [getElem?_set_self hi]) rfl
    rw [set_set,vO y1] at z5
    exact z5
structure LLen where
 n:Nat
instance:Rp K LLen:=⟨λF v x=>∃ p vs,v = .ref p /\ F p = some (.lst vs) /\ vs.length <= x.n,λs ⟨p,vs,h1,h2,h3⟩=>⟨p,vs,h1,s _ _ h2,h3⟩⟩
end
structure Fx (v:V) (α:Type) where
 x:α
section
variable {K:PySem.W.Frag} {B:Bs} {sl:SL K} {F H G L:Hp} {O:Own} {σ:St} {te t2:TE} {t:TS} {al:Bool} {α:Type} [Rp K α] {md:Md}
instance:Rp K (Fx v α):=⟨λF u a=>u = v /\ rp K F u a.x,λs h=>⟨h.1,Rp.mono s h.2⟩⟩
end
section
variable {K:PySem.W.Frag} {B:Bs} {sl:SL K} {te:TE}
end
end Ts
namespace SetP
open PySem PySem.Spec PyProof.Rows
set_option maxRecDepth 100000
theorem zGg:entryFor table "set.__xor__" = some Builtin.«frozenset.__xor__»:=entryFor_alias (id':="frozenset.__xor__") (by kernel_rfl) rfl (by decide +kernel) (by kernel_rfl)
section
variable {prog:Program} {w:World} {κ:Type} [DecidableEq κ] {knd:KeyKind prog w κ} {dec:Value->κ} {led:Bool} {A:Around} {E:Value->Shared->Prop} {s:Shared}
theorem xupd_ok (hdec:∀ k v,knd.is k v = true->dec v = k) (id:String) (hn:∀ k v,knd.is k v = true->∀ b,v ≠ .ref b) (hab:b ≠ r) (ga:Good knd dec (yL w) s.heap r ka) (gb:Good knd dec (yL w) s.heap b kb) (hl:ka.length + kb.length <= 127) {Q:Unit->Shared->Prop}
  (h:∀ (h':Heap) (kr:List κ),SameBut r s.heap h'->Good knd dec (yL w) h' r kr->(∀ k,k ∈ kr ↔ ((k ∈ ka /\ k ∉ kb) \/ (k ∉ ka /\ k ∈ kb)))->Q () { s with heap:=h' }) :
  wpAny (model prog w) A (Builtin.Frozenset.symmetricDifferenceUpdate id r (.ref b)) Q E s:=by
 obtain ⟨o,es,ep,t,h1,h2,h3,hf,hlb,tb,hel,hp⟩:=gb.size
 have ndb:kb.Nodup:=by obtain ⟨_,_,_,_,_,_,_,_,_,nd,_⟩:=gb; exact nd
 unfold Builtin.Frozenset.symmetricDifferenceUpdate
 rw [if_neg (λe=>hab (Value.ref.inj (eq_of_beq e)))]
 refine wpAny_bind (wpAny_typeOf gb.type ?_)
 rw [if_neg (by decide)]
 refine wpAny_bind (zHd gb.type ?_)
 simp only [↓reduceIte]
 refine wpAny_bind (wpAny_pure (wpAny_bind (wpAny_pure ?_)))
 refine wpAny_bind (wpAny_setEpoch_of h1 h3 hf ?_)
 refine wpAny_holding (wpAny_bind (zHl gb ga (λc hc=>(mem_singleton.mp hc) ▸ ⟨ka,ga⟩) hn λes' h0 hel' hp' sb0 ga0=>?_))
 rw [<- forIn_toList]
 have nd':(es'.toList.map λe=>dec e.2).Nodup:=hp'.nodup_iff.mpr ndb
 have ln':es'.toList.length = kb.length:=by rw [<- hp'.length_eq,length_map]
 refine wpAny_bind (wpAny_mono (wpAny_forIn_list (β:=Unit) _ (λl _ s'=>∃ h2 kr,s' = { s with heap:=h2 } /\ SameBut r s.heap h2 /\ Good knd dec (yL w) h2 r kr /\ ElemsOf knd l /\ (l.map λe=>dec e.2).Nodup /\ kr.length + l.length <= 127 /\ ∀ k,((k ∈ kr /\ k ∉ l.map λe=>dec e.2) \/ (k ∉ kr /\ k ∈ l.map λe=>dec e.2)) ↔ ((k ∈ ka /\ k ∉ kb) \/ (k ∉ ka /\ k ∈ kb))) (λ_ s'=>∃ h2 kr,s' = { s with heap:=h2 } /\ SameBut r s.heap h2 /\ Good knd dec (yL w) h2 r kr /\ ∀ k,k ∈ kr ↔ ((k ∈ ka /\ k ∉ kb) \/ (k ∉ ka /\ k ∈ kb))) ?turn ?fin es'.toList () ⟨h0,ka,rfl,sb0,ga0,hel',nd',by omega,λk=>?_⟩) ?post (λ_ _ h=>h))
 case turn =>
  rintro ⟨hs',v⟩ l b' s' ⟨h2',kr,rfl,sb2,g2,hl2,ndl,hlen,hm⟩
  obtain ⟨⟨k,hk,hh⟩,hsc⟩:=hl2 _ mem_cons_self
  dsimp only at hk hh hsc ⊢
  subst hh
  have dv:dec v = k:=hdec k v hk
  rw [map_cons,nodup_cons] at ndl
  dsimp only at ndl
  rw [dv] at ndl
  have ndr:kr.Nodup:=by obtain ⟨_,_,_,_,_,_,_,_,_,nd,_⟩:=g2; exact nd
  have hlen:kr.length + (l.length + 1) <= 127:=hlen
  have hm':∀ c,((c ∈ kr /\ ¬ (c = k \/ c ∈ l.map λe=>dec e.2)) \/ (c ∉ kr /\ (c = k \/ c ∈ l.map λe=>dec e.2))) ↔ ((c ∈ ka /\ c ∉ kb) \/ (c ∉ ka /\ c ∈ kb)):=λc=>by
   have:=hm c
   rw [map_cons,mem_cons] at this
   dsimp only at this
   rw [dv] at this
   exact this
  refine wpAny_bind (wpAny_mono (Q:=λ_ s''=>∃ h4 kq,s'' = { s with heap:=h4 } /\ SameBut r s.heap h4 /\ Good knd dec (yL w) h4 r kq /\ kq.length + l.length <= 127 /\ ∀ c,c ∈ kq ↔ ((c ∈ kr /\ c ≠ k) \/ (c = k /\ k ∉ kr))) ?flip ?tail (λ_ _ h=>h))
  case flip =>
   refine wpAny_holding (wpAny_bind (zQb (led:=yL w) (s:={ s with heap:=h2' }) hdec hk hsc g2 λh3' bb sb3 g3 hb=>?_))
   cases bb with
   | true =>
    have km:=hb.mp rfl
    simp only [Bool.not_true,Bool.false_eq_true,↓reduceIte]
    refine wpAny_pure ⟨h3',kr.erase k,rfl,sb2.trans sb3,g3,?_,λc=>?_⟩
    ·have:=List.length_erase_le (a:=k) (l:=kr)
     omega
    ·rw [ndr.mem_erase_iff]
     constructor
     ·rintro ⟨z1,z2⟩
      exact .inl ⟨z2,z1⟩
     ·rintro (⟨z1,z2⟩ | ⟨_,z2⟩)
      ·exact ⟨z2,z1⟩
      ·exact absurd km z2
   | false =>
    have km:k ∉ kr:=λz=>by have:=hb.mpr z; cases this
    rw [List.erase_of_not_mem km] at g3
    simp only [Bool.not_false,↓reduceIte]
    refine wpAny_bind (zQu (led:=yL w) (s:={ s with heap:=h3' }) hdec hk hsc g3 (Nat.lt_of_le_of_lt (show kr.length + 1 <= 127 by omega) (by decide)) λh4 b4 sb4 g4=>wpAny_pure ⟨h4,k :: kr,rfl,(sb2.trans sb3).trans sb4,?_,?_,λc=>?_⟩)
    ·rw [if_neg km] at g4
     exact g4
    ·rw [length_cons]; omega
    ·rw [mem_cons]
     constructor
     ·rintro (z | z)
      ·exact .inr ⟨z,km⟩
      ·exact .inl ⟨z,λq=>km (q ▸ z)⟩
     ·rintro (⟨z,_⟩ | ⟨z,_⟩)
      ·exact .inr z
      ·exact .inl z
  case tail =>
   rintro _ s'' ⟨h4,kq,rfl,sb4,g4,ln4,m4⟩
   refine wpAny_bind ?_
   unfold Builtin.Frozenset.unchanged
   refine wpAny_bind (wpAny_setEpoch_of (s:={ s with heap:=h4 }) (by show h4.get? b = _; rw [sb4.2 b hab]; exact h1) h3 hf ?_)
   simp only [bne_self_eq_false,Bool.false_eq_true,↓reduceIte]
   refine wpAny_pure (wpAny_pure ⟨h4,kq,rfl,sb4,g4,λe he=>hl2 e (mem_cons_of_mem _ he),ndl.2,ln4,λc=>?_⟩)
   rw [<- hm' c,m4]
   by_cases ck:c = k
   ·subst ck
    have nl:=ndl.1
    constructor
    ·rintro (⟨z | ⟨_,z⟩,_⟩ | ⟨_,z⟩)
     ·exact absurd rfl z.2
     ·exact .inr ⟨z,.inl rfl⟩
     ·exact absurd z nl
    ·rintro (⟨_,z⟩ | ⟨z,_⟩)
     ·exact absurd (.inl rfl) z
     ·exact .inl ⟨.inr ⟨rfl,z⟩,nl⟩
   ·simp only [ck,false_or,ne_eq,not_false_eq_true,and_true,false_and,or_false]
 case fin =>
  rintro b' s' ⟨h2',kr,rfl,sb2,g2,_,_,hlen,hm⟩
  refine ⟨h2',kr,rfl,sb2,g2,λk=>?_⟩
  rw [<- hm k]
  simp
 case post =>
  rintro b' s' ⟨h2',kr,rfl,sb2,g2,hm⟩
  exact wpAny_pure (h h2' kr sb2 g2 hm)
 ·rw [hp'.mem_iff]
theorem zS0 (hdec:∀ k v,knd.is k v = true->dec v = k) (hn:∀ k v,knd.is k v = true->∀ b,v ≠ .ref b) (ga:Good knd dec (yL w) s.heap a ka) (gb:Good knd dec (yL w) s.heap b kb) (hl:ka.length <= 63) (hl':kb.length <= 63) {Q:Value->Shared->Prop}
  (h:∀ (h':Heap) (kr:List κ),Good knd dec (yL w) h' s.heap.objs.size kr->(∀ k,k ∈ kr ↔ ((k ∈ ka /\ k ∉ kb) \/ (k ∉ ka /\ k ∈ kb)))->(∀ c o,c < s.heap.objs.size->s.heap.get? c = some o->h'.get? c = some o)->Q (.ref s.heap.objs.size) { s with heap:=h' }) :
  wpAny (model prog w) A (binaryOp .BitXor (.ref a) (.ref b)) Q E s:=by
 have la:a < s.heap.objs.size:=by obtain ⟨o,_,_,_,h1,_⟩:=ga; exact lt_size h1
 have lb:b < s.heap.objs.size:=by obtain ⟨o,_,_,_,h1,_⟩:=gb; exact lt_size h1
 refine wpAny_binaryOp_same (op:=.BitXor) (T:="set") ga.type gb.type F.fills_set_xor F.slot_set_xor (wpAny_call_entry F.slot_set_xor ga.type zGg ?_ (F.args_set_xor_2 _ _))
 refine wpAny_bind (m:=Builtin.Frozenset.slot1 "__xor__" ⟨[.ref a,.ref b],[]⟩) ?_
 unfold Builtin.Frozenset.slot1 slotArgs
 refine wpAny_pure ?_
 dsimp only
 refine wpAny_bind (wpAny_bind (zHd ga.type ?_))
 refine zHd gb.type ?_
 simp only [Bool.not_true,Bool.false_eq_true,↓reduceIte]
 refine wpAny_bind (wpAny_pure (wpAny_bind ?_))
 refine wpAny_bind (m:=Builtin.Frozenset.baseOf a) (base_ok ga.type ?_)
 have up:∀ c o,s.heap.get? c = some o->(s.heap.push { cls:=.type "set",dict:=none,data:=.set #[] 0 (.fresh 0 0 (yL w)) }).get? c = some o:=λc o e=>get?_push_of_some _ e
 have gr1:Good knd dec (yL w) (s.heap.push { cls:=.type "set",dict:=none,data:=.set #[] 0 (.fresh 0 0 (yL w)) }) s.heap.objs.size []:=zG4 (get?_push_size _ rfl)
 have ga1:=ga.keep (up a)
 have gb1:=gb.keep (up b)
 have fr:(s.heap.push { cls:=.type "set",dict:=none,data:=.set #[] 0 (.fresh 0 0 (yL w)) }).get? s.heap.objs.size = some { cls:=.type "set",dict:=none,data:=.set #[] 0 (.fresh 0 0 (yL w)) }:=get?_push_size _ rfl
 generalize hp:s.heap.push { cls:=.type "set",dict:=none,data:=.set #[] 0 (.fresh 0 0 (yL w)) } = hq at up ga1 gb1 gr1 fr
 refine wpAny_bind ?_
 unfold Builtin.Frozenset.newFrom
 refine wpAny_bind (zO1 ?_)
 rw [hp]
 refine wpAny_bind (wpAny_pure (wpAny_bind (wpAny_holding (upd_ok (s:={ s with heap:=hq }) hdec _ hn (Nat.ne_of_lt lb) gr1 gb1 (λ_=>fr) (by simp only [length_nil]; omega) λh2 ks sb g2 m=>?_))))
 refine wpAny_pure (wpAny_bind (wpAny_pure ?_))
 have nd2:ks.Nodup:=by obtain ⟨_,_,_,_,_,_,_,_,_,nd,_⟩:=g2; exact nd
 have ndb:kb.Nodup:=by obtain ⟨_,_,_,_,_,_,_,_,_,nd,_⟩:=gb; exact nd
 have lk:ks.length = kb.length:=((perm_ext_iff_of_nodup nd2 ndb).mpr λk=>by rw [m k]; simp).length_eq
 refine wpAny_bind (wpAny_holding (xupd_ok (s:={ s with heap:=h2 }) hdec _ hn (Nat.ne_of_lt la) g2 (ga1.keep λo e=>by rw [sb.2 a (Nat.ne_of_lt la)]; exact e) (by omega) λh3 kr sb3 g3 m3=>wpAny_pure (wpAny_pure ⟨.ref s.heap.objs.size,rfl,λz=>Value.noConfusion z,h h3 kr g3 (λk=>?_) λc o hc e=>?_⟩)))
 ·rw [m3 k,m k]
  constructor
  ·rintro (⟨z1,z2⟩ | ⟨z1,z2⟩)
   ·exact .inr ⟨z2,z1.elim (λq=>by cases q) id⟩
   ·exact .inl ⟨z2,λq=>z1 (.inr q)⟩
  ·rintro (⟨z1,z2⟩ | ⟨z1,z2⟩)
   ·exact .inr ⟨λq=>q.elim (λq=>by cases q) z2,z1⟩
   ·exact .inl ⟨.inr z2,z1⟩
 ·rw [sb3.2 c (Nat.ne_of_lt hc),sb.2 c (Nat.ne_of_lt hc)]
  exact up c o e
end
end SetP
namespace L2
open PySem PySem.Spec PyProof.Rows SetP
section
variable {X:Cx}
def tXorS (ta tb:TSt):TSt:=λσ H Q=>ta σ H λks H1=>ks.length < 64 /\ tb σ H1 λjs H2=>js.length < 64 /\ ∀ rs:LI,rs.Nodup->(∀ z,z ∈ rs ↔ ((z ∈ ks /\ z ∉ js) \/ (z ∉ ks /\ z ∈ js)))->Q rs H2
theorem pst_xor (ha:PSt X a ta) (hb:PSt X b tb):PSt X (.BinOp a .BitXor b pos) (tXorS ta tb):=by
 intro pins s σ H Q I h
 refine wpAny_BinOp (thn (ha pins s σ H _ I h) λu s1 ⟨p,ks,H1,e,I1,g,fo,hl,h1⟩=>?_)
 subst e
 obtain ⟨o,es,ep,t,go,gx,gd,_⟩:=id g
 have I1':=I1.pinned (fp:=[p]) (λb hb=>by rw [mem_singleton.mp hb]; exact fo) (λb hb=>by
  rw [mem_singleton.mp hb]
  exact ⟨o,go,λv z=>by rw [gd] at z; cases z⟩)
 refine thn (hb _ s1 σ H1 _ I1' h1) λu2 s2 ⟨p2,js,H2,e2,I2,g2,fo2,hl2,q2⟩=>?_
 subst e2
 have pm:(p,o) ∈ X.pn ++ (pins ++ zD8 [p] s1.heap):=mem_append_right _ (mem_append_right _ (uH (mem_singleton.mpr rfl) go))
 have kp:s2.heap.get? p = some o:=(I2.pin (p,o) pm).1
 have g1:=g.keep (h':=s2.heap) λo' e'=>by rw [go] at e'; cases e'; exact kp
 have I3:=I2.unpinned
 refine zS0 zT4 (λk v hk b z=>?_) g1 g2 (Nat.le_of_lt_succ hl) (Nat.le_of_lt_succ hl2) λh' kr g3 m k=>?_
 ·obtain ⟨t,rfl⟩:=Value.isInt_shape hk
  cases z
 ·have I4:=I3.kept (h':=h') (t':=s2.toks) λb o e=>k b o (lt_size e) e
  obtain ⟨_,_,_,_,_,_,_,_,_,nd,_⟩:=id g3
  exact ⟨_,kr,H2,rfl,I4,g3,I3.fpOk (Nat.le_refl _) (I3.hok.fresh (Nat.le_refl _)),q2 kr nd m⟩
def decS:Value->Str
 | .str k _=>k
 | _=>""
theorem zG0 (h:(PySem.strKind P w).is k v = true):∃ t,v = .str k t:=by
 cases v <;> simp [PySem.strKind,Value.isStrOf] at h
 subst h
 exact ⟨_,rfl⟩
theorem zQc:∀ k v,(PySem.strKind P w).is k v = true->decS v = k:=λk v h=>by
 obtain ⟨t,rfl⟩:=zG0 h
 rfl
abbrev TSS:=St->Hp->(List Str->Hp->Prop)->Prop
def SsP (X:Cx) (pins:List (Addr × Obj)) (σ:St) (Q:List Str->Hp->Prop) (v:Value) (s':Shared):Prop :=
 ∃ (a:Addr) (ks:List Str) (H':Hp),v = .ref a /\ Inv X pins σ H' s' /\ Good (PySem.strKind X.prog X.w) decS (yL X.w) s'.heap a ks /\ FpOk X pins H' a /\ Q ks H'
def PSS (X:Cx) (e:Expr) (t:TSS):Prop:=∀ (pins:List (Addr × Obj)) (s:Shared) (σ:St) (H:Hp) (Q:List Str->Hp->Prop),Inv X pins σ H s->t σ H Q->wpAny (model X.prog X.w) X.A (eval e X.env) (SsP X pins σ Q) X.xe s
theorem zN6:∀ {ns:List Str} {its:List Value},StrsAre its ns->∀ {i:Nat} {v:Value},its[i]? = some v->∃ t,v = .str (ns.getD i "") t
 | _,_,.nil,i,v,h=>by simp at h
 | _,_,.cons n t r,0,v,h=>by simp at h; subst h; exact ⟨t,rfl⟩
 | _,_,.cons n t r,i + 1,v,h=>by
  obtain ⟨t',e⟩:=zN6 r (by simpa using h)
  exact ⟨t',e⟩
theorem zKu:∀ {ns:List Str} {its:List Value},StrsAre its ns->its.length = ns.length
 | _,_,.nil=>rfl
 | _,_,.cons n t r=>congrArg (· + 1) (zKu r)
def tSetT (K:PySem.W.Frag) (te:TE):TSS:=λσ H Q=>xK te tNil σ H λvs H1=>∃ (p:Addr) (ns:List Str),vs = [.ref p] /\ SqL K H1 p (ns.map V.str) /\ ns.length < 4000 /\ ∀ ks:List Str,ks.Nodup->(∀ z,z ∈ ks ↔ z ∈ ns)->Q ks H1
theorem zOg (K:PySem.W.Frag) (hc:X.calm = true) (hm:X.mg "set" = none) (he:PE X e te) (hK:X.K = K:=by rfl) (hg:Gl X "set":=by rfl) (hs:starEach [e] X.env = [(false,eval e X.env)]:=by rfl):PSS X (.Call (.Name "set" p) [e] [] pos) (tSetT K te):=by
 subst hK
 intro pins s σ H Q I h
 refine wpAny_Call_Name_kw (zA9 I hg hm zT8 ?_)
 have ha:PA X [e] (xK te tNil):=zA he zF hs
 refine PyProof.Rows.callWith_type1 (thn (ha pos pins s σ H _ I h) λus s1 ⟨vs,H1,I1,r1,q1⟩=>?_) hs rfl
 obtain ⟨l,ns,e1,hq,h4,q⟩:=q1
 subst e1
 cases r1 with
 | cons r rr =>
  cases rr
  cases r
  obtain ⟨its,rv,pl,hz⟩:=I1.list hq
  have hi:StrsAre its ns:=Ts.strs_of rv
  have hl:=zKu hi
  refine zLw (knd:=PySem.strKind X.prog X.w) (dec:=decS) zQc (λi=>ns.getD i "") (I1.ok.hd hc) pl.isList (λi v hv=>?_) (by rw [size_toArray,hl]; show ns.length + 1 < 4096; omega) λh' tk g k=>?_
  ·obtain ⟨t,rfl⟩:=zN6 hi (by rw [getElem?_toArray] at hv; exact hv)
   exact ⟨PySem.strKind_is _ _ _ _,rfl⟩
  ·have I2:=I1.kept (h':=h') (t':=tk) λb o e=>k b o (lt_size e) e
   obtain ⟨_,_,_,_,_,_,_,_,_,nd,_⟩:=id g
   refine ⟨_,_,H1,rfl,I2,g,I1.fpOk (Nat.le_refl _) (I1.hok.fresh (Nat.le_refl _)),q _ nd λz=>?_⟩
   rw [zJy,size_toArray,hl]
   constructor
   ·rintro ⟨j,hj,rfl⟩
    rw [getD_eq_getElem?_getD,List.getElem?_eq_getElem hj]
    exact getElem_mem hj
   ·intro hz
    obtain ⟨j,hj,e⟩:=getElem_of_mem hz
    exact ⟨j,hj,by rw [getD_eq_getElem?_getD,List.getElem?_eq_getElem hj]; exact e⟩
def tXorT (ta tb:TSS):TSS:=λσ H Q=>ta σ H λks H1=>ks.length < 64 /\ tb σ H1 λjs H2=>js.length < 64 /\ ∀ rs:List Str,rs.Nodup->(∀ z,z ∈ rs ↔ ((z ∈ ks /\ z ∉ js) \/ (z ∉ ks /\ z ∈ js)))->Q rs H2
theorem pss_xor (ha:PSS X a ta) (hb:PSS X b tb):PSS X (.BinOp a .BitXor b pos) (tXorT ta tb):=by
 intro pins s σ H Q I h
 refine wpAny_BinOp (thn (ha pins s σ H _ I h) λu s1 ⟨p,ks,H1,e,I1,g,fo,hl,h1⟩=>?_)
 subst e
 obtain ⟨o,es,ep,t,go,gx,gd,_⟩:=id g
 have I1':=I1.pinned (fp:=[p]) (λb hb=>by rw [mem_singleton.mp hb]; exact fo) (λb hb=>by
  rw [mem_singleton.mp hb]
  exact ⟨o,go,λv z=>by rw [gd] at z; cases z⟩)
 refine thn (hb _ s1 σ H1 _ I1' h1) λu2 s2 ⟨p2,js,H2,e2,I2,g2,fo2,hl2,q2⟩=>?_
 subst e2
 have pm:(p,o) ∈ X.pn ++ (pins ++ zD8 [p] s1.heap):=mem_append_right _ (mem_append_right _ (uH (mem_singleton.mpr rfl) go))
 have kp:s2.heap.get? p = some o:=(I2.pin (p,o) pm).1
 have g1:=g.keep (h':=s2.heap) λo' e'=>by rw [go] at e'; cases e'; exact kp
 have I3:=I2.unpinned
 refine zS0 zQc (λk v hk b z=>?_) g1 g2 (Nat.le_of_lt_succ hl) (Nat.le_of_lt_succ hl2) λh' kr g3 m k=>?_
 ·obtain ⟨t,rfl⟩:=zG0 hk
  cases z
 ·have I4:=I3.kept (h':=h') (t':=s2.toks) λb o e=>k b o (lt_size e) e
  obtain ⟨_,_,_,_,_,_,_,_,_,nd,_⟩:=id g3
  exact ⟨_,kr,H2,rfl,I4,g3,I3.fpOk (Nat.le_refl _) (I3.hok.fresh (Nat.le_refl _)),q2 kr nd m⟩
def zS3 (ts:TSS):TE:=λσ H Q=>ts σ H λks H1=>ks.length < 64 /\ ∀ l:Addr,H1 l = none->Q (.ref l) (upd H1 l (.lst ((Ts.ssort ks).map V.str)))
theorem zKn:∀ {vs:List Value},(∀ v ∈ vs,∃ k,(PySem.strKind P w).is k v = true)->StrsAre vs (vs.map decS)
 | [],_=>.nil
 | v :: vs,h=>by
  obtain ⟨k,hk⟩:=h v mem_cons_self
  obtain ⟨t,rfl⟩:=zG0 hk
  exact .cons k t (zKn (P:=P) (w:=w) λu hu=>h u (mem_cons_of_mem _ hu))
theorem zL9 {xs:List Str} (p:xs.Perm ks) (h:sortedS xs = true):xs = Ts.ssort ks:=Ts.perm_uniq (r:=λa b=>Ts.sleb a b = true) (λ_ _=>Ts.sleb_anti) (p.trans (Ts.ssort_perm ks).symm) (Ts.sortedS_pw h) (Ts.ssort_pw ks)
theorem zN0 (hc:X.calm = true) (I:Inv X pins σ H s) (g:Good (PySem.strKind X.prog X.w) decS (yL X.w) s.heap a ks) (h64:ks.length < 64)
  (q:∀ l:Addr,H l = none->Q (.ref l) (upd H l (.lst ((Ts.ssort ks).map V.str)))):wpAny (model X.prog X.w) X.A (call (.builtin "sorted") [.ref a]) (EP X pins σ Q) X.xe s:=by
 obtain ⟨o,es,ep,t,ho,hx,hd,hel,hp,nd,hb,hf,tb⟩:=g
 have hsz:es.size = ks.length:=by rw [<- hp.length_eq,length_map,length_toList]
 refine PySem.Calls.call_function_entry kind_sorted plain_sorted entry_sorted (args_sorted1 _) ?_
 unfold Builtin.«sorted»
 refine wpAny_bind (m:=checkCount "sorted" 1 1 _) (wpAny_pure ?_)
 refine wpAny_bind (zEz (A:=X.A.in1) (I.ok.hd hc) ho hx hd hf tb (fits_of_scanBound hb) λh' tk d acc hkeep hacc=>?_)
 have I':Inv X pins σ H { s with heap:=h',toks:=tk,drawn:=d }:=(I.kept (h':=h') (t':=tk) hkeep).drew d
 have hI:StrsAre acc (acc.map decS):=zKn (P:=X.prog) (w:=X.w) λv hv=>by
  obtain ⟨e,he,rfl⟩:=mem_map.mp (hacc.mem_iff.mp hv)
  obtain ⟨⟨k,hk,_⟩,_⟩:=hel e he
  exact ⟨k,hk⟩
 have hpk:(acc.map decS).Perm ks:=by
  refine (hacc.map decS).trans ?_
  rw [map_map]
  exact hp
 have hal:acc.length = ks.length:=by rw [<- hpk.length_eq,length_map]
 have hsl:acc.length <= sizeLine:=by rw [hal]; exact Nat.le_of_lt (Nat.lt_trans h64 (by decide))
 refine wpAny_bind (wpAny_newList ?_ hsl)
 have hoL:(h'.push (seqObj "list" acc.toArray 0)).get? h'.objs.size = some (seqObj "list" acc.toArray 0):=get?_push_size _ rfl
 refine wpAny_bind (wpAny_holding (wpAny_call_entry slot_list_sort ⟨_,hoL,rfl⟩ entry_list_sort (list_sort_treeK strKind_oneLt hoL hI.keysOf (λv₁ v₂ rest e=>keyKind_strs (by rw [<- e]; exact hI)) (by omega) λst' sp sh=>⟨_,rfl,?_⟩) (args_list_sort _)))
 obtain ⟨ss',a1,a2,a3⟩:=sorted_out_str hI sp sh
 refine wpAny_pure ⟨_,rfl,?_⟩
 obtain ⟨e,he⟩:=sortedHeap_at (out:=(arrOf st').map (·.2)) hoL
 have eu:=zL9 (a2.trans hpk) a3
 rw [eu] at a1
 refine ⟨.ref h'.objs.size,_,I'.laid (t':=tk) (o:=.lst ((Ts.ssort ks).map V.str)) (λb ob w=>?_) (Nat.le_refl _) ?_,rfl,q _ (I'.hok.fresh (Nat.le_refl _))⟩
 ·have hb:h'.get? b = some ob:=w
  have hlt:=lt_size hb
  rw [sortedHeap_old (Nat.ne_of_lt hlt) (by rw [size_push']; exact Nat.lt_succ_of_lt hlt),Heap.get?_push_ne _ _ _ (Nat.ne_of_lt hlt)]
  exact hb
 ·refine ⟨?_,((arrOf st').map (·.2)).toList,e,Ts.vals_of_strs a1,?_⟩
  ·rw [length_map,(Ts.ssort_perm ks).length_eq]; omega
  ·rw [toArray_toList]; exact he
theorem zOk (hc:X.calm = true) (hm:X.mg "sorted" = none) (he:PSS X e ts) (hg:Gl X "sorted":=by rfl) (hs:starEach [e] X.env = [(false,eval e X.env)]:=by rfl):PE X (.Call (.Name "sorted" p) [e] [] pos) (zS3 ts):=by
 intro pins s σ H Q I h
 refine wpAny_Call_Name_kw (zA9 I hg hm (by decide +kernel:bootBuiltins "sorted" = some (.builtin "sorted")) ?_)
 refine PyProof.Rows.callWith_builtin1 (Q:=_) ?_ hs rfl
 rw [hs]
 show wpAny _ _ (spliced ((false,eval e X.env) :: backTo pos [])) _ _ s
 refine Calls.spliced_cons (thn (he pins s σ H _ I h) λu s1 ⟨a,ks,H1,e1,I1,g,fo,h64,q⟩=>?_)
 subst e1
 refine Calls.spliced_nil ?_
 exact zN0 hc I1 g h64 q
end
end L2
namespace Ts
open PySem L2
def uxor (ns ms:LI):LI:=zCu (ns.filter (λz=>!decide (z ∈ ms)) ++ ms.filter λz=>!decide (z ∈ ns))
def zNl (ns ms:LI):Option LI:=if ns.length + ms.length < 64 then some (uxor ns ms) else none
def sxor (ns ms:List Str):List Str:=ssort (ns.filter (λz=>!decide (z ∈ ms)) ++ ms.filter λz=>!decide (z ∈ ns))
def zNw (ns ms:List Str):Option (List Str):=if ns.length + ms.length < 64 /\ ns.Nodup /\ ms.Nodup then some (sxor ns ms) else none
theorem zC1 {α:Type} [DecidableEq α] {ns ms:List α} {z:α}:z ∈ ns.filter (λz=>!decide (z ∈ ms)) ++ ms.filter (λz=>!decide (z ∈ ns)) ↔ ((z ∈ ns /\ z ∉ ms) \/ (z ∉ ns /\ z ∈ ms)):=by
 rw [mem_append,mem_filter,mem_filter]
 simp only [Bool.not_eq_true',decide_eq_false_iff_not]
 constructor
 ·rintro (h | h)
  ·exact .inl h
  ·exact .inr ⟨h.2,h.1⟩
 ·rintro (h | h)
  ·exact .inl h
  ·exact .inr ⟨h.2,h.1⟩
theorem xor_len {α:Type} [DecidableEq α] (ns ms:List α):(ns.filter (λz=>!decide (z ∈ ms)) ++ ms.filter (λz=>!decide (z ∈ ns))).length <= ns.length + ms.length:=by
 rw [length_append]
 have:=length_filter_le (λz=>!decide (z ∈ ms)) ns
 have:=length_filter_le (λz=>!decide (z ∈ ns)) ms
 omega
section
variable {K:PySem.W.Frag} {B:Bs} {sl:SL K} {md:Md} {t u:TE}
theorem zM1 (h:Ex B sl .hp t m) (h':Ex B sl .hp u m'):Eo B sl md (zJd (tXorS (zQ3 K t) (zQ3 K u))) (m.bind λa=>m'.bind λb=>zNl a b):=λc hc F O H σ Q s k=>by
 cases m with
 | none=>cases hc
 | some ns =>
  cases m' with
  | none=>cases hc
  | some ms =>
   have hc:zNl ns ms = some c:=hc
   unfold zNl at hc
   split at hc
   case isFalse=>cases hc
   rename_i hl
   cases hc
   refine h ns rfl F O H σ _ s λv F1 H1 g1 r1=>?_
   obtain ⟨p,vs,rfl,z1,z2⟩:=r1
   have z3:vs = ns.map V.int:=z2.vals
   subst z3
   refine ⟨p,ns,rfl,SqL.of z1,by omega,λks nd hm=>⟨Nat.lt_of_le_of_lt (zD0 nd λz hz=>(hm z).mp hz) (by omega),?_⟩⟩
   refine h' ms rfl F1 O H1 σ _ (s.grow g1) λv F2 H2 g2 r2=>?_
   obtain ⟨p',vs',rfl,y1,y2⟩:=r2
   have y3:vs' = ms.map V.int:=y2.vals
   subst y3
   refine ⟨p',ms,rfl,SqL.of y1,by omega,λjs nd' hm'=>⟨Nat.lt_of_le_of_lt (zD0 nd' λz hz=>(hm' z).mp hz) (by omega),λrs ndr hr=>⟨?_,λl xs hn p1 p2=>?_⟩⟩⟩
   ·refine Nat.lt_of_le_of_lt (zD0 (ns:=ns ++ ms) ndr λz hz=>?_) (by rw [length_append]; omega)
    rcases (hr z).mp hz with q | q
    ·exact mem_append_left _ ((hm z).mp q.1)
    ·exact mem_append_right _ ((hm' z).mp q.2)
   ·have e:xs = uxor ns ms:=zC2 (zAu p2 (p1.nodup_iff.mpr ndr)) (zCb _) λz=>by unfold uxor; rw [p1.mem_iff,hr,hm,hm',vV,zC1]
    subst e
    exact k l _ F2 H2 (g1.trans g2) hn (zB6 _)
theorem zKd (h:Ex B sl .hp t m) (h':Ex B sl .hp u m'):Eo B sl md (zS3 (tXorT (tSetT K t) (tSetT K u))) (m.bind λa=>m'.bind λb=>zNw a b):=λc hc F O H σ Q s k=>by
 cases m with
 | none=>cases hc
 | some ns =>
  cases m' with
  | none=>cases hc
  | some ms =>
   have hc:zNw ns ms = some c:=hc
   unfold zNw at hc
   split at hc
   case isFalse=>cases hc
   rename_i hl
   obtain ⟨hl,n1,n2⟩:=hl
   cases hc
   refine h ns rfl F O H σ _ s λv F1 H1 g1 r1=>?_
   obtain ⟨p,vs,rfl,z1,z2⟩:=r1
   have z3:vs = ns.map V.str:=A2.eq_map z2
   subst z3
   refine ⟨p,ns,rfl,SqL.of z1,by omega,λks nd hm=>⟨?_,?_⟩⟩
   ·rw [((perm_ext_iff_of_nodup nd n1).mpr hm).length_eq]; omega
   refine h' ms rfl F1 O H1 σ _ (s.grow g1) λv F2 H2 g2 r2=>?_
   obtain ⟨p',vs',rfl,y1,y2⟩:=r2
   have y3:vs' = ms.map V.str:=A2.eq_map y2
   subst y3
   have ndx:(ns.filter (λz=>!decide (z ∈ ms)) ++ ms.filter λz=>!decide (z ∈ ns)).Nodup:=by
    rw [nodup_append]
    refine ⟨n1.filter _,n2.filter _,λa ha b hb e=>?_⟩
    have h1:=(mem_filter.mp ha).2
    have h2:=(mem_filter.mp hb).1
    rw [<- e] at h2
    simp [h2] at h1
   refine ⟨p',ms,rfl,SqL.of y1,by omega,λjs nd' hm'=>⟨?_,λrs ndr hr=>?_⟩⟩
   ·rw [((perm_ext_iff_of_nodup nd' n2).mpr hm').length_eq]; omega
   ·have pr:rs.Perm (ns.filter (λz=>!decide (z ∈ ms)) ++ ms.filter λz=>!decide (z ∈ ns)):=(perm_ext_iff_of_nodup ndr ndx).mpr λz=>by rw [hr,hm,hm',zC1]
    refine ⟨by rw [pr.length_eq]; exact Nat.lt_of_le_of_lt (xor_len ns ms) hl,λl hn=>?_⟩
    have e:ssort rs = sxor ns ms:=perm_uniq (r:=λa b=>sleb a b = true) (λ_ _=>sleb_anti) (((ssort_perm rs).trans pr).trans (ssort_perm _).symm) (ssort_pw rs) (ssort_pw _)
    rw [e]
    exact k l _ F2 H2 (g1.trans g2) hn (A2.of_map (f:=V.str) (λ_=>rfl) _)
end
section
variable {K:PySem.W.Frag} {B:Bs} {sl:SL K} {md:Md} {t:TE}
instance:Rp K Key:=⟨λ_ v k=>v = kV k,λ_ h=>h⟩
instance:Nn K Key:=⟨λ{_ v a} h=>by cases a <;> (intro e; rw [e] at h; cases h)⟩
instance:Sc K Key:=⟨kV,Iff.rfl,λ{a b} h=>by cases a <;> cases b <;> cases h <;> rfl⟩
def keyI:Key->Option Int
 | .inl i=>some i
 | .inr _=>none
def keyS:Key->Option Str
 | .inl _=>none
 | .inr s=>some s
theorem ex_kI (h:Ex B sl md t m):Ex B sl md t (m.bind λa=>some (Sum.inl a:Key)):=λc hc F O H σ Q s k=>by
 cases m with
 | none=>cases hc
 | some a=>cases hc; exact h a rfl F O H σ Q s k
theorem ex_kS (h:Ex B sl md t m):Ex B sl md t (m.bind λa=>some (Sum.inr a:Key)):=λc hc F O H σ Q s k=>by
 cases m with
 | none=>cases hc
 | some a=>cases hc; exact h a rfl F O H σ Q s k
theorem zCj (h:Ex B sl md t m):Ex B sl md t (m.bind keyI):=λc hc F O H σ Q s k=>by
 cases m with
 | none=>cases hc
 | some a =>
  cases a with
  | inl i=>cases hc; exact h _ rfl F O H σ Q s k
  | inr i=>cases hc
theorem zTy (h:Ex B sl md t m):Ex B sl md t (m.bind keyS):=λc hc F O H σ Q s k=>by
 cases m with
 | none=>cases hc
 | some a =>
  cases a with
  | inl i=>cases hc
  | inr i=>cases hc; exact h _ rfl F O H σ Q s k
end
end Ts
namespace L2
open PySem PySem.Spec PyProof.Rows
section
variable {X:Cx} {pins:List (Addr × Obj)} {σ:St} {H:Hp} {s:Shared}
theorem Inv.frzD (I:Inv X pins σ H s) (hH:H a = some (.dK ks)):∃ o,Inv X pins σ (upd H a (.frz o (.dK ks))) s:=by
 have ok:ObjOk X.prog X.w H s.heap a (.dK ks):=I.hok a _ hH
 obtain ⟨_,_,vs,_,o,es,ep,e,_⟩:=id ok
 exact ⟨o,I.write (t':=s.toks) (h':=s.heap) (x:=a) (e:=a) (o:=.frz o (.dK ks)) (by rw [hH]; trivial) (.inl rfl) (λb u _ q=>q) ⟨o,e⟩ ⟨e,ok⟩⟩
def tFrz (i:Nat) (t:TS):TS:=λD σ H=>∃ (a:Addr) (ks:List (Key × V)),σ[i]? = some (some (.ref a)) /\ H a = some (.dK ks) /\ ∀ o,t D σ (upd H a (.frz o (.dK ks)))
end
def Itdz (a:Addr) (o:Obj) (ks:List (Key × V)):It:=⟨λi H=>i < ks.length /\ H a = some (.frz o (.dK ks)),λi H x H'=>H' = H /\ ∃ k v,ks[i]? = some (k,v) /\ x = kV k,λi H=>ks.length <= i /\ H a = some (.frz o (.dK ks))⟩
theorem zB4 (ok:HOk P w H h) (e:H a = some (.frz o (.dK ks))) (hep:∃ es,o.data = .dict es ep):(a == sysModules) = false /\ ∃ vs,KV ks vs /\ h.DictAt (xZ P w) a vs ep:=by
 obtain ⟨e1,_,lo,vs,r,o',es,ep',e2,e3,e4,e5⟩:=(show ObjOk P w H h a (.frz o (.dK ks)) from ok a _ e)
 have eo:o = o':=Option.some.inj (e1.symm.trans e2)
 subst eo
 obtain ⟨es',h'⟩:=hep
 have ee:Data.dict es ep' = Data.dict es' ep:=e4.symm.trans h'
 cases ee
 exact ⟨lo,vs,r,o,es,e2,e3,e4,e5⟩
theorem key_rel (h:(xZ P w).is k u = true):RelV (kV k) u:=by
 rcases xB (k:=k) (v:=u) h with ⟨i,t,rfl,rfl⟩ | ⟨x,t,rfl,rfl⟩
 ·exact ⟨t,rfl⟩
 ·exact ⟨t,rfl⟩
theorem KV.len {ks:List (Key × V)} {vs:List (Key × Value)} (r:KV ks vs):vs.length = ks.length:=r.length.symm
theorem zNq {P:Program} {w:World} {K:PySem.W.Frag} {tg:Expr} (a it:Addr) (o:Obj) (ks:List (Key × V)) (ep:Nat) (hep:∃ es,o.data = .dict es ep):Turn P w K tg (Itdz a o ks) [it] it (λi h=>h.IsKeyIter it a i ks.length ep) where
 mem:=mem_singleton.mpr rfl
 obj:=λi h st b hb=>by
  have e:b = it:=mem_singleton.mp hb
  subst e
  obtain ⟨o,ho,hc,hd⟩:=st
  refine ⟨o,ho,λv z=>?_⟩
  rw [hd] at z
  cases z
 keep:=λi h h' st k=>by
  obtain ⟨o,ho,r⟩:=st
  exact ⟨o,k it (mem_singleton.mpr rfl) _ ho,r⟩
 item:=by
  intro X hP hw hK hc i pins s σ H E I hf st hg
  subst hP hw hK
  obtain ⟨hi,e⟩:=hg
  obtain ⟨_,vs,r,dd⟩:=zB4 I.hok e hep
  obtain ⟨f0,f1,f2,f3,f4,f5⟩:=hf it (mem_singleton.mpr rfl)
  have l:=r.len
  have hx:vs[i]? = some vs[i]:=List.getElem?_eq_getElem (by omega)
  have key:(ks.map (·.1))[i]? = some vs[i].1:=by rw [r.key_at,getElem?_map,hx]; rfl
  rw [getElem?_map,List.getElem?_eq_getElem hi] at key
  have key:ks[i].1 = vs[i].1:=Option.some.inj key
  refine wpAny_pyNext_dict_item (k:=vs[i].1) (v:=vs[i].2) (by rw [l]; exact st) dd hx λu h' hu st' sb=>?_
  have I1:Inv X pins σ H { s with heap:=h' }:=I.turned (t':=s.toks) (λb o hb e=>(sb.2 b hb).trans e) f0 f1 f3 f4 f5
  rw [l] at st'
  obtain ⟨o',ho',hc',hd'⟩:=id st'
  exact ⟨u,rfl,zPr (s:={ s with heap:=h' }) ho' hc' hd' (by decide) ⟨kV vs[i].1,H,I1,key_rel hu,⟨rfl,ks[i].1,ks[i].2,List.getElem?_eq_getElem hi,by rw [key]⟩,st',λb hb=>(hf b hb).1⟩⟩
 done:=by
  intro X hP hw hK hc i pins s σ H E I hf st hg
  subst hP hw hK
  obtain ⟨hi,e⟩:=hg
  obtain ⟨_,vs,r,dd⟩:=zB4 I.hok e hep
  obtain ⟨f0,f1,f2,f3,f4,f5⟩:=hf it (mem_singleton.mpr rfl)
  have l:=r.len
  exact wpAny_pyNext_dict_end (I.ok.hd hc) (by rw [l]; exact st) dd (List.getElem?_eq_none (by omega)) λh' eb=>⟨rfl,I.turned (t':=s.toks) (λb o hb e=>eb b o hb e) f0 f1 f3 f4 f5⟩
 self:=λ_ _ _ _ _ st h=>wpAny_pyIter_keyiter st h
section
variable {X:Cx} {tg:Expr}
def iDz (tl:TE):TI:=λσ H R=>tl σ H λx H1=>∃ (a:Addr) (o:Obj) (ks:List (Key × V)),x = .ref a /\ H1 a = some (.frz o (.dK ks)) /\ R (Itdz a o ks) H1
theorem pi_dict (hl:PE X l tl):PI X tg l (iDz tl):=by
 intro pins s σ H R I h
 refine thn (hl pins s σ H _ I h) λv s1 ⟨x,H1,I1,r1,q1⟩=>?_
 obtain ⟨a,o,ks,e,hH,q⟩:=q1
 subst e
 cases r1
 have ok:ObjOk X.prog X.w H1 s1.heap a (.frz o (.dK ks)):=I1.hok a _ hH
 obtain ⟨e1,_,_,_,_,o',es,ep,e2,_,e4,_⟩:=id ok
 have eo:o = o':=Option.some.inj (e1.symm.trans e2)
 subst eo
 obtain ⟨lo,vs,r,dd⟩:=zB4 I1.hok hH ⟨es,e4⟩
 have l:=r.len
 refine wpAny_pyIter_dict lo dd ⟨s1.heap.objs.size,[s1.heap.objs.size],_,_,H1,rfl,I1.kept (t':=s1.toks) λb o e=>get?_push_of_some _ e,zNq a _ o ks ep ⟨es,e4⟩,⟨_,get?_push_size _ rfl,rfl,by rw [l]; rfl⟩,λb hb=>?_,q⟩
 have e:b = s1.heap.objs.size:=mem_singleton.mp hb
 subst e
 exact I1.fpOk (Nat.le_refl _) (I1.hok.fresh (Nat.le_refl _))
end
end L2
namespace Ts
open PySem L2
structure Dz (α:Type) where
 kv:List (Key × α)
section
variable {K:PySem.W.Frag} {α:Type} [Rp K α] {B:Bs} {sl:SL K} {md:Md} {t t2:TE} {u:TS} {S:Type}
instance:Rp K (Dz α):=⟨λF v d=>∃ p ks o,v = .ref p /\ F p = some (.frz o (.dK ks)) /\ A2 (DR K F) ks d.kv,λs ⟨p,ks,o,h1,h2,h3⟩=>⟨p,ks,o,h1,s _ _ h2,h3.imp λ_ _ z=>⟨z.1,Rp.mono s z.2⟩⟩⟩
theorem reg_leM (k:Ok B F' O H') (md:Md):Same (reg B F' H' md) H':=match md with
 | .nw=>dif_le.trans k.fh
 | .fz=>k.fh
 | .hp=>.refl _
end
end Ts
namespace L2
open PySem PySem.Spec PyProof.Rows
section
variable {X:Cx}
theorem pss_frz (i:Nat) (h:PSs X ss t):PSs X ss (tFrz i t):=by
 intro pins s σ H D I hq
 obtain ⟨a,ks,_,e2,q⟩:=hq
 obtain ⟨o,I'⟩:=I.frzD e2
 exact h pins s σ _ D I' (q o)
end
end L2
namespace Ts
open PySem L2
section
variable {K:PySem.W.Frag} {α:Type} [Rp K α] {B:Bs} {sl:SL K} {md:Md} {t t2 te:TE} {u:TS} {S:Type}
instance:Nn K (Dz α):=⟨λ⟨_,_,_,h,_⟩=>by rw [h]; intro e; cases e⟩
theorem sb_frz [Sc K α] {β:Type} [Rp K β] {kvs:List (Key × α)} {al:Bool} {m:Option β} (i:Nat) (hs:sl[i]? = some (.od kvs)) (hh:sl.all (λs=>!isHs s) = true) (h:SB B (sl.set i (.fz true (Dz.mk kvs))) u al m):SB B sl (tFrz i u) al m:=λa ha G D σ H q k=>by
 obtain ⟨F,O,g,k0,z0⟩:=q
 obtain ⟨O1,O2,p,ks,rfl,h1,h2,_,h4⟩:=z0.od_at hs
 obtain ⟨a1,a2,a3⟩:=k0.one
 refine ⟨p,ks,h1,a3,λo=>h a ha G D σ _ ⟨upd F p (.frz o (.dK ks)),O1 ++ O2,g.trans (same_new a1 _),(k0.chg (.frz o (.dK ks))).freeze,?_⟩ k⟩
 have z:=h4 .un (some (.ref p)) λ_ _ _ y=>.un y
 rw [vO h1] at z
 have z2:SlotsOk B F (lo F (O1 ++ (p,.frz o (.dK ks)) :: O2) (upd H p (.frz o (.dK ks)))) (upd H p (.frz o (.dK ks))) (sl.set i .un) σ (O1 ++ O2):=z.mut zPc (zHe rfl hh)
 have sf:Same F (upd F p (.frz o (.dK ks))):=same_new a1 _
 have z3:=z2.mono sf (lo_freeze (p:=p) (o:=.frz o (.dK ks))) (.refl _)
 have hi:i < sl.length:=(List.getElem?_eq_some_iff.mp hs).1
 have z4:=z3.put (i:=i) (s:=.un) (s':=.fz true (Dz.mk kvs)) (x:=some (.ref p)) (λ_ _ _ y=>.fz (show ∃ p' ks' o',V.ref p = .ref p' /\ dif (upd F p (.frz o (.dK ks))) B.H0 p' = some (.frz o' (.dK ks')) /\ A2 (DR K (dif (upd F p (.frz o (.dK ks))) B.H0)) ks' kvs from ⟨p,ks,o,rfl,(xU a2).trans zR,h2.imp λ_ _ z=>⟨z.1,zRh z.2⟩⟩) y) (by rw [getElem?_set_self hi]) rfl
 rw [set_set,vO h1] at z4
 exact z4
theorem zPw {m:Option (Dz α)} {m2:Option Int} (h:Ex B sl md t m) (h2:Ex B sl .hp t2 m2):Ex B sl md (tDGet t t2) (m.bind λd=>m2.bind λk=>dget d.kv k):=λc hc F O H σ Q s kk=>by
 obtain ⟨d,k,e1,e2,e3⟩:=zDa hc
 refine h d e1 F O H σ _ s λv F' H' g r1=>?_
 refine h2 k e2 F' O H' σ _ (s.grow g) λw F2 H2 g2 r2=>?_
 cases r2
 obtain ⟨p,ks,o,rfl,z1,z2⟩:=r1
 have hle:=(reg_leM g.ok md).trans g2.hh
 have e3:gK d.kv (Sum.inl k) = some c:=e3
 rcases z2.val (k:=Sum.inl k) with ⟨q1,q2⟩ | ⟨a,v,q1,q2,q3⟩
 ·rw [q1] at e3
  cases e3
 ·rw [q1] at e3
  cases e3
  exact ⟨p,v,rfl,.inl ⟨ks,Sum.inl k,.inr ⟨o,hle _ _ z1⟩,rfl,q2.symm⟩,kk v F2 H2 (g.trans g2) (Rp.mono (xG g2 md) q3)⟩
theorem ei_dzI {n:Bool} {m:Option (Dz α)} (h:Ex B sl .fz t m):Ei B sl n (iDz t) (m.bind λd=>zFk d.kv):=λxs hx F O H σ R a k=>by
 cases m with
 | none=>cases hx
 | some d =>
  have hx:zFk d.kv = some xs:=hx
  have hk:=zLe hx
  have hl:xs.length = d.kv.length:=by have:=congrArg length hk; rw [length_map,length_map] at this; exact this.symm
  refine h d rfl F O H σ _ a λv F' H' gr r=>?_
  obtain ⟨p,ks,o,rfl,z1,z2⟩:=r
  have z1:F' p = some (.frz o (.dK ks)):=z1
  refine ⟨p,o,ks,rfl,gr.ok.fh _ _ z1,k _ F' H' gr λi F2 O2 H2 sf k2=>?_⟩
  have hq:H2 p = some (.frz o (.dK ks)):=k2.fh _ _ (sf _ _ z1)
  have hl2:=z2.len
  refine ⟨λq=>⟨by omega,hq⟩,λx hx=>?_⟩
  have il:=yA hx
  have e1:d.kv[i]? = some d.kv[i]:=List.getElem?_eq_getElem (by omega)
  have e0:(d.kv[i]).1 = Sum.inl x:=by
   have:=congrArg (λl=>l[i]?) hk
   rw [getElem?_map,getElem?_map,e1,hx] at this
   exact Option.some.inj this
  obtain ⟨y,e2,e3⟩:=z2.at2 e1
  refine ⟨⟨(List.getElem?_eq_some_iff.mp e2).1,hq⟩,λv H3 yd=>?_⟩
  obtain ⟨rfl,k',v',y1,rfl⟩:=yd
  have:=e2.symm.trans y1
  cases this
  have e4:k' = Sum.inl x:=e3.1.trans e0
  subst e4
  exact ⟨F2,.refl k2,rfl⟩
structure LNe where
 u:Unit
instance:Rp K LNe:=⟨λF v _=>∃ p vs,v = .ref p /\ F p = some (.lst vs) /\ vs ≠ [],λs ⟨p,vs,h1,h2,h3⟩=>⟨p,vs,h1,s _ _ h2,h3⟩⟩
theorem zMa {β:Type} [Rp K β] {xs:List (List α)} {m:Option β} {m2:Option Int} (i:Nat) (hs:sl[i]? = some (.nu xs)) (hn:(sl.set i .un).all (λs=>!zEm s) = true) (h2:Ex B sl .hp t2 m2) (h:Ex B sl .hp te m) :
  Sn B sl (zHm (tBM K "list" zD5 (tOp (rIxL K) (tVar i) t2) (xK te tNil))) (λa=>sl.set i (.nu a)) (m2.bind λj=>(L2.atI xs j).bind λys=>m.bind λ_=>if ys.length < cap then some (LNe.mk ()) else none):=λn ha G D σ H s k=>by
 cases m2 with
 | none=>cases ha
 | some j =>
  cases e1:L2.atI xs j with
  | none=>simp [e1] at ha
  | some ys =>
   cases m with
   | none=>simp [e1] at ha
   | some b =>
    simp only [e1,Option.bind_some] at ha
    split at ha
    case isFalse=>cases ha
    rename_i hl
    cases ha
    obtain ⟨F,O,g,z⟩:=s
    obtain ⟨v,y1,p,vs,rfl,y2,y3⟩:=z.2.nu_at hs
    obtain ⟨a1,a2,a3,a4⟩:=zCg y2
    refine ⟨_,y1,h2 j rfl F O H σ _ z λw F2 H2 g2 r2=>?_⟩
    cases r2
    obtain ⟨u,e2,q,ws,rfl,e3,e4⟩:=y3.atI e1
    obtain ⟨b1,b2,b3,b4⟩:=zCg e3
    have vne:vs ≠ []:=λq=>by
     have l:=y3.len
     rw [q] at l
     have:xs = []:=length_eq_zero_iff.mp l.symm
     rw [this] at e1
     unfold L2.atI ixN at e1
     split at e1 <;> (split at e1 <;> simp at e1)
    refine ⟨p,vs,j,.ref q,rfl,rfl,SqL.of (g2.hh _ _ a4),e2,.inl ⟨rfl,ws,SqL.of (g2.hh _ _ b4)⟩,?_⟩
    refine h b rfl F2 O H2 σ _ (z.grow g2) λx F3 H3 g3 r3=>?_
    have g23:=g2.trans g3
    have q1:=g23.nw q b1 (by rw [b4]; intro z; cases z)
    have p1:=g23.nw p a1 (by rw [a4]; intro z; cases z)
    have b4':=g23.hh _ _ b4
    refine ⟨q,ws,x,rfl,rfl,b4',zDj (by rw [e4.len]; exact hl),k _ _ ⟨F3,O,g.trans g23.ff,g23.ok.poke q1 b2 b3,?_⟩⟩
    have z3:=(z.grow g23).2
    have hlp:∃ us,(upd H3 q (.lst (ws ++ [x]))) p = some (.lst us) /\ us ≠ []:=by
     by_cases e:p = q
     ·subst e; exact ⟨_,zR,by simp⟩
     ·exact ⟨vs,by rw [zQ e]; exact g23.hh _ _ a4,vne⟩
    obtain ⟨us,hus,hul⟩:=hlp
    have z4:SlotsOk B F3 (lo F3 O (upd H3 q (.lst (ws ++ [x])))) (upd H3 q (.lst (ws ++ [x]))) (sl.set i .un) σ O:=(zKq z3 hs rfl).calm hn
    have hi:i < sl.length:=(List.getElem?_eq_some_iff.mp hs).1
    have rl:rp K (dif (lo F3 O (upd H3 q (.lst (ws ++ [x])))) B.H0) (.ref p) (LNe.mk ()):=⟨p,us,rfl,by rw [xU a2,zIf p1 a3]; exact hus,hul⟩
    have z5:=z4.put (i:=i) (s:=.un) (s':=.nu (LNe.mk ())) (x:=some (.ref p)) (λ_ _ _ y=>.nu rl y) (by rw [getElem?_set_self hi]) rfl
    rw [set_set,vO y1] at z5
    exact z5
theorem zRc {l:LNe} (i:Nat) (hs:sl[i]? = some (.nu l)) (hn:(sl.set i .un).all (λs=>!zEm s) = true):Sn B sl (zHm (tBM0 K "list" rPop (tVar i))) (λ_:Unit=>sl.set i .un) (some ()):=λn ha G D σ H s k=>by
 obtain ⟨F,O,g,z⟩:=s
 obtain ⟨v,y1,p,vs,rfl,y2,y3⟩:=z.2.nu_at hs
 obtain ⟨a1,a2,a3,a4⟩:=zCg y2
 have vl:=length_pos_iff.mpr y3
 refine ⟨_,y1,.inl ⟨rfl,vs,SqL.of a4⟩,p,vs,vs[vs.length - 1],rfl,rfl,a4,List.getElem?_eq_getElem (by omega),k _ _ ⟨F,O,g,z.1.poke a1 a2 a3,?_⟩⟩
 exact (zKq z.2 hs rfl).calm hn
end
def top (i:Nat):Stmt:=PySem.Challenge.pw_treesay_k62_partings_fall.main.body.getD i (.Pass ⟨0,0,0,0⟩)
abbrev s_is_stand:Stmt:=top 11
abbrev s_check_stands:Stmt:=top 12
abbrev s_check_steps:Stmt:=top 13
abbrev s_is_name:Stmt:=top 14
abbrev s_check_marks:Stmt:=top 15
abbrev s_check_fair:Stmt:=top 16
abbrev s_copied:Stmt:=top 17
abbrev zDt:Stmt:=top 18
abbrev sInit:Stmt:=zG3 (top 19) 0
abbrev s_Machine_many:Stmt:=zG3 (top 19) 1
abbrev s_Machine_next_of:Stmt:=zG3 (top 19) 2
abbrev s_Machine_names_at:Stmt:=zG3 (top 19) 5
abbrev s_everywhere:Stmt:=top 21
abbrev s_unshared:Stmt:=top 22
abbrev s_numbered:Stmt:=top 24
abbrev s_fair_numbers:Stmt:=top 25
abbrev s_first_numbers:Stmt:=top 26
abbrev s_numbers_of:Stmt:=top 27
abbrev s_finer_numbers:Stmt:=top 28
abbrev s_numberings:Stmt:=top 29
abbrev s_class_numbers:Stmt:=top 30
abbrev s_stands_of_numbers:Stmt:=top 31
abbrev s_classes:Stmt:=top 32
abbrev s_sight_reason:Stmt:=top 33
abbrev s_steps_aside:Stmt:=top 34
abbrev s_step_reason:Stmt:=top 35
abbrev s_parting:Stmt:=top 36
abbrev s_partings:Stmt:=top 37
abbrev s_l_cell_at:Stmt:=top 39
abbrev s_l_mixed:Stmt:=top 40
abbrev s_l_name_by:Stmt:=top 41
abbrev s_l_some_of:Stmt:=top 42
abbrev s_l_steps_by:Stmt:=top 43
abbrev s_l_sets_by:Stmt:=top 44
abbrev s_l_maps_by:Stmt:=top 45
abbrev s_l_parts_by:Stmt:=top 46
abbrev s_l_machine:Stmt:=top 47
abbrev s_l_whole:Stmt:=top 48
abbrev s_l_class_numbers:Stmt:=top 49
abbrev s_l_formed:Stmt:=top 50
abbrev s_l_earlier:Stmt:=top 51
abbrev s_l_holds:Stmt:=top 52
abbrev s_l_right:Stmt:=top 53
abbrev s_law:Stmt:=top 54
section
variable {P:Program} {w:World} {K:PySem.W.Frag} {mg:Str->Option Value} {base:Heap}
def spSo (K:PySem.W.Frag):Sp:=λvs H Q _=>∃ (a:Addr) (bs:List Addr) (xss:List LI),vs = [.ref a] /\ SqL K H a (bs.map V.ref) /\ RowsR K H bs xss /\ xss.length <= 60 /\ zSy xss.length xss /\
 ∀ (r:Addr) (cs:List Addr) (H':Hp),Same H H'->H r = none->H' r = some (.lst (cs.map V.ref))->cs.length = xss.length->RowF H' cs (src xss)->(∀ c ∈ cs,H c = none)->Q (.ref r) H'
theorem scSo:FnScope ["steps","sources","stand","targets","target"] ["steps"] (zK zDt):=⟨rfl,rfl,rfl,by decide +kernel,rfl,by decide +kernel,by decide +kernel⟩
theorem ndSd:(["stand"]:List Str).Nodup:=by decide +kernel
theorem nd_inj {cs:List Addr} (nd:cs.Nodup) {i j:Nat} {c:Addr} (h1:cs[i]? = some c) (h2:cs[j]? = some c):i = j:=by
 obtain ⟨k1,e1⟩:=List.getElem?_eq_some_iff.mp h1
 obtain ⟨k2,e2⟩:=List.getElem?_eq_some_iff.mp h2
 exact (getElem_inj nd).mp (e1.trans e2.symm)
theorem RowF.put {row':Nat->LI} (r:RowF H cs row) (nd:cs.Nodup) (hc:cs[j]? = some c) (e:row' j = xs) (e':∀ k,k ≠ j->row' k = row k):RowF (upd H c (.lst (xs.map V.int))) cs row':=λk d hd=>by
 by_cases hk:k = j
 ·subst hk
  rw [hc] at hd
  cases hd
  rw [zR,e]
 ·rw [zQ (λz=>hk (nd_inj nd hd (by rw [z]; exact hc))),e' k hk]
  exact r k d hd
theorem ok_so (F:Fun K "sources_of" "sources_of" zDt f fd) (B:Bl K mg):FnOk P w K mg base CX0 1 f fd ["steps"] (spSo K):=by
 refine F.ok scSo (λvs H Q E h=>?_) (λcdv A outer s H vs Q E hr h=>?_)
 ·obtain ⟨a,bs,xss,rfl,_⟩:=h
  rfl
 obtain ⟨a,bs,xss,rfl,hS,hR,h60,hV,q⟩:=h
 have hbl:(bs.map V.ref).length = xss.length:=by rw [length_map]; exact hR.1
 refine ⟨_,zC (zD7 (i:=1) (own:=["stand"]) (ix:=[]) scSo.nd rfl rfl rfl rfl rfl (zJl (pv 0)) (λC s H fp=>yK (i:=0) ndSd rfl (Or.inl rfl)) (λC s H fp=>wN) (λC s H fp=>wG zF))
  (zC (xH PassesOwn.never rfl (zOj rfl B.enum (zA (pv 0) zF)) (zAz rfl (zY (yK (i:=2) scSo.nd rfl (Or.inl rfl)) (zY (yK (i:=3) scSo.nd rfl (Or.inl rfl)) wO)))
   (zCx (xH PassesOwn.never rfl (zJl (pv 3)) (yK (i:=4) scSo.nd rfl (Or.inl rfl))
    (zCx (yN (pe_bm PySem.F.plainAttrs_list PySem.F.slot_list_append PySem.F.type_list_append yQ (yD zPj (pv 1) (pv 4) (λ_ _=>rfl)) (zA (pv 2) zF)))))))
  (zCx (zT (pv 1)))),?_⟩
 refine ⟨_,rfl,a,rfl,⟨_,hS⟩,zIr (K:=K) (a:=a) (xs:=bs.map V.ref) (λi ys σ H2=>∃ (cs:List Addr) (v:Option V),ys = cs.map V.ref /\ σ = [v] /\ Same H H2 /\ News H H2 cs (replicate i []) /\ cs.length = i)
  ⟨[],none,rfl,rfl,Same.refl H,News.nil,rfl⟩ (λi ys σ H2 _ ⟨cs,v,e,_,s2,_,hi⟩=>⟨s2.seq hS,by rw [e,length_map,hi]; exact Nat.le_refl _⟩) (zHs (by omega)) ?_ ?_⟩
 ·rintro i y ys σ H2 hi ⟨cs,v,rfl,rfl,s2,hN,hci⟩
  refine zR1 ?_
  refine ⟨(by show 0 <= sizeLine; decide),λl hl'=>?_⟩
  refine ⟨cs ++ [l],_,by rw [map_append] <;> rfl,rfl,s2.trans (same_new hl' _),?_,by rw [length_append,hci] <;> rfl⟩
  have e:replicate (i + 1) ([]:List V) = replicate i [] ++ [[]]:=List.replicate_succ'
  rw [e]
  exact hN.snoc s2 hl'
 rintro ys σ H2 ⟨cs,v,rfl,rfl,s2,hN,hci⟩ r hr0
 have hcl:cs.length = xss.length:=by rw [hci,hbl]
 have s3:Same H (upd H2 r (.lst (cs.map V.ref))):=s2.trans (same_new hr0 _)
 have hrH:H r = none:=s2.free hr0
 have nrc:r ∉ cs:=hN.notin hr0
 have R0:RowF (upd H2 r (.lst (cs.map V.ref))) cs (src (xss.take 0)):=λj c hc=>by
  obtain ⟨xs,h1,h2⟩:=hN.at_ j c hc
  have e:xs = []:=by
   rw [getElem?_replicate] at h1
   split at h1
   ·exact (Option.some.inj h1).symm
   ·cases h1
  subst e
  rw [zQ (λz=>nrc (by rw [<- z]; exact mem_of_getElem? hc)),h2]
  rfl
 refine ⟨_,rfl,a,rfl,⟨_,s3.seq hS⟩,zSf (K:=K) (a:=a) (xs:=bs.map V.ref) (λi σ H4=>∃ u v t,σ = [some (.ref a),some (.ref r),u,v,t] /\ Same H H4 /\ H4 r = some (.lst (cs.map V.ref)) /\ RowF H4 cs (src (xss.take i)))
  ⟨none,none,none,rfl,s3,zR,R0⟩ (λi σ H4 _ ⟨_,_,_,_,s4,_⟩=>s4.seq hS) ?_ ?_⟩
 ·rintro i x t σ H4 hi ht ⟨u,v,t',rfl,s4,hr4,R4⟩
  obtain ⟨b,rfl,hb⟩:=zOd hi
  obtain ⟨xs,hx,hsq⟩:=hR.2 i b hb
  obtain ⟨ne,nd,len,vr⟩:=hV.2 xs (mem_of_getElem? hx)
  have il:=yA hx
  have st:Same H4 (upd H4 t (.tup [.int i,.ref b])):=same_new ht _
  have s5:=s4.trans st
  refine ⟨t,_,rfl,SqT.of zR,rfl,_,_,rfl,_,_,rfl,rfl,?_⟩
  refine ⟨_,rfl,b,rfl,⟨_,s5.seq hsq⟩,zLj (K:=K) (a:=b) (xs:=xs.map V.int) (λm σ H6=>∃ tt,σ = [some (.ref a),some (.ref r),some (.int i),some (.ref b),tt] /\ Same H H6 /\ H6 r = some (.lst (cs.map V.ref)) /\
   RowF H6 cs λj=>src (xss.take i) j ++ (if (j:Int) ∈ xs.take m then [(i:Int)] else [])) ⟨t',rfl,s5,st _ _ hr4,λj c hc=>?_⟩ (λm σ H6 _ ⟨_,_,s6,_⟩=>s6.seq hsq) ?_ ?_⟩
  ·rw [st _ _ (R4 j c hc)]
   simp
  ·rintro m y σ H6 hm ⟨tt,rfl,s6,hr6,R6⟩
   obtain ⟨z,rfl,hz⟩:=int_at hm
   obtain ⟨z0,z1⟩:=vr z (mem_of_getElem? hz)
   have zl:z.toNat < cs.length:=by rw [hcl]; omega
   have hc:cs[z.toNat]? = some cs[z.toNat]:=List.getElem?_eq_getElem zl
   have hz':((z.toNat:Nat):Int) = z:=by omega
   have hrow:=R6 z.toNat _ hc
   have hno:¬ z ∈ xs.take m:=zBo nd hz
   simp only [hz',if_neg hno,append_nil] at hrow
   have hix:atI (cs.map V.ref) z = some (.ref cs[z.toNat]):=by
    have:=zQr (zOc hc)
    rw [hz'] at this
    exact this
   refine ⟨_,rfl,_,rfl,r,_,z,_,rfl,rfl,SqL.of hr6,hix,.inl ⟨rfl,_,SqL.of hrow⟩,_,rfl,_,_,_,rfl,rfl,hrow,?_,?_⟩
   ·have:=src_len (xss.take i) z.toNat
    rw [length_take] at this
    refine zHs ?_
    rw [length_map]
    omega
   ·have cH:H cs[z.toNat] = none:=hN.new _ (mem_of_getElem? hc)
    have cr:r ≠ cs[z.toNat]:=λe=>nrc (by rw [e]; exact mem_of_getElem? hc)
    refine ⟨_,rfl,s6.put cH _,by rw [zQ cr]; exact hr6,?_⟩
    have em:(src (xss.take i) z.toNat).map V.int ++ [V.int i] = (src (xss.take i) z.toNat ++ [(i:Int)]).map V.int:=by rw [map_append] <;> rfl
    rw [em]
    refine R6.put hN.nd hc ?_ λk hk=>?_
    ·rw [hz',if_pos ((uE hz).mpr (.inr rfl))]
    ·have hk':((k:Int) ∈ xs.take (m + 1)) = ((k:Int) ∈ xs.take m):=by
      rw [uE hz]
      refine propext ⟨λh=>h.elim id λe=>absurd (by omega) hk,.inl⟩
     simp only [hk']
  ·rintro σ H6 ⟨tt,rfl,s6,hr6,R6⟩
   refine ⟨_,_,_,rfl,s6,hr6,λj c hc=>?_⟩
   rw [R6 j c hc,zQ6 hx j,length_map,take_length]
 ·rintro σ H4 ⟨u,v,t,rfl,s4,hr4,R4⟩
  refine ⟨_,rfl,?_⟩
  have e:xss.take (bs.map V.ref).length = xss:=by rw [hbl]; exact take_length
  rw [e] at R4
  exact q r cs H4 s4 hrH hr4 hcl R4 hN.new
end
structure FunD (K:PySem.W.Frag) (x qual:Str) (st:Stmt) (dV:Value) (f:Addr) (fd:FuncData):Prop where
 ex:∃ (oc:Value) (od:Option Addr) (kV doc pm:Value) (an:Option Addr) (cdv ct:Value) (osl:Array (Option Value)),
  fd = fnOf x qual (vY st) (wI st) (zK st) dV kV doc pm an cdv ct /\ K.lookup f = some ⟨oc,od,.func fd,osl⟩ /\ codeIn K cdv qual = true
 kp:keepIn K (.ref f) = true
section
variable {P:Program} {w:World} {K:PySem.W.Frag} {mg:Str->Option Value} {base:Heap}
theorem FunD.ok (F:FunD K x qual st dV f fd) (S:FnScope N ps (zK st)) (len:∀ vs H Q E,sp vs H Q E->vs.length = ps.length)
  (hbody:∀ (cdv:Value) (A:Around) (outer:List Env) (s:Shared) (H:Hp) (vs:List V) (Q:VK) (E:XK),Room k (A.deeper (PyProof.Rows.envOfC qual (zK st) s.heap.objs.size f cdv))->sp vs H Q E ->
   ∃ t,PSs (cxOf CX0 P w K mg base N qual (zK st) f cdv A outer s H E).nox (wI st) t /\ t { nx:=λ_ H'=>Q .non H',rt:=Q } (start N vs) H):FnOk P w K mg base CX0 (k + 1) f fd ps sp:=by
 obtain ⟨oc,od,kV,doc,pm,an,cdv,ct,osl,rfl,lk,hcd⟩:=F.ex
 refine fn_of lk hcd S len λA outer s H vs Q E hr hsp=>?_
 obtain ⟨t,h,q⟩:=hbody cdv A outer s H vs Q E hr hsp
 exact ⟨t,h.nox,q⟩
structure Cl (K:PySem.W.Frag) (mg:Str->Option Value) (C:Addr):Prop where
 cl:Cls K C
 nS:NoAttr K C "steps"
 nM:NoAttr K C "marks"
 nF:NoAttr K C "fair"
 nB:NoAttr K C "sources"
 mgC:mg "Machine" = some (.ref C)
theorem scIn:FnScope ["self","steps","marks","fair","given_marks","given_fair"] ["self","steps","marks","fair"] (zK sInit):=⟨rfl,rfl,rfl,by decide +kernel,rfl,by decide +kernel,by decide +kernel⟩
theorem ndNs:(["name","stands"]:List Str).Nodup:=by decide +kernel
theorem putF_len (f:Str) (v:V):∀ fs:List (Str × V),(putF f v fs).length <= fs.length + 1
 | []=>Nat.le_refl _
 | (g,x) :: r=>by
  unfold putF
  split
  ·exact Nat.le_succ _
  ·exact Nat.succ_le_succ (putF_len f v r)
theorem zN8:∀ {vs:List V} {xss:List LI},A2 (rp K R) vs xss->∃ bs:List Addr,vs = bs.map V.ref /\ RowsR K R bs xss
 | [],[],_=>⟨[],rfl,rfl,λi b h=>by simp at h⟩
 | v :: vs,xs :: xss,h=>by
  obtain ⟨bs,e,h1,h2⟩:=zN8 h.2
  obtain ⟨p,ws,rfl,h3,h4⟩:=h.1
  have h5:ws = xs.map V.int:=h4.vals
  refine ⟨p :: bs,by rw [e,map_cons],by rw [length_cons,length_cons,h1],λi b hb=>?_⟩
  cases i with
  | zero=>simp at hb; subst hb; exact ⟨xs,rfl,SqL.of (by rw [h3,h5])⟩
  | succ i=>exact h2 i b (by simpa using hb)
 | [],_ :: _,h=>h.elim
 | _ :: _,[],h=>h.elim
def fSo (xss:LLI):Option LLI:=if xss.length <= 60 /\ zSy xss.length xss then some (srcs xss) else none
theorem ok_soG (F:Fun K "sources_of" "sources_of" zDt f fd) (B:Bl K mg):FnOk P w K mg base CX0 1 f fd ["steps"] (spF K false (λa:LLI × Unit=>([.fz false a.1]:SL K)) λa=>fSo a.1):=by
 refine (ok_so F B).imp λvs H Q E h=>?_
 obtain ⟨⟨xss,⟨⟩⟩,b,Fa,s,hb,r,q⟩:=h
 have hb:fSo xss = some b:=hb
 unfold fSo at hb
 split at hb
 case isFalse=>cases hb
 rename_i hv
 cases hb
 cases r with
 | cons r1 r2 =>
  cases r2
  obtain ⟨a,ws,rfl,h1,h2⟩:=r1
  obtain ⟨bs,rfl,h3⟩:=zN8 (K:=K) h2
  refine ⟨a,bs,xss,rfl,SqL.of (s _ _ h1),h3.same s,hv.1,hv.2,λrr cs H' s' hr e l R N=>q _ _ s' ?_⟩
  refine ⟨rr,_,rfl,by show dif H' H rr = _; rw [xU hr]; exact e,?_⟩
  exact rowf_rp (K:=K) l R λc hc o e=>by show dif H' H c = _; rw [xU (N c hc)]; exact e
theorem ok_inG {fS:LLI->Option Unit} {fM:MKs->Int->Option Unit} {fF:LLI->Int->Option Unit} {fC fO:LLI->Option LLI} (F:FunD K "__init__" "Machine.__init__" sInit dV f fd) (T:Cl K mg C) (B:Bl K mg)
  (CS:Cal P w K mg base k "check_steps" ["steps"] (spF K false (λa:LLI × Unit=>([.fz false a.1]:SL K)) λa=>fS a.1))
  (CM:Cal P w K mg base k "check_marks" ["marks","many"] (spF K false (λa:MKs × Int × Unit=>([.fz false a.1,.fz false a.2.1]:SL K)) λa=>fM a.1 a.2.1))
  (CF:Cal P w K mg base k "check_fair" ["fair","many"] (spF K false (λa:LLI × Int × Unit=>([.fz false a.1,.fz false a.2.1]:SL K)) λa=>fF a.1 a.2.1))
  (CC:Cal P w K mg base k "copied" ["lists"] (spF K false (λa:LLI × Unit=>([.fz false a.1]:SL K)) λa=>fC a.1))
  (CO:Cal P w K mg base k "sources_of" ["steps"] (spF K false (λa:LLI × Unit=>([.fz false a.1]:SL K)) λa=>fO a.1)) :
  FnOk P w K mg base CX0 (k + 1) f fd ["self","steps","marks","fair"] (zNz K C (mkG C fS fM fF fC fO)):=by
 refine F.ok scIn (λvs H Q E h=>?_) (λcdv A outer s H vs Q E hr h=>?_)
 ·obtain ⟨p,dx,vS,vM,vF,xss,mo,fo,M,rfl,_⟩:=h
  rfl
 obtain ⟨p,dx,vS,vM,vF,xss,mo,fo,M,rfl,hp,rS,rM,rF,hm,q⟩:=h
 unfold mkG at hm
 obtain ⟨⟨⟩,e1,hm⟩:=zAa hm
 obtain ⟨⟨⟩,e2,hm⟩:=zAa hm
 obtain ⟨⟨⟩,e3,hm⟩:=zAa hm
 obtain ⟨a,e4,hm⟩:=zAa hm
 obtain ⟨b,e5,hm⟩:=zAa hm
 obtain ⟨c,e6,hm⟩:=zAa hm
 obtain ⟨d,e7,hm⟩:=zAa hm
 cases hm
 refine ⟨_,zC (zKz (i:=4) scIn.nd rfl (Or.inl rfl) (zK4 (zD6 (zK6 (pv 2))) (wG zF) (pv 2)))
  (zC (zKz (i:=5) scIn.nd rfl (Or.inl rfl) (zK4 (zD6 (zK6 (pv 3))) (wG zF) (pv 3)))
  (zC (yN (zZ CS hr (zA (pv 1) zF)))
  (zC (yN (zZ CM hr (zA (pv 4) (zA (zO (xJ K) rfl B.len PySem.boot_len (zA (pv 1) zF)) zF))))
  (zC (yN (zZ CF hr (zA (pv 5) (zA (zO (xJ K) rfl B.len PySem.boot_len (zA (pv 1) zF)) zF))))
  (zC (zK1 (pv 0) (zZ CC hr (zA (pv 1) zF)) rfl)
  (zC (zK1 (pv 0) (wP (own:=["name","stands"]) (ix:=[]) rfl rfl rfl (yW K (pv 4)) (λC s H fp=>zGl (K:=K) (n:=2) rfl rfl (zY (yK (i:=0) ndNs rfl (Or.inl rfl)) (zY (yK (i:=1) ndNs rfl (Or.inl rfl)) wO))) (λC s H fp=>wN)
   (λC s H fp=>uJ (zA (pv 0) (zA (wT (zE1 K) rfl B.list zB5 (zA (pv 1) zF)) zF)))) rfl)
  (zC (zK1 (pv 0) (zZ CC hr (zA (pv 5) zF)) rfl)
  (zCx (zK1 (pv 0) (zZ CO hr (zA (zTj (pv 0) rfl) zF)) rfl))))))))),?_⟩
 have sg0:Sg (K:=K) ⟨hid H p,H⟩ (hid H p) [.fz false (RefTo.mk ():RefTo p),.fz false xss,.fz false mo,.fz false fo,.un,.un] [some (.ref p),some vS,some vM,some vF,none,none] H :=
  ⟨hid H p,[],.refl _,zUa (.fz (show rp K _ _ (RefTo.mk ():RefTo p) from rfl) (.fz rS (.fz rM (.fz rF (.un (.un .nil))))))⟩
 refine (Sn.of (yJ false 4 rfl rfl (zT1 (et_b (md:=.hp) (zLm (zE 2 rfl))) (Eo.ex (zA2 (α:=Str × LI))) (zA0 (yR 2 rfl)))) (show _ = some (mo.getD []) by cases mo <;> rfl)) _ rfl (hid H p) _ _ H sg0 λσ1 H1 sg1=>?_
 refine (Sn.of (yJ false 5 rfl rfl (zT1 (et_b (md:=.hp) (zLm (zE 3 rfl))) (Eo.ex (zA2 (α:=LI))) (zA0 (yR 3 rfl)))) (show _ = some (fo.getD []) by cases fo <;> rfl)) _ rfl (hid H p) _ _ H1 sg1 λσ2 H2 sg2=>?_
 refine (Sn.of (zCv (md:=.hp) (zL (f:=λa:LLI × Unit=>fS a.1) (zG (zE 1 rfl) zN))) (show _ = fS xss from rfl)) () e1 (hid H p) _ _ H2 sg2 λσ3 H3 sg3=>?_
 refine (Sn.of (zCv (md:=.hp) (zL (f:=λa:MKs × Int × Unit=>fM a.1 a.2.1) (zG (zE 4 rfl) (zG (Ex.sc (md:=.hp) (xT (zE 1 rfl))) zN)))) (show _ = fM (mo.getD []) (xss.length:Int) from rfl)) () e2 (hid H p) _ _ H3 sg3 λσ4 H4 sg4=>?_
 refine (Sn.of (zCv (md:=.hp) (zL (f:=λa:LLI × Int × Unit=>fF a.1 a.2.1) (zG (zE 5 rfl) (zG (Ex.sc (md:=.hp) (xT (zE 1 rfl))) zN)))) (show _ = fF (fo.getD []) (xss.length:Int) from rfl)) () e3 (hid H p) _ _ H4 sg4 λσ5 H5 sg5=>?_
 obtain ⟨F5,O5,g5,k5,s5⟩:=sg5
 have s5:SlotsOk (K:=K) ⟨hid H p,H⟩ F5 (lo F5 O5 H5) H5 [.fz false (RefTo.mk ():RefTo p),.fz false xss,.fz false mo,.fz false fo,.fz false (mo.getD []),.fz false (fo.getD [])] σ5 O5:=s5
 cases s5 with | fz r0 s5 =>
 cases s5 with | fz r1 s5 =>
 cases s5 with | fz r2 s5 =>
 cases s5 with | fz r3 s5 =>
 cases s5 with | fz r4 s5 =>
 cases s5 with | fz r5 s5 =>
 cases s5
 rename_i v0 v1 v2 v3 v4 v5
 have r0:v0 = .ref p:=r0
 subst r0
 have hF:Same F5 (hid H5 p):=λb o e=>by
  by_cases z:b = p
  ·subst z
   rcases k5.fa b o e with z | z
   ·have z:hid H b b = some o:=z
    rw [zFz] at z
    cases z
   ·have z:H b = none:=z
    rw [hp] at z
    cases z
  ·rw [zEp z]; exact k5.fh b o e
 have r1:rp K (hid H5 p) v1 xss:=Rp.mono hF r1
 have r2:rp K (hid H5 p) v2 mo:=Rp.mono hF r2
 have r3:rp K (hid H5 p) v3 fo:=Rp.mono hF r3
 have r4:rp K (hid H5 p) v4 (mo.getD []):=Rp.mono hF r4
 have r5:rp K (hid H5 p) v5 (fo.getD []):=Rp.mono hF r5
 have s05:Same H H5:=k5.h0
 have hp5:H5 p = some (.ins C dx []):=s05 _ _ hp
 refine ⟨_,rfl,(xss,()),a,H5,.refl _,e4,.cons (Rp.mono zIi r1) .nil,λy1 H6 s6 t1=>?_⟩
 have t1:rp K (dif H6 H5) y1 a:=t1
 have hp6:=s6 _ _ hp5
 refine ⟨_,rfl,p,C,dx,[],rfl,hp6,T.cl,T.nS,(by show 0 < 1000; decide),?_⟩
 have f1:=Rp.mono (zLa (H:=H) (p:=p) (λb o _ e=>s05 b o e) (by rw [hp5]; intro z; cases z)) t1
 have kp6:∀ b o,b ≠ p->H b = some o->(upd H6 p (.ins C dx (putF "steps" y1 []))) b = some o:=λb o n e=>by rw [zQ n]; exact s6 _ _ (s05 _ _ e)
 have h6:Same (hid H5 p) (hid (upd H6 p (.ins C dx (putF "steps" y1 []))) p):=by rw [zBb]; exact zBp s6
 have E2:Ex (K:=K) ⟨hid (upd H6 p (.ins C dx (putF "steps" y1 []))) p,upd H6 p (.ins C dx (putF "steps" y1 []))⟩ [.fz false (RefTo.mk ():RefTo p),.fz false xss,.fz false mo,.fz false fo,.fz false (mo.getD []),.fz false (fo.getD [])] .nw _ _ :=
  (wA (n:=false) (slI:=[.un,.un]) (no:=2) (ix:=[]) rfl rfl (xC (yR 4 rfl)) (zAy 0 1 rfl rfl (λ_=>rfl) rfl) (λx=>zA1) (λx=>vK (zD 0 rfl) (zCk (zE 1 rfl)).ex) (λx=>Le0.un (Le0.un Le0.nil))).ex
 refine E2 b e5 (hid (upd H6 p (.ins C dx (putF "steps" y1 []))) p) [] _ _ _ (zUa (.fz (show rp K _ _ (RefTo.mk ():RefTo p) from rfl) (.fz (Rp.mono h6 r1) (.fz (Rp.mono h6 r2) (.fz (Rp.mono h6 r3) (.fz (Rp.mono h6 r4) (.fz (Rp.mono h6 r5) .nil))))))) λy2 F7 H7 g7 t2=>?_
 have s7:=g7.hh
 have t2:rp K (dif H7 (upd H6 p (.ins C dx (putF "steps" y1 [])))) y2 b:=Rp.mono (wE g7.ok.fh) t2
 have hp7:H7 p = some (.ins C dx (putF "steps" y1 [])):=s7 _ _ zR
 refine ⟨_,rfl,p,C,dx,_,rfl,hp7,T.cl,T.nM,(by show 1 < 1000; decide),?_⟩
 have f2:=Rp.mono (zLa (H:=H) (p:=p) kp6 (by rw [zR]; intro z; cases z)) t2
 have kp7:∀ b o,b ≠ p->H b = some o->(upd H7 p (.ins C dx (putF "marks" y2 (putF "steps" y1 [])))) b = some o:=λb o n e=>by rw [zQ n]; exact s7 _ _ (kp6 _ _ n e)
 have h7:Same (hid (upd H6 p (.ins C dx (putF "steps" y1 []))) p) (hid (upd H7 p (.ins C dx (putF "marks" y2 (putF "steps" y1 [])))) p):=by rw [zBb (H:=H7)]; exact zBp s7
 refine ⟨_,rfl,(fo.getD [],()),c,_,.refl _,e6,.cons (Rp.mono (h6.trans (h7.trans zIi)) r5) .nil,λy3 H8 s8 t3=>?_⟩
 have t3:rp K (dif H8 (upd H7 p (.ins C dx (putF "marks" y2 (putF "steps" y1 []))))) y3 c:=t3
 have hp8:H8 p = some (.ins C dx (putF "marks" y2 (putF "steps" y1 []))):=s8 _ _ zR
 have l2:(putF "marks" y2 (putF "steps" y1 [])).length < 1000:=by
  have a1:=putF_len "marks" y2 (putF "steps" y1 [])
  have a2:=putF_len "steps" y1 []
  have a3:([]:List (Str × V)).length = 0:=rfl
  omega
 refine ⟨_,rfl,p,C,dx,_,rfl,hp8,T.cl,T.nF,l2,?_⟩
 have f3:=Rp.mono (zLa (H:=H) (p:=p) kp7 (by rw [zR]; intro z; cases z)) t3
 have kp8:∀ b o,b ≠ p->H b = some o->(upd H8 p (.ins C dx (putF "fair" y3 (putF "marks" y2 (putF "steps" y1 []))))) b = some o:=λb o n e=>by rw [zQ n]; exact s8 _ _ (kp7 _ _ n e)
 have h8:Same (hid (upd H7 p (.ins C dx (putF "marks" y2 (putF "steps" y1 [])))) p) (hid (upd H8 p (.ins C dx (putF "fair" y3 (putF "marks" y2 (putF "steps" y1 []))))) p):=by rw [zBb (H:=H8)]; exact zBp s8
 have lk:(putF "fair" y3 (putF "marks" y2 (putF "steps" y1 []))).lookup ("steps":Str) = some y1:=by
  rw [yE,if_neg (by decide +kernel),yE,if_neg (by decide +kernel),yE,if_pos rfl]
 have d1:Same (dif (hid H6 p) (hid H p)) (hid (upd H8 p (.ins C dx (putF "fair" y3 (putF "marks" y2 (putF "steps" y1 []))))) p):=dif_le.trans ((by rw [zBb]; exact .refl _:Same (hid H6 p) (hid (upd H6 p (.ins C dx (putF "steps" y1 []))) p)).trans (h7.trans h8))
 refine ⟨_,rfl,p,C,dx,_,_,rfl,zR,T.cl,T.nS,lk,(a,()),d,_,.refl _,e7,.cons (Rp.mono (d1.trans zIi) f1) .nil,λy4 H9 s9 t4=>?_⟩
 have t4:rp K (dif H9 (upd H8 p (.ins C dx (putF "fair" y3 (putF "marks" y2 (putF "steps" y1 [])))))) y4 d:=t4
 have hp9:H9 p = some (.ins C dx (putF "fair" y3 (putF "marks" y2 (putF "steps" y1 [])))):=s9 _ _ zR
 have l3:(putF "fair" y3 (putF "marks" y2 (putF "steps" y1 []))).length < 1000:=by
  have a0:=putF_len "fair" y3 (putF "marks" y2 (putF "steps" y1 []))
  have a1:=putF_len "marks" y2 (putF "steps" y1 [])
  have a2:=putF_len "steps" y1 []
  have a3:([]:List (Str × V)).length = 0:=rfl
  omega
 refine ⟨_,rfl,p,C,dx,_,rfl,hp9,T.cl,T.nB,l3,?_⟩
 have f4:=Rp.mono (zLa (H:=H) (p:=p) kp8 (by rw [zR]; intro z; cases z)) t4
 have kp9:∀ b o,b ≠ p->H b = some o->(upd H9 p (.ins C dx (putF "sources" y4 (putF "fair" y3 (putF "marks" y2 (putF "steps" y1 [])))))) b = some o:=λb o n e=>by rw [zQ n]; exact s9 _ _ (kp8 _ _ n e)
 have u9:Same (hid H9 p) (upd H9 p (.ins C dx (putF "sources" y4 (putF "fair" y3 (putF "marks" y2 (putF "steps" y1 [])))))):=(by rw [zBb]; exact .refl _:Same (hid H9 p) (hid (upd H9 p (.ins C dx (putF "sources" y4 (putF "fair" y3 (putF "marks" y2 (putF "steps" y1 [])))))) p)).trans zIi
 have u8:Same (hid H8 p) (hid H9 p):=(by rw [zBb]; exact .refl _:Same (hid H8 p) (hid (upd H8 p (.ins C dx (putF "fair" y3 (putF "marks" y2 (putF "steps" y1 []))))) p)).trans (zBp s9)
 have u7:Same (hid H7 p) (hid H8 p):=(by rw [zBb]; exact .refl _:Same (hid H7 p) (hid (upd H7 p (.ins C dx (putF "marks" y2 (putF "steps" y1 [])))) p)).trans (zBp s8)
 have u6:Same (hid H6 p) (hid H7 p):=(by rw [zBb]; exact .refl _:Same (hid H6 p) (hid (upd H6 p (.ins C dx (putF "steps" y1 []))) p)).trans (zBp s7)
 refine q _ kp9 ⟨p,dx,putF "sources" y4 (putF "fair" y3 (putF "marks" y2 (putF "steps" y1 []))),y1,y2,y3,y4,rfl,?_,?_,Rp.mono (wE (u6.trans (u7.trans (u8.trans u9)))) f1,?_,Rp.mono (wE (u7.trans (u8.trans u9))) f2,?_,Rp.mono (wE (u8.trans u9)) f3,?_,Rp.mono (wE u9) f4,?_⟩
 ·rw [xU zFz]; exact zR
 ·rw [yE,if_neg (by decide +kernel)]; exact lk
 ·rw [yE,if_neg (by decide +kernel),yE,if_neg (by decide +kernel),yE,if_pos rfl]
 ·rw [yE,if_neg (by decide +kernel),yE,if_pos rfl]
 ·rw [yE,if_pos rfl]
 ·intro g hg
  simp only [mth,mem_cons,List.not_mem_nil,or_false] at hg
  rcases hg with rfl | rfl | rfl | rfl | rfl | rfl <;> (rw [yE,if_neg (by decide +kernel),yE,if_neg (by decide +kernel),yE,if_neg (by decide +kernel),yE,if_neg (by decide +kernel)]; rfl)
end
section
variable {P:Program} {w:World} {K:PySem.W.Frag} {mg:Str->Option Value} {base:Heap} {α β:Type} [DecidableEq α] [DecidableEq β]
def spNb (K:PySem.W.Frag) (a1:AK α) (a2:AK β):Sp:=λvs H Q _=>∃ (l:Addr) (ps:List Addr) (ks:List (α × β)),vs = [.ref l] /\ SqL K H l (ps.map V.ref) /\ Paired (λp k=>NAt a1 a2 H k p) ps ks /\ ks.length <= 900 /\ ∀ (r:Addr) (H':Hp),Same H H'->H r = none->H' r = some (.lst ((nbr ks).map V.int))->Q (.ref r) H'
theorem scNb:FnScope ["keys","known","key"] ["keys"] (zK s_numbered):=fsc
theorem dd_one {κ:Type} [DecidableEq κ] (acc:List κ) (k:κ):dd acc [k] = if k ∈ acc then acc else acc ++ [k]:=rfl
theorem ndKey:(["key","known"]:List Str).Nodup:=by decide +kernel
theorem zH0 {α β:Type} {F:α->β->Prop} {a:List α} {b:List β} (h:Paired F a b) {i:Nat} {x:α} (hx:a[i]? = some x):∃ y,b[i]? = some y /\ F x y:=by
 induction h generalizing i with
 | nil=>cases hx
 | cons r _ ih =>
  cases i with
  | zero=>cases hx; exact ⟨_,rfl,r⟩
  | succ i=>exact ih hx
theorem zEd (a1:AK α) (a2:AK β) (F:Fun K "numbered" "numbered" s_numbered f fd) (B:Bl K mg):FnOk P w K mg base CX0 (k + 1) f fd ["keys"] (spNb K a1 a2):=by
 refine F.ok scNb (λvs H Q E ⟨l,ps,ks,e,_⟩=>by rw [e]; rfl) λcdv A outer s H vs Q E hr h=>?_
 obtain ⟨l,ps,ks,rfl,hS,hP,h9,q⟩:=h
 have hu:(A.deeper (PyProof.Rows.envOfC "numbered" (zK s_numbered) s.heap.objs.size f cdv)).units + 2 < cLine:=Nat.lt_of_le_of_lt (Nat.add_le_add_left (by decide:2 <= 64) _) hr.units
 have nd:=scNb.nd
 refine ⟨_,zC (zKz (i:=1) nd rfl (by first | exact Or.inl rfl | exact Or.inr rfl) (zRt (a1:=a1) (a2:=a2)))
  (zC (xH PassesOwn.never rfl (yW K (pv 0)) (yK (i:=2) nd rfl (by first | exact Or.inl rfl | exact Or.inr rfl))
   (zCx (yN (zRr (a1:=a1) (a2:=a2) hu (pv 1) (pv 2) (zO (zQl (a1:=a1) (a2:=a2)) rfl B.len PySem.boot_len (zA (pv 1) zF)) ⟨rfl,rfl,rfl,rfl⟩))))
  (zCx (zT (wP (te:=zS6 P w a1 a2 (tVar 1) (tVar 0)) (own:=["key"]) (ix:=[1]) rfl rfl rfl (yW K (pv 0)) (λC s H fp=>yK (i:=0) ndKey rfl (Or.inl rfl)) (λC s H fp=>wN) (λC s H fp=>zRu (X:=cxIn _ _ _ _ C s H fp) (a1:=a1) (a2:=a2) hu (pv 1) (pv 0) (λ_ _=>rfl)))))),?_⟩
 have hl:ks.length = ps.length:=(Paired.length hP).symm
 have up:∀ {H':Hp},Same H H'->∀ (k:α × β) (p:Addr),NAt a1 a2 H k p->NAt a1 a2 H' k p:=λs' k p n=>NAt.mono n λb xs e=>s' _ _ e
 refine λd hd=>?_
 refine ⟨_,rfl,l,rfl,⟨_,(same_new hd _).seq hS⟩,zLj (K:=K) (a:=l) (xs:=ps.map V.ref) (λi σ H2=>∃ u kvs,σ = [some (.ref l),some (.ref d),u] /\ Same H H2 /\ H2 d = some (dnO P w a1 a2 d kvs) /\ NbOk kvs (dd [] (ks.take i)) /\ ∀ p ∈ kvs,NAt a1 a2 H p.1 p.2.1)
  ⟨none,[],rfl,same_new hd _,zR,⟨rfl,λj p h=>by simp at h⟩,λp h=>by cases h⟩ (λi σ H2 _ ⟨_,_,_,s2,_⟩=>s2.seq hS) ?_ ?_⟩
 ·rintro i x σ H2 hi ⟨u,kvs,rfl,s2,e2,nb,hk⟩
  obtain ⟨p,rfl,hp⟩:=zOd hi
  obtain ⟨key,hkey,na⟩:=zH0 hP hp
  have hk2:∀ p ∈ kvs,NAt a1 a2 H2 p.1 p.2.1:=λp hp=>up s2 _ _ (hk p hp)
  have et:dd [] (ks.take (i + 1)) = if key ∈ dd [] (ks.take i) then dd [] (ks.take i) else dd [] (ks.take i) ++ [key]:=by
   rw [take_add_one,hkey,zT6]
   show dd _ [key] = _
   rw [dd_one]
   by_cases z:key ∈ dd [] (ks.take i)
   ·rw [if_pos z,if_pos z]
   ·rw [if_neg z,if_neg z]
  refine ⟨_,rfl,d,kvs,rfl,e2,hk2,_,rfl,_,rfl,d,kvs,rfl,e2,hk2,kvs,p,key,_,rfl,rfl,e2,hk2,up s2 _ _ na,λj hj=>?_,λno=>?_⟩
  ·refine ⟨some (.ref p),kvs,rfl,s2,e2,?_,hk⟩
   rw [et]
   by_cases z:key ∈ dd [] (ks.take i)
   ·rw [if_pos z]; exact nb
   ·rw [nb.non z] at hj; cases hj
  ·have hlen:kvs.length <= i:=by
    have:=congrArg length nb.1
    rw [length_map] at this
    rw [this]
    have z:=zT5 (ks.take i) []
    rw [length_take] at z
    simp only [length_nil] at z
    omega
   have hi9:=yA hkey
   refine ⟨by omega,some (.ref p),_,rfl,s2.put hd _,zR,?_,λp' hp'=>?_⟩
   ·rw [et]
    by_cases z:key ∈ dd [] (ks.take i)
    ·rw [nb.val z] at no; cases no
    ·rw [if_neg z]; exact nb.snoc key p
   ·rcases mem_append.mp hp' with z | z
    ·exact hk p' z
    ·rw [mem_singleton.mp z]; exact na
 ·rintro σ H2 ⟨u,kvs,rfl,s2,e2,nb,hk⟩
  rw [length_map,<- hl,take_length] at nb
  have hk2:∀ p ∈ kvs,NAt a1 a2 H2 p.1 p.2.1:=λp hp=>up s2 _ _ (hk p hp)
  refine ⟨_,rfl,l,rfl,⟨_,s2.seq hS⟩,zIr (K:=K) (a:=l) (xs:=ps.map V.ref) (λi ys σ H3=>∃ v,σ = [v,some (.ref d)] /\ H3 = H2 /\ ys = (ks.take i).map λk=>V.int ((dd [] ks).idxOf k:Int))
   ⟨none,rfl,rfl,rfl⟩ (λi ys σ H3 hi ⟨v,_,e,ey⟩=>⟨by rw [e]; exact s2.seq hS,by rw [ey,length_map,length_take]; omega⟩) (by rw [length_map]; exact Nat.lt_of_le_of_lt (show ps.length <= 900 by omega) (by decide)) ?_ ?_⟩
  ·rintro i x ys σ H3 hi ⟨v,rfl,rfl,rfl⟩
   obtain ⟨p,rfl,hp⟩:=zOd hi
   obtain ⟨key,hkey,na⟩:=zH0 hP hp
   refine ⟨_,rfl,_,rfl,d,kvs,p,key,_,rfl,rfl,e2,hk2,up s2 _ _ na,nb.val (zF3 (mem_of_getElem? hkey)),_,rfl,rfl,?_⟩
   rw [take_add_one,hkey,map_append]; rfl
  ·rintro ys σ H3 ⟨v,rfl,rfl,rfl⟩ r hr
   refine q r _ (s2.trans (same_new hr _)) ?_ ?_
   ·have:=s2
    exact Classical.byContradiction λz=>by
     obtain ⟨o,ho⟩:=Option.ne_none_iff_exists'.mp z
     rw [s2 _ _ ho] at hr; cases hr
   ·rw [zR,length_map,<- hl,take_length]
    unfold nbr
    rw [map_map]
    have ei:∀ k:α × β,@idxOf (α × β) instBEqProd k (dd [] ks) = @idxOf (α × β) instBEqOfDecidableEq k (dd [] ks):=λk=>by
     unfold idxOf
     congr 1
     funext x
     exact Bool.eq_iff_iff.mpr ((@beq_iff_eq _ instBEqProd _ _ _).trans (@beq_iff_eq _ instBEqOfDecidableEq _ _ _).symm)
    congr 2
    refine List.map_congr_left λk _=>?_
    show V.int _ = V.int _
    rw [ei]
end
section
variable {κ κ':Type} [DecidableEq κ] [DecidableEq κ']
theorem zQf {f:κ->κ'} (inj:∀ a b,f a = f b->a = b):∀ (ks acc:List κ),dd (acc.map f) (ks.map f) = (dd acc ks).map f
 | [],acc=>rfl
 | k :: ks,acc=>by
  show dd (if f k ∈ acc.map f then acc.map f else acc.map f ++ [f k]) (ks.map f) = (dd (if k ∈ acc then acc else acc ++ [k]) ks).map f
  have e:(f k ∈ acc.map f) ↔ k ∈ acc:=by
   rw [mem_map]
   exact ⟨λ⟨a,ha,e⟩=>inj _ _ e ▸ ha,λh=>⟨k,h,rfl⟩⟩
  by_cases z:k ∈ acc
  ·rw [if_pos z,if_pos (e.mpr z)]
   exact zQf inj ks acc
  ·rw [if_neg z,if_neg λh=>z (e.mp h),show acc.map f ++ [f k] = (acc ++ [k]).map f by rw [map_append]; rfl]
   exact zQf inj ks _
theorem zPo {f:κ->κ'} (inj:∀ a b,f a = f b->a = b) (k:κ):∀ l:List κ,(l.map f).idxOf (f k) = l.idxOf k
 | []=>rfl
 | x :: l=>by
  rw [map_cons,idxOf_cons,idxOf_cons,zPo inj k l]
  by_cases z:x = k
  ·subst z; simp
  ·have z2:¬ f x = f k:=λe=>z (inj _ _ e)
   rw [show (x == k) = false from beq_eq_false_iff_ne.mpr z,show (f x == f k) = false from beq_eq_false_iff_ne.mpr z2]
theorem nbr_map {f:κ->κ'} (inj:∀ a b,f a = f b->a = b) (ks:List κ):nbr (ks.map f) = nbr ks:=by
 unfold nbr
 rw [map_map]
 refine List.map_congr_left λk _=>?_
 show (((dd [] (ks.map f)).idxOf (f k):Nat):Int) = _
 rw [show dd [] (ks.map f) = (dd [] ks).map f from zQf inj ks [],zPo inj]
end
def nbM {κ:Type} [DecidableEq κ] (ks:List κ):Option LI:=if ks.length <= 900 then some (nbr ks) else none
section
variable {P:Program} {w:World} {K:PySem.W.Frag} {mg:Str->Option Value} {base:Heap}
def uO (q0:List ((Tp Str) × (Tp Int))):Option LI:=nbM q0
def uN (q0:List (Int × (Tp Int))):Option LI:=nbM q0
abbrev zB9 (K:PySem.W.Frag):Sp:=spF K false (λa:(List ((Tp Str) × (Tp Int))) × Unit=>([.fz false a.1]:SL K)) (λa=>uO a.1)
abbrev zB8 (K:PySem.W.Frag):Sp:=spF K false (λa:(List (Int × (Tp Int))) × Unit=>([.fz false a.1]:SL K)) (λa=>uN a.1)
def kS (x:Tp Str):List Key:=x.xs.map .inr
def kT (x:Tp Int):List Key:=x.xs.map .inl
theorem zJ0 {α β:Type} {f:α->β} (inj:∀ a b,f a = f b->a = b):∀ {a b:List α},a.map f = b.map f->a = b
 | [],[],_=>rfl
 | x :: a,y :: b,h=>by
  rw [map_cons,map_cons] at h
  obtain ⟨h1,h2⟩:=List.cons.inj h
  rw [inj _ _ h1,zJ0 inj h2]
 | [],_ :: _,h=>by cases h
 | _ :: _,[],h=>by cases h
theorem kS_inj (a b:Tp Str) (h:kS a = kS b):a = b:=by
 cases a
 cases b
 exact congrArg Tp.mk (zJ0 (λ_ _ e=>by cases e; rfl) h)
theorem zTs (a b:Tp Int) (h:kT a = kT b):a = b:=by
 cases a
 cases b
 exact congrArg Tp.mk (zJ0 (λ_ _ e=>by cases e; rfl) h)
theorem zO4 {γ α β:Type} [DecidableEq α] [DecidableEq β] [DecidableEq γ] [Rp K γ] {a1:AK α} {a2:AK β} (f:γ->α × β) (inj:∀ a b,f a = f b->a = b) (h:∀ {F:Hp} {v:V} {x:γ},rp K F v x->∃ p,v = .ref p /\ NAt a1 a2 F (f x) p)
  (hh:spF K false (λa:List γ × Unit=>([.fz false a.1]:SL K)) (λa=>nbM a.1) vs H Q E):spNb K a1 a2 vs H Q E:=by
 obtain ⟨⟨ks,⟨⟩⟩,b,Fa,s,hb,r,q⟩:=hh
 have hb:nbM ks = some b:=hb
 unfold nbM at hb
 split at hb
 case isFalse=>cases hb
 rename_i hl
 cases hb
 cases r with
 | cons r1 r2 =>
  cases r2
  obtain ⟨l,us,rfl,h1,h2⟩:=r1
  have key:∀ {us:List V} {ks:List γ},A2 (rp K Fa) us ks->∃ ps:List Addr,us = ps.map V.ref /\ Paired (λp k=>NAt a1 a2 H k p) ps (ks.map f):=by
   intro us
   induction us with
   | nil=>intro ks z; cases ks with
    | nil=>exact ⟨[],rfl,.nil⟩
    | cons _ _=>exact z.elim
   | cons u us ih=>intro ks z; cases ks with
    | nil=>exact z.elim
    | cons k ks =>
     obtain ⟨ps,e,pr⟩:=ih z.2
     obtain ⟨p,e1,n⟩:=h z.1
     exact ⟨p :: ps,by rw [e,e1]; rfl,.cons (n.mono λb xs e=>s _ _ e) pr⟩
  obtain ⟨ps,rfl,pr⟩:=key h2
  refine ⟨l,ps,ks.map f,rfl,SqL.of (s _ _ h1),pr,by rw [length_map]; exact hl,λrr H' s' hr e=>q _ _ s' ⟨rr,_,rfl,by show dif H' H rr = _; rw [xU hr]; exact e,?_⟩⟩
  rw [nbr_map inj]
  exact zB6 _
theorem a2_kT (h:A2 (rp K F) vs x):vs = (x.map (Sum.inl:Int->Key)).map kV:=by
 rw [map_map]; exact A2.eq_map (h.imp λ_ _ e=>e)
theorem a2_kS (h:A2 (rp K F) vs x):vs = (x.map (Sum.inr:Str->Key)).map kV:=by
 rw [map_map]; exact A2.eq_map (h.imp λ_ _ e=>e)
theorem nb_at1 {F:Hp} {v:V} {x:(Tp Str) × (Tp Int)} (h:rp K F v x):∃ p,v = .ref p /\ NAt zNa zNa F (kS x.1,kT x.2) p:=by
 obtain ⟨p,a,b,e1,e2,⟨pa,va,e3,e4,e5⟩,⟨pb,vb,e6,e7,e8⟩⟩:=h
 exact ⟨p,e1,a,b,e2,⟨pa,e3,by rw [e4,a2_kS e5]; rfl⟩,⟨pb,e6,by rw [e7,a2_kT e8]; rfl⟩⟩
theorem nb_at2 {F:Hp} {v:V} {x:Int × (Tp Int)} (h:rp K F v x):∃ p,v = .ref p /\ NAt zUc zNa F ((Sum.inl x.1:Key),kT x.2) p:=by
 obtain ⟨p,a,b,e1,e2,e3,⟨pb,vb,e6,e7,e8⟩⟩:=h
 exact ⟨p,e1,a,b,e2,e3,⟨pb,e6,by rw [e7,a2_kT e8]; rfl⟩⟩
theorem zH6 (F:Fun K "numbered" "numbered" s_numbered f fd) (B:Bl K mg):FnOk P w K mg base CX0 (k + 1) f fd ["keys"] (zB9 K) :=
 (zEd zNa zNa F B).imp λvs H Q E h=>zO4 (λx:(Tp Str) × (Tp Int)=>(kS x.1,kT x.2)) (λa b e=>Prod.ext (kS_inj _ _ (Prod.mk.inj e).1) (zTs _ _ (Prod.mk.inj e).2)) nb_at1 h
theorem zH5 (F:Fun K "numbered" "numbered" s_numbered f fd) (B:Bl K mg):FnOk P w K mg base CX0 (k + 1) f fd ["keys"] (zB8 K) :=
 (zEd zUc zNa F B).imp λvs H Q E h=>zO4 (λx:Int × (Tp Int)=>((Sum.inl x.1:Key),kT x.2)) (λa b e=>Prod.ext (Sum.inl.inj (Prod.mk.inj e).1) (zTs _ _ (Prod.mk.inj e).2)) nb_at2 h
end
end Ts
set_option maxHeartbeats 40000000
namespace Ts
open PySem L2
section
variable {P:Program} {w:World} {K:PySem.W.Frag} {mg:Str->Option Value} {base:Heap}
def zAk (q0:Int) (q1:Int):Option Bool:=if true = true then if (!false) = true then if decide ((0:Int) <= q0) = true then some (decide (q0 < q1)) else some false else some false else some false
theorem sc_is_stand:FnScope ["thing","many"] ["thing","many"] (zK s_is_stand):=fsc
abbrev zF8 (K:PySem.W.Frag):Sp:=spF K false (λa:Int × Int × Unit=>([.z a.1,.z a.2.1]:SL K)) (λa=>zAk a.1 a.2.1)
theorem zJs (F:Fun K "is_stand" "is_stand" s_is_stand f fd) (B:Bl K mg):FnOk P w K mg base CX0 (k + 1) f fd ["thing","many"] (zF8 K):=by
 refine yM F sc_is_stand (λ_=>rfl) (λ_=>rfl) λcdv A outer s H E hr=>?_
 have nd:=sc_is_stand.nd
 refine ⟨_,(zC (zT (zEa (zO (zBe K (zA5 (n:="int"))) rfl B.isi zBf (zA (pv 0) (zA (uK (v:=.ty "int") rfl B.int zQp rfl) zF))) (zEa (zTh (zO (zBe K (zA5 (n:="bool"))) rfl B.isi zBf (zA (pv 0) (zA (uK (v:=.ty "bool") rfl B.bool zQq rfl) zF)))) (zFt (zK5 op_le zH2 zJ (pv 0) (pv 1)))))) zH),?_⟩
 rintro Fa ⟨q0,q1,⟨⟩⟩
 exact SB.of (zX (esc (zEt (zBv B.ii rfl (zD 0 rfl)) (zEt (zTz (zBv B.ib rfl (zD 0 rfl))) (zLo (f:=(λi j=>decide (i <= j))) (g:=(λi j=>decide (i < j))) (zI 0) (zD 0 rfl) (zD 1 rfl)))))) (by unfold zAk; simp only [bnd])
def xA (q0:LI) (q1:Int) (q2:Str):Option Unit:=(some ()).bind λahead1=>((some q0).bind λxs=>xQ (λ(s2:List (Key × Bool)) (x4:Int)=>(((zAk x4 q1).bind λa5=>some (!a5)).bind λb=>if b = true then none else some ()).bind λs6=>(if ((dget (Dc.mk s2).kv x4).isSome) = true then none else some ()).bind λs8=>(dput s2 x4 true).bind λahead10=>some ahead10) xs (([]:List (Key × Bool)))).bind λs3=>some ()
theorem sc_check_stands:FnScope ["stands","many","where","ahead","stand"] ["stands","many","where"] (zK s_check_stands):=fsc
abbrev vP (K:PySem.W.Frag):Sp:=spF K false (λa:LI × Int × Str × Unit=>([.z a.1,.z a.2.1,.z a.2.2.1]:SL K)) (λa=>xA a.1 a.2.1 a.2.2.1)
theorem zEf (F:Fun K "check_stands" "check_stands" s_check_stands f fd) (B:Bl K mg) (C_is_stand:Cal P w K mg base k "is_stand" ["thing","many"] (zF8 K)):FnOk P w K mg base CX0 (k + 1) f fd ["stands","many","where"] (vP K):=by
 refine zG9 F sc_check_stands (λ_=>rfl) (λ_=>rfl) λcdv A outer s H E hr=>?_
 have nd:=sc_check_stands.nd
 have hu:=zSb hr
 refine ⟨_,(zC (yS 3 nd zGn) (zC (xH PassesOwn.never rfl (yW K (pv 0)) (pg_n 4 nd) (zC (xL (zAg (zAf (zZ C_is_stand hr (zA (pv 4) (zA (pv 1) zF))))) zAh zH) (zC (xL (zD6 (zTl hu (pv 4) (pv 3))) zAh zH) (zC (zJk hu (pv 3) (pv 4) zAs rfl) zH)))) zH)),?_⟩
 rintro Fa ⟨q0,q1,q2,⟨⟩⟩
 exact ⟨_,Sn.of (zP (zJe (α:=Bool) 3 rfl rfl) (λahead1=>(zP (vC (n:=false) (L:=(λs2:List (Key × Bool)=>([.z q0,.z q1,.z q2,.od (s2:List (Key × Bool)),.un]:SL K))) (([]:List (Key × Bool))) lea (xC (yR 0 rfl)) (λs2=>(yG 4 rfl rfl)) (λs2 x4=>(zP (zBr (zAn (et_b (md:=.hp) (zL (zG (esc (zD 4 rfl)) (zG (esc (zD 1 rfl)) zN))))) zBm (yB (λs7:Unit=>([.z q0,.z q1,.z q2,.od (s2:List (Key × Bool)),.z x4]:SL K)) () lea)) (λs6=>(zP (zBr (et_b (md:=.hp) (ex_din (zD 4 rfl) (zPx 3 rfl))) zBm (yB (λs9:Unit=>([.z q0,.z q1,.z q2,.od (s2:List (Key × Bool)),.z x4]:SL K)) () lea)) (λs8=>(zP (zN2 3 rfl rfl (esc (zAv true)) (zD 4 rfl)) (λahead10=>(yB (λs2:List (Key × Bool)=>([.z q0,.z q1,.z q2,.od (s2:List (Key × Bool)),.un]:SL K)) ahead10 lea))))))))) (λs3=>(yB (λ_:Unit=>([.un,.un,.un,.un,.un]:SL K)) () lea))))) (by unfold xA; simp only [bnd])⟩
def wX (q0:List LI):Option Unit:=(some (q0.length:Int)).bind λmany1=>((if (decide (many1 < (1:Int))) = true then some true else some (decide ((60:Int) < many1))).bind λb=>if b = true then none else some ()).bind λs2=>((some (zC5 q0)).bind λxs=>xQ (λ(s4:Unit) (x6:Int × LI)=>(((((fsI "steps of stand " x6.1).bind λa8=>some ((a8,()))).bind λb9=>some (many1,b9)).bind λb10=>some (x6.2,b10)).bind λz7=>xA z7.1 z7.2.1 z7.2.2.1).bind λu11=>(if (decide ((x6.2.length:Int) = (0:Int))) = true then none else some ()).bind λs12=>some ()) xs ()).bind λs5=>some ()
theorem sc_check_steps:FnScope ["steps","many","stand","targets"] ["steps"] (zK s_check_steps):=fsc
abbrev zHh (K:PySem.W.Frag):Sp:=spF K false (λa:((List LI)) × Unit=>([.z a.1]:SL K)) (λa=>wX a.1)
theorem zFi (F:Fun K "check_steps" "check_steps" s_check_steps f fd) (B:Bl K mg) (m_MOST_STANDS:mg "MOST_STANDS" = some (.int 60 t_MOST_STANDS)) (C_check_stands:Cal P w K mg base k "check_stands" ["stands","many","where"] (vP K)):FnOk P w K mg base CX0 (k + 1) f fd ["steps"] (zHh K):=by
 refine zG9 F sc_check_steps (λ_=>rfl) (λ_=>rfl) λcdv A outer s H E hr=>?_
 have nd:=sc_check_steps.nd
 refine ⟨_,(zC (yS 1 nd (zO (xJ K) rfl B.len PySem.boot_len (zA (pv 0) zF))) (zC (xL (PW.pt (pw_or (zU zH2 (pv 1) zJ (yI _)) (pw_or1 (zU zRy (pv 1) (zGm (v:=.int 60) rfl m_MOST_STANDS ⟨_,rfl⟩) (yI _))))) zAh zH) (zC (xH PassesOwn.never rfl (zEo K B.enum (zA (pv 0) zF)) (zAz rfl (zY (pg_n 2 nd) (zY (pg_n 3 nd) wO))) (zC (yN (zZ C_check_stands hr (zA (pv 3) (zA (pv 1) (zA (pe_fs (pv 2) (by decide)) zF))))) (zC (xL (zU (vU K Int hr) (zO (xJ K) rfl B.len PySem.boot_len (zA (pv 3) zF)) zJ (yI _)) zAh zH) zH))) zH))),?_⟩
 rintro Fa ⟨q0,⟨⟩⟩
 exact ⟨_,Sn.of (zP (yJ true 1 rfl rfl (esc (xT (zE 0 rfl)))) (λmany1=>(zP (zBr (zC4 (zV (md:=.hp) (zKa (zD 1 rfl) (zI 1))) (zV (md:=.hp) (zSi (zD 1 rfl) (zI 60)))) zBm (yB (λs3:Unit=>([.z q0,.y many1,.un,.un]:SL K)) () lea)) (λs2=>(zP (vC (n:=false) (L:=(λs4:Unit=>([.z q0,.y many1,.un,.un]:SL K))) () lea (zEx (yR 0 rfl)) (λs4=>(zAy 2 3 rfl rfl (λ_=>rfl) rfl)) (λs4 x6=>(zP (zCv (md:=.hp) (zL (zG (zE 3 rfl) (zG (esc (zD 1 rfl)) (zG (esc (zT2 "steps of stand " (zD 2 rfl))) zN))))) (λu11=>(zP (zBr (zV (md:=.hp) (vW (xT (zE 3 rfl)) (zI 0))) zBm (yB (λs13:Unit=>([.z q0,.y many1,.z x6.1,.z x6.2]:SL K)) () lea)) (λs12=>(yB (λs4:Unit=>([.z q0,.y many1,.un,.un]:SL K)) () lea))))))) (λs5=>(yB (λ_:Unit=>([.un,.un,.un,.un]:SL K)) () lea))))))) (by unfold wX; simp only [bnd])⟩
def uS (q0:Str):Option Bool:=(if (!true) = true then some true else some (decide (q0 ∈ (["all","not","both","either","somenext","eachnext","sometill","eachtill","someever","eachever"]:List Str)))).bind λb=>if b = true then some false else ((lenS q0).bind λb1=>if decide ((1:Int) <= b1) = true then some (decide (b1 <= (8:Int))) else some false).bind λc4=>if c4 = true then ((some (zGd q0)).bind λxs=>xM (λ(x2:Str)=>some true) (λ(x2:Str)=>some (inS x2 ("abcdefghijklmnopqrstuvwxyz":Str))) xs).bind λa3=>some (a3.all id) else some false
theorem sc_is_name:FnScope ["name"] ["name"] (zK s_is_name):=fsc
abbrev zI5 (K:PySem.W.Frag):Sp:=spF K false (λa:Str × Unit=>([.z a.1]:SL K)) (λa=>uS a.1)
theorem zMm (F:Fun K "is_name" "is_name" s_is_name f fd) (B:Bl K mg) (m_LETTERS:mg "LETTERS" = some (.str "abcdefghijklmnopqrstuvwxyz" t_LETTERS)) (m_LONGEST_NAME:mg "LONGEST_NAME" = some (.int 8 t_LONGEST_NAME)) (m_SAYING_WORDS:mg "SAYING_WORDS" = some (.ref a_SAYING_WORDS)) (h_SAYING_WORDS:∀ H,SqT K H a_SAYING_WORDS ((["all","not","both","either","somenext","eachnext","sometill","eachtill","someever","eachever"]:List Str).map V.str)) (zall:mg "all" = none) (zstr:mg "str" = none):FnOk P w K mg base CX0 (k + 1) f fd ["name"] (zI5 K):=by
 refine yM F sc_is_name (λ_=>rfl) (λ_=>rfl) λcdv A outer s H E hr=>?_
 have nd:=sc_is_name.nd
 refine ⟨_,(zC (xL (PW.pt (pw_or (zAg (zAf (zO (zBe K (zA5 (n:="str"))) rfl B.isi zBf (zA (pv 0) (zA (uK (v:=.ty "str") rfl zstr zQo rfl) zF))))) (pw_or1 (zU (zA8 K) (pv 0) (zGm (v:=.ref a_SAYING_WORDS) rfl m_SAYING_WORDS rfl) (by with_unfolding_all rfl))))) (zC (zT zAs) zH) zH) (zC (zT (zEa (zK5 op_le op_le zJ (zO zQk rfl B.len PySem.boot_len (zA (pv 0) zF)) (zGm (v:=.int 8) rfl m_LONGEST_NAME ⟨_,rfl⟩)) (zFt (zO (zQn K rfl) rfl zall bt_all (zA (wP (own:=["sign"]) (ix:=[]) rfl rfl rfl (pi_str (pv 0)) (λC s H fp=>yK (i:=0) (show (["sign"]:List Str).Nodup from by decide +kernel) rfl (Or.inl rfl)) (λC s H fp=>wN) (λC s H fp=>(vE zOs (pv 0) (zGm (v:=.str "abcdefghijklmnopqrstuvwxyz") rfl m_LETTERS ⟨_,rfl⟩) (by with_unfolding_all rfl)))) zF))))) zH)),?_⟩
 rintro Fa ⟨q0,⟨⟩⟩
 exact SB.of (vZ (zC4 (zAn (et_b (md:=.hp) (zBv ki_ss rfl (zD 0 rfl)))) (zV (md:=.hp) (ex_inT h_SAYING_WORDS (zD 0 rfl)))) (zX (esc (zAv false))) (zX (esc (zEt (zLo (f:=(λi j=>decide (i <= j))) (g:=(λi j=>decide (i <= j))) (zI 1) (ex_lenS (zD 0 rfl)) (zI 8)) (zSj (wA (n:=true) (slI:=[.un]) (no:=1) (ix:=[]) rfl rfl (ei_str (zD 0 rfl)) (yG 0 rfl rfl) (λx2=>zA1) (λx2=>(esc (ex_inS (zD 0 rfl) (wM "abcdefghijklmnopqrstuvwxyz")))) (λx2=>lea0)).ex))))) (by unfold uS; simp only [bnd])
def wY (q0:List (Str × LI)) (q1:Int):Option Unit:=(some ()).bind λahead1=>((some q0).bind λxs=>xQ (λ(s2:List (Key × Bool)) (x4:Str × LI)=>(((uS x4.1).bind λa5=>some (!a5)).bind λb=>if b = true then none else some ()).bind λs6=>(if ((zIp (Dc.mk s2).kv x4.1).isSome) = true then none else some ()).bind λs8=>(zP9 s2 x4.1 true).bind λahead10=>(((((fsS "mark " x4.1).bind λa12=>some ((a12,()))).bind λb13=>some (q1,b13)).bind λb14=>some (x4.2,b14)).bind λz11=>xA z11.1 z11.2.1 z11.2.2.1).bind λu15=>some ahead10) xs (([]:List (Key × Bool)))).bind λs3=>some ()
theorem sc_check_marks:FnScope ["marks","many","ahead","name","stands"] ["marks","many"] (zK s_check_marks):=fsc
abbrev zHi (K:PySem.W.Frag):Sp:=spF K false (λa:((List (Str × LI))) × Int × Unit=>([.z a.1,.z a.2.1]:SL K)) (λa=>wY a.1 a.2.1)
theorem zFj (F:Fun K "check_marks" "check_marks" s_check_marks f fd) (B:Bl K mg) (C_check_stands:Cal P w K mg base k "check_stands" ["stands","many","where"] (vP K)) (C_is_name:Cal P w K mg base k "is_name" ["name"] (zI5 K)):FnOk P w K mg base CX0 (k + 1) f fd ["marks","many"] (zHi K):=by
 refine zG9 F sc_check_marks (λ_=>rfl) (λ_=>rfl) λcdv A outer s H E hr=>?_
 have nd:=sc_check_marks.nd
 have hu:=zSb hr
 refine ⟨_,(zC (yS 2 nd zGn) (zC (xH PassesOwn.never rfl (yW K (pv 0)) (zAz rfl (zY (pg_n 3 nd) (zY (pg_n 4 nd) wO))) (zC (xL (zAg (zAf (zZ C_is_name hr (zA (pv 3) zF)))) zAh zH) (zC (xL (zD6 (zTl hu (pv 3) (pv 2))) zAh zH) (zC (zJk hu (pv 2) (pv 3) zAs rfl) (zC (yN (zZ C_check_stands hr (zA (pv 4) (zA (pv 1) (zA (pe_fs (pv 3) (by decide)) zF))))) zH))))) zH)),?_⟩
 rintro Fa ⟨q0,q1,⟨⟩⟩
 exact ⟨_,Sn.of (zP (zJe (α:=Bool) 2 rfl rfl) (λahead1=>(zP (vC (n:=false) (L:=(λs2:List (Key × Bool)=>([.z q0,.z q1,.od (s2:List (Key × Bool)),.un,.un]:SL K))) (([]:List (Key × Bool))) lea (xC (yR 0 rfl)) (λs2=>(zAy 3 4 rfl rfl (λ_=>rfl) rfl)) (λs2 x4=>(zP (zBr (zAn (et_b (md:=.hp) (zL (zG (esc (zD 3 rfl)) zN)))) zBm (yB (λs7:Unit=>([.z q0,.z q1,.od (s2:List (Key × Bool)),.z x4.1,.z x4.2]:SL K)) () lea)) (λs6=>(zP (zBr (et_b (md:=.hp) (ex_dinS (zD 3 rfl) (zPx 2 rfl))) zBm (yB (λs9:Unit=>([.z q0,.z q1,.od (s2:List (Key × Bool)),.z x4.1,.z x4.2]:SL K)) () lea)) (λs8=>(zP (zRd 2 rfl rfl (esc (zAv true)) (zD 3 rfl)) (λahead10=>(zP (zCv (md:=.hp) (zL (zG (zE 4 rfl) (zG (esc (zD 1 rfl)) (zG (esc (ex_fsS "mark " (zD 3 rfl))) zN))))) (λu15=>(yB (λs2:List (Key × Bool)=>([.z q0,.z q1,.od (s2:List (Key × Bool)),.un,.un]:SL K)) ahead10 lea))))))))))) (λs3=>(yB (λ_:Unit=>([.un,.un,.un,.un,.un]:SL K)) () lea))))) (by unfold wY; simp only [bnd])⟩
def vT (q0:List LI) (q1:Int):Option Unit:=((some (zC5 q0)).bind λxs=>xQ (λ(s1:Unit) (x3:Int × LI)=>(((((fsI "fair set " x3.1).bind λa5=>some ((a5,()))).bind λb6=>some (q1,b6)).bind λb7=>some (x3.2,b7)).bind λz4=>xA z4.1 z4.2.1 z4.2.2.1).bind λu8=>some ()) xs ()).bind λs2=>some ()
theorem sc_check_fair:FnScope ["fair","many","number","stands"] ["fair","many"] (zK s_check_fair):=fsc
abbrev zI7 (K:PySem.W.Frag):Sp:=spF K false (λa:((List LI)) × Int × Unit=>([.z a.1,.z a.2.1]:SL K)) (λa=>vT a.1 a.2.1)
theorem zGu (F:Fun K "check_fair" "check_fair" s_check_fair f fd) (B:Bl K mg) (C_check_stands:Cal P w K mg base k "check_stands" ["stands","many","where"] (vP K)):FnOk P w K mg base CX0 (k + 1) f fd ["fair","many"] (zI7 K):=by
 refine zG9 F sc_check_fair (λ_=>rfl) (λ_=>rfl) λcdv A outer s H E hr=>?_
 have nd:=sc_check_fair.nd
 refine ⟨_,(zC (xH PassesOwn.never rfl (zEo K B.enum (zA (pv 0) zF)) (zAz rfl (zY (pg_n 2 nd) (zY (pg_n 3 nd) wO))) (zC (yN (zZ C_check_stands hr (zA (pv 3) (zA (pv 1) (zA (pe_fs (pv 2) (by decide)) zF))))) zH)) zH),?_⟩
 rintro Fa ⟨q0,q1,⟨⟩⟩
 exact ⟨_,Sn.of (zP (vC (n:=false) (L:=(λs1:Unit=>([.z q0,.z q1,.un,.un]:SL K))) () lea (zEx (yR 0 rfl)) (λs1=>(zAy 2 3 rfl rfl (λ_=>rfl) rfl)) (λs1 x3=>(zP (zCv (md:=.hp) (zL (zG (zE 3 rfl) (zG (esc (zD 1 rfl)) (zG (esc (zT2 "fair set " (zD 2 rfl))) zN))))) (λu8=>(yB (λs1:Unit=>([.z q0,.z q1,.un,.un]:SL K)) () lea))))) (λs2=>(yB (λ_:Unit=>([.un,.un,.un,.un]:SL K)) () lea))) (by unfold vT; simp only [bnd])⟩
def zBn (q0:List LI):Option (List LI):=(some q0).bind λxs=>xM (λ(x1:LI)=>some true) (λ(x1:LI)=>some x1) xs
theorem sc_copied:FnScope ["lists"] ["lists"] (zK s_copied):=fsc
abbrev zSz (K:PySem.W.Frag):Sp:=spF K false (λa:((List LI)) × Unit=>([.z a.1]:SL K)) (λa=>zBn a.1)
theorem zOu (F:Fun K "copied" "copied" s_copied f fd) (B:Bl K mg):FnOk P w K mg base CX0 (k + 1) f fd ["lists"] (zSz K):=by
 refine yM F sc_copied (λ_=>rfl) (λ_=>rfl) λcdv A outer s H E hr=>?_
 have nd:=sc_copied.nd
 refine ⟨_,(zC (zT (wP (own:=["things"]) (ix:=[]) rfl rfl rfl (yW K (pv 0)) (λC s H fp=>yK (i:=0) (show (["things"]:List Str).Nodup from by decide +kernel) rfl (Or.inl rfl)) (λC s H fp=>wN) (λC s H fp=>(wT (zE1 K) rfl B.list zB5 (zA (pv 0) zF))))) zH),?_⟩
 rintro Fa ⟨q0,⟨⟩⟩
 exact SB.of (zX (wA (n:=false) (slI:=[.un]) (no:=1) (ix:=[]) rfl rfl (xC (yR 0 rfl)) (yG 0 rfl rfl) (λx1=>zA1) (λx1=>(zCk (zE 0 rfl)).ex) (λx1=>lea0)).ex) (by unfold zBn; simp only [bnd])
end
abbrev mkK (C:Addr):=mkG C wX wY vT zBn fSo
section
variable {P:Program} {w:World} {K:PySem.W.Frag} {mg:Str->Option Value} {base:Heap}
def wL (q0:Mach C):Option Int:=some (q0.steps.length:Int)
theorem sc_Machine_many:FnScope ["self"] ["self"] (zK s_Machine_many):=fsc
abbrev zBy (K:PySem.W.Frag) (C:Addr):Sp:=spF K false (λa:(Mach C) × Unit=>([.z a.1]:SL K)) (λa=>wL a.1)
theorem zEg (F:Fun K "many" "Machine.many" s_Machine_many f fd) (B:Bl K mg) (T:Cl K mg C):FnOk P w K mg base CX0 (k + 1) f fd ["self"] (zBy K C):=by
 refine yM F sc_Machine_many (λ_=>rfl) (λ_=>rfl) λcdv A outer s H E hr=>?_
 have nd:=sc_Machine_many.nd
 refine ⟨_,(zC (zT (zO (xJ K) rfl B.len PySem.boot_len (zA (zEb K (pv 0)) zF))) zH),?_⟩
 rintro Fa ⟨q0,⟨⟩⟩
 exact SB.of (zX (esc (xT (zEs T.cl T.nS (zE 0 rfl))))) (by unfold wL; simp only [bnd])
def yH (q0:Mach C) (q1:Int):Option LI:=(atI q0.steps q1).bind λa1=>zHp a1
theorem sc_Machine_next_of:FnScope ["self","stand"] ["self","stand"] (zK s_Machine_next_of):=fsc
abbrev vN (K:PySem.W.Frag) (C:Addr):Sp:=spF K false (λa:(Mach C) × Int × Unit=>([.z a.1,.z a.2.1]:SL K)) (λa=>yH a.1 a.2.1)
theorem zCd (F:Fun K "next_of" "Machine.next_of" s_Machine_next_of f fd) (B:Bl K mg) (T:Cl K mg C) (zsorted:mg "sorted" = none):FnOk P w K mg base CX0 (k + 1) f fd ["self","stand"] (vN K C):=by
 refine yM F sc_Machine_next_of (λ_=>rfl) (λ_=>rfl) λcdv A outer s H E hr=>?_
 have nd:=sc_Machine_next_of.nd
 refine ⟨_,(zC (zT (zO (zF5 K) rfl zsorted zE2 (zA (yD (ixLK K) (zEb K (pv 0)) (pv 1) (λ_ _=>rfl)) zF))) zH),?_⟩
 rintro Fa ⟨q0,q1,⟨⟩⟩
 exact SB.of (zX (zP5 (xF (zEs T.cl T.nS (zE 0 rfl)) (zD 1 rfl))).ex) (by unfold yH; simp only [bnd])
def yF (q0:Mach C) (q1:Int):Option (List Str):=((some q0.marks).bind λxs=>xM (λ(x1:Str × LI)=>some (decide (q1 ∈ x1.2))) (λ(x1:Str × LI)=>some x1.1) xs).bind λa2=>zHo a2
theorem sc_Machine_names_at:FnScope ["self","stand"] ["self","stand"] (zK s_Machine_names_at):=fsc
abbrev wZ (K:PySem.W.Frag) (C:Addr):Sp:=spF K false (λa:(Mach C) × Int × Unit=>([.z a.1,.z a.2.1]:SL K)) (λa=>yF a.1 a.2.1)
theorem zB1 (F:Fun K "names_at" "Machine.names_at" s_Machine_names_at f fd) (B:Bl K mg) (T:Cl K mg C) (zsorted:mg "sorted" = none):FnOk P w K mg base CX0 (k + 1) f fd ["self","stand"] (wZ K C):=by
 refine yM F sc_Machine_names_at (λ_=>rfl) (λ_=>rfl) λcdv A outer s H E hr=>?_
 have nd:=sc_Machine_names_at.nd
 refine ⟨_,(zC (zT (zO (zM6 K) rfl zsorted zE2 (zA (wP (own:=["name","stands"]) (ix:=[1]) rfl rfl rfl (yW K (zEb K (pv 0))) (λC s H fp=>zGl (K:=K) (n:=2) rfl rfl (zY (yK (i:=0) (show (["name","stands","stand"]:List Str).Nodup from by decide +kernel) rfl (Or.inl rfl)) (zY (yK (i:=1) (show (["name","stands","stand"]:List Str).Nodup from by decide +kernel) rfl (Or.inl rfl)) wO))) (λC s H fp=>zD9 (zU (zA8 K) (pv 2) (pv 1) (by with_unfolding_all rfl))) (λC s H fp=>(pv 0))) zF))) zH),?_⟩
 rintro Fa ⟨q0,q1,⟨⟩⟩
 exact SB.of (zX (zSk (wA (n:=false) (slI:=[.un,.un,.z q1]) (no:=2) (ix:=[1]) rfl rfl (xC (zIm T.cl T.nM (yR 0 rfl))) (zAy 0 1 rfl rfl (λ_=>rfl) rfl) (λx1=>(zV (md:=.hp) (zFm (zD 2 rfl) (zE 1 rfl)))) (λx1=>(esc (zD 0 rfl))) (λx1=>lea0)).ex).ex) (by unfold yF; simp only [bnd])
def xN (q0:Mach C):Option LI:=(wL q0).bind λa1=>lrM a1
theorem sc_everywhere:FnScope ["machine"] ["machine"] (zK s_everywhere):=fsc
abbrev uZ (K:PySem.W.Frag) (C:Addr):Sp:=spF K false (λa:(Mach C) × Unit=>([.z a.1]:SL K)) (λa=>xN a.1)
theorem zGt (F:Fun K "everywhere" "everywhere" s_everywhere f fd) (B:Bl K mg) (C_Machine_many:CalM P w K mg base k C "many" ["self"] (zBy K C)):FnOk P w K mg base CX0 (k + 1) f fd ["machine"] (uZ K C):=by
 refine yM F sc_everywhere (λ_=>rfl) (λ_=>rfl) λcdv A outer s H E hr=>?_
 have nd:=sc_everywhere.nd
 refine ⟨_,(zC (zT (zK3 rfl rfl B.list rfl B.range (zA (p_calM0 C_Machine_many hr (pv 0)) zF))) zH),?_⟩
 rintro Fa ⟨q0,⟨⟩⟩
 exact SB.of (zX (zLp (zB2 (by decide +kernel) (zE 0 rfl) zN)).ex) (by unfold xN; simp only [bnd])
def yU (q0:Mach C) (q1:Int):Option LI:=(some (zC5 q0.fair)).bind λxs=>xM (λ(x1:Int × LI)=>some (decide (q1 ∈ x1.2))) (λ(x1:Int × LI)=>some x1.1) xs
theorem sc_fair_numbers:FnScope ["machine","stand"] ["machine","stand"] (zK s_fair_numbers):=fsc
abbrev zAe (K:PySem.W.Frag) (C:Addr):Sp:=spF K false (λa:(Mach C) × Int × Unit=>([.z a.1,.z a.2.1]:SL K)) (λa=>yU a.1 a.2.1)
theorem zEe (F:Fun K "fair_numbers" "fair_numbers" s_fair_numbers f fd) (B:Bl K mg) (T:Cl K mg C):FnOk P w K mg base CX0 (k + 1) f fd ["machine","stand"] (zAe K C):=by
 refine yM F sc_fair_numbers (λ_=>rfl) (λ_=>rfl) λcdv A outer s H E hr=>?_
 have nd:=sc_fair_numbers.nd
 refine ⟨_,(zC (zT (wP (own:=["number","stands"]) (ix:=[1]) rfl rfl rfl (zEo K B.enum (zA (zEb K (pv 0)) zF)) (λC s H fp=>zGl (K:=K) (n:=2) rfl rfl (zY (yK (i:=0) (show (["number","stands","stand"]:List Str).Nodup from by decide +kernel) rfl (Or.inl rfl)) (zY (yK (i:=1) (show (["number","stands","stand"]:List Str).Nodup from by decide +kernel) rfl (Or.inl rfl)) wO))) (λC s H fp=>zD9 (zU (zA8 K) (pv 2) (pv 1) (by with_unfolding_all rfl))) (λC s H fp=>(pv 0)))) zH),?_⟩
 rintro Fa ⟨q0,q1,⟨⟩⟩
 exact SB.of (zX (wA (n:=false) (slI:=[.un,.un,.z q1]) (no:=2) (ix:=[1]) rfl rfl (zEx (zLn T.cl T.nF (yR 0 rfl))) (zAy 0 1 rfl rfl (λ_=>rfl) rfl) (λx1=>(zV (md:=.hp) (zFm (zD 2 rfl) (zE 1 rfl)))) (λx1=>(esc (zD 0 rfl))) (λx1=>lea0)).ex) (by unfold yU; simp only [bnd])
def xY (q0:Mach C):Option LI:=(some (([]:List ((Tp Str) × (Tp Int))))).bind λkeys1=>((xN q0).bind λxs=>xQ (λ(s2:List ((Tp Str) × (Tp Int))) (x4:Int)=>((((yF q0 x4).bind λa6=>some (Tp.mk a6)).bind λa8=>((yU q0 x4).bind λa7=>some (Tp.mk a7)).bind λb9=>some (a8,b9)).bind λa10=>push s2 a10).bind λkeys5=>some keys5) xs keys1).bind λs3=>uO s3
theorem sc_first_numbers:FnScope ["machine","keys","stand"] ["machine"] (zK s_first_numbers):=fsc
abbrev zBj (K:PySem.W.Frag) (C:Addr):Sp:=spF K false (λa:(Mach C) × Unit=>([.z a.1]:SL K)) (λa=>xY a.1)
theorem zDn (F:Fun K "first_numbers" "first_numbers" s_first_numbers f fd) (B:Bl K mg) (ztuple:mg "tuple" = none) (C_Machine_names_at:CalM P w K mg base k C "names_at" ["self","stand"] (wZ K C)) (C_everywhere:Cal P w K mg base k "everywhere" ["machine"] (uZ K C)) (C_fair_numbers:Cal P w K mg base k "fair_numbers" ["machine","stand"] (zAe K C)) (C_numbered1:Cal P w K mg base k "numbered" ["keys"] (zB9 K)):FnOk P w K mg base CX0 (k + 1) f fd ["machine"] (zBj K C):=by
 refine yM F sc_first_numbers (λ_=>rfl) (λ_=>rfl) λcdv A outer s H E hr=>?_
 have nd:=sc_first_numbers.nd
 refine ⟨_,(zC (yS 1 nd (wG zF)) (zC (xH PassesOwn.never rfl (yW K (zZ C_everywhere hr (zA (pv 0) zF))) (pg_n 2 nd) (zC (yN (zBs K PySem.F.plainAttrs_list PySem.F.slot_list_append PySem.F.type_list_append yQ (pv 1) (zA (uJ (zA (wT (zC9 K) rfl ztuple zCq (zA (zFu C_Machine_names_at hr (pv 0) (zA (pv 2) zF)) zF)) (zA (wT (zC9 K) rfl ztuple zCq (zA (zZ C_fair_numbers hr (zA (pv 0) (zA (pv 2) zF))) zF)) zF))) zF))) zH)) (zC (zT (zZ C_numbered1 hr (zA (pv 1) zF))) zH))),?_⟩
 rintro Fa ⟨q0,⟨⟩⟩
 exact SB.of (zM (zA4 true 1 rfl rfl (zA2 (α:=(Tp Str) × (Tp Int)))) (λkeys1=>(zM (vC (n:=true) (L:=(λs2:List ((Tp Str) × (Tp Int))=>([.z q0,.ow true s2,.un]:SL K))) keys1 lea (xC (zL (zG (zE 0 rfl) zN))) (λs2=>(yG 2 rfl rfl)) (λs2 x4=>(zP (xP 1 rfl rfl (vK (zG7 (zB2 (by decide +kernel) (zE 0 rfl) (zG (esc (zD 2 rfl)) zN))) (zG7 (zL (zG (zE 0 rfl) (zG (esc (zD 2 rfl)) zN)))))) (λkeys5=>(yB (λs2:List ((Tp Str) × (Tp Int))=>([.z q0,.ow true s2,.un]:SL K)) keys5 lea))))) (λs3=>(zX (zL (zG (zAb 1 rfl) zN))))))) (by unfold xY; simp only [bnd])
def yY (q0:LI) (q1:LI):Option LI:=((some q1).bind λxs=>xM (λ(x1:Int)=>some true) (λ(x1:Int)=>atI q0 x1) xs).bind λa2=>zDy a2
theorem sc_numbers_of:FnScope ["numbers","stands"] ["numbers","stands"] (zK s_numbers_of):=fsc
abbrev zBh (K:PySem.W.Frag):Sp:=spF K false (λa:LI × LI × Unit=>([.z a.1,.z a.2.1]:SL K)) (λa=>yY a.1 a.2.1)
theorem zGp (F:Fun K "numbers_of" "numbers_of" s_numbers_of f fd) (B:Bl K mg) (zsorted:mg "sorted" = none) (zset:mg "set" = none):FnOk P w K mg base CX0 (k + 1) f fd ["numbers","stands"] (zBh K):=by
 refine yM F sc_numbers_of (λ_=>rfl) (λ_=>rfl) λcdv A outer s H E hr=>?_
 have nd:=sc_numbers_of.nd
 refine ⟨_,(zC (zT (zHz rfl zsorted (zJj K rfl zset (wP (own:=["stand"]) (ix:=[0]) rfl rfl rfl (yW K (pv 1)) (λC s H fp=>yK (i:=0) (show (["stand","numbers"]:List Str).Nodup from by decide +kernel) rfl (Or.inl rfl)) (λC s H fp=>wN) (λC s H fp=>(yD (ixLK K) (pv 1) (pv 0) (λ_ _=>rfl))))))) zH),?_⟩
 rintro Fa ⟨q0,q1,⟨⟩⟩
 exact SB.of (zX (zM2 (wA (n:=false) (slI:=[.un,.z q0]) (no:=1) (ix:=[0]) rfl rfl (xC (yR 1 rfl)) (yG 0 rfl rfl) (λx1=>zA1) (λx1=>(esc (esc (xF (zE 1 rfl) (zD 0 rfl))))) (λx1=>lea0)).ex).ex) (by unfold yY; simp only [bnd])
def yP (q0:Mach C) (q1:LI):Option LI:=(some (([]:List (Int × (Tp Int))))).bind λkeys1=>((xN q0).bind λxs=>xQ (λ(s2:List (Int × (Tp Int))) (x4:Int)=>(((atI q1 x4).bind λa10=>(((((yH q0 x4).bind λa7=>some ((a7,()))).bind λb8=>some (q1,b8)).bind λz6=>yY z6.1 z6.2.1).bind λa9=>some (Tp.mk a9)).bind λb11=>some (a10,b11)).bind λa12=>push s2 a12).bind λkeys5=>some keys5) xs keys1).bind λs3=>uN s3
theorem sc_finer_numbers:FnScope ["machine","numbers","keys","stand"] ["machine","numbers"] (zK s_finer_numbers):=fsc
abbrev zBk (K:PySem.W.Frag) (C:Addr):Sp:=spF K false (λa:(Mach C) × LI × Unit=>([.z a.1,.z a.2.1]:SL K)) (λa=>yP a.1 a.2.1)
theorem zDo (F:Fun K "finer_numbers" "finer_numbers" s_finer_numbers f fd) (B:Bl K mg) (ztuple:mg "tuple" = none) (C_Machine_next_of:CalM P w K mg base k C "next_of" ["self","stand"] (vN K C)) (C_everywhere:Cal P w K mg base k "everywhere" ["machine"] (uZ K C)) (C_numbered2:Cal P w K mg base k "numbered" ["keys"] (zB8 K)) (C_numbers_of:Cal P w K mg base k "numbers_of" ["numbers","stands"] (zBh K)):FnOk P w K mg base CX0 (k + 1) f fd ["machine","numbers"] (zBk K C):=by
 refine yM F sc_finer_numbers (λ_=>rfl) (λ_=>rfl) λcdv A outer s H E hr=>?_
 have nd:=sc_finer_numbers.nd
 refine ⟨_,(zC (yS 2 nd (wG zF)) (zC (xH PassesOwn.never rfl (yW K (zZ C_everywhere hr (zA (pv 0) zF))) (pg_n 3 nd) (zC (yN (zBs K PySem.F.plainAttrs_list PySem.F.slot_list_append PySem.F.type_list_append yQ (pv 2) (zA (uJ (zA (yD (ixLK K) (pv 1) (pv 3) (λ_ _=>rfl)) (zA (wT (zC9 K) rfl ztuple zCq (zA (zZ C_numbers_of hr (zA (pv 1) (zA (zFu C_Machine_next_of hr (pv 0) (zA (pv 3) zF)) zF))) zF)) zF))) zF))) zH)) (zC (zT (zZ C_numbered2 hr (zA (pv 2) zF))) zH))),?_⟩
 rintro Fa ⟨q0,q1,⟨⟩⟩
 exact SB.of (zM (zA4 true 2 rfl rfl (zA2 (α:=Int × (Tp Int)))) (λkeys1=>(zM (vC (n:=true) (L:=(λs2:List (Int × (Tp Int))=>([.z q0,.z q1,.ow true s2,.un]:SL K))) keys1 lea (xC (zL (zG (zE 0 rfl) zN))) (λs2=>(yG 3 rfl rfl)) (λs2 x4=>(zP (xP 2 rfl rfl (vK (esc (xF (zE 1 rfl) (zD 3 rfl))) (zG7 (zL (zG (zE 1 rfl) (zG (zB2 (by decide +kernel) (zE 0 rfl) (zG (esc (zD 3 rfl)) zN)) zN)))))) (λkeys5=>(yB (λs2:List (Int × (Tp Int))=>([.z q0,.z q1,.ow true s2,.un]:SL K)) keys5 lea))))) (λs3=>(zX (zL (zG (zAb 2 rfl) zN))))))) (by unfold yP; simp only [bnd])
def xV (q0:Mach C):Option (List LI):=((xY q0).bind λa2=>some (a2 :: ([]))).bind λtold1=>((((atI told1 (0:Int)).bind λa5=>some ((a5,()))).bind λb6=>some (q0,b6)).bind λz4=>yP z4.1 z4.2.1).bind λfiner3=>(zDb (λs7:(List LI) × LI=>(atI s7.1 (-(1:Int))).bind λb9=>some (!decide (s7.2 = b9))) (λs7:(List LI) × LI=>(push s7.1 s7.2).bind λtold10=>(yP q0 s7.2).bind λfiner11=>some (told10,finer11)) fuel (told1,finer3)).bind λs8=>some s8.1
theorem sc_numberings:FnScope ["machine","told","finer"] ["machine"] (zK s_numberings):=fsc
abbrev zBi (K:PySem.W.Frag) (C:Addr):Sp:=spF K false (λa:(Mach C) × Unit=>([.z a.1]:SL K)) (λa=>xV a.1)
theorem zGq (F:Fun K "numberings" "numberings" s_numberings f fd) (B:Bl K mg) (C_finer_numbers:Cal P w K mg base k "finer_numbers" ["machine","numbers"] (zBk K C)) (C_first_numbers:Cal P w K mg base k "first_numbers" ["machine"] (zBj K C)):FnOk P w K mg base CX0 (k + 1) f fd ["machine"] (zBi K C):=by
 refine yM F sc_numberings (λ_=>rfl) (λ_=>rfl) λcdv A outer s H E hr=>?_
 have nd:=sc_numberings.nd
 refine ⟨_,(zC (yS 1 nd (wG (zA (zZ C_first_numbers hr (zA (pv 0) zF)) zF))) (zC (yS 2 nd (zZ C_finer_numbers hr (zA (pv 0) (zA (yD (ixLK K) (pv 1) zJ (λ_ _=>rfl)) zF)))) (zC (zRp PassesOwn.never (zU (zAl K LI hr) (pv 2) (yD (ixLK K) (pv 1) (pe_un zNm zJ) (λ_ _=>rfl)) (yI _)) (zC (yN (zBs K PySem.F.plainAttrs_list PySem.F.slot_list_append PySem.F.type_list_append yQ (pv 1) (zA (pv 2) zF))) (zC (yS 2 nd (zZ C_finer_numbers hr (zA (pv 0) (zA (pv 2) zF)))) zH))) (zC (zT (pv 1)) zH)))),?_⟩
 rintro Fa ⟨q0,⟨⟩⟩
 exact SB.of (zM (zA4 true 1 rfl rfl (zEv (wB (zL (zG (zE 0 rfl) zN)) zEw) (λa h=>Nat.le_trans ((vX zB3) a h) (by decide)))) (λtold1=>(zM (yJ true 2 rfl rfl (zL (zG (zE 0 rfl) (zG (xF (zAb 1 rfl) (zI 0)) zN)))) (λfiner3=>(zM (zRb (L:=(λs7:(List LI) × LI=>([.z q0,.ow true s7.1,.y s7.2]:SL K))) fuel (told1,finer3) lea (λs7=>(zV (md:=.hp) (zAm (zE 2 rfl) (xF (zAb 1 rfl) (zP1 (zI 1)))))) (λs7=>(zP (xP 1 rfl rfl (yR 2 rfl)) (λtold10=>(zP (yJ true 2 rfl rfl (zL (zG (zE 0 rfl) (zG (zE 2 rfl) zN)))) (λfiner11=>(yB (λs7:(List LI) × LI=>([.z q0,.ow true s7.1,.y s7.2]:SL K)) (told10,finer11) lea))))))) (λs8=>(zGi 1 rfl rfl))))))) (by unfold xV; simp only [bnd])
def wW (q0:Mach C):Option LI:=(xV q0).bind λa1=>atI a1 (-(1:Int))
theorem sc_class_numbers:FnScope ["machine"] ["machine"] (zK s_class_numbers):=fsc
abbrev zBl (K:PySem.W.Frag) (C:Addr):Sp:=spF K false (λa:(Mach C) × Unit=>([.z a.1]:SL K)) (λa=>wW a.1)
theorem zDp (F:Fun K "class_numbers" "class_numbers" s_class_numbers f fd) (B:Bl K mg) (C_numberings:Cal P w K mg base k "numberings" ["machine"] (zBi K C)):FnOk P w K mg base CX0 (k + 1) f fd ["machine"] (zBl K C):=by
 refine yM F sc_class_numbers (λ_=>rfl) (λ_=>rfl) λcdv A outer s H E hr=>?_
 have nd:=sc_class_numbers.nd
 refine ⟨_,(zC (zT (yD (ixLK K) (zZ C_numberings hr (zA (pv 0) zF)) (pe_un zNm zJ) (λ_ _=>rfl))) zH),?_⟩
 rintro Fa ⟨q0,⟨⟩⟩
 exact SB.of (zX (xF (zL (zG (zE 0 rfl) zN)) (zP1 (zI 1)))) (by unfold wW; simp only [bnd])
def yO (q0:LI):Option (List LI):=(((maxM q0).bind λa5=>some (a5 + (1:Int))).bind λa6=>zMc a6).bind λtold1=>((some (zC5 q0)).bind λxs=>xQ (λ(s7:RwD) (x9:Int × Int)=>(zDd s7 x9.2 x9.1).bind λu10=>some u10) xs told1).bind λs8=>some s8.xss
theorem sc_stands_of_numbers:FnScope ["numbers","told","stand","number"] ["numbers"] (zK s_stands_of_numbers):=fsc
abbrev uU (K:PySem.W.Frag):Sp:=spF K false (λa:LI × Unit=>([.z a.1]:SL K)) (λa=>yO a.1)
theorem zBt (F:Fun K "stands_of_numbers" "stands_of_numbers" s_stands_of_numbers f fd) (B:Bl K mg) (zmax:mg "max" = none):FnOk P w K mg base CX0 (k + 1) f fd ["numbers"] (uU K):=by
 refine yM F sc_stands_of_numbers (λ_=>rfl) (λ_=>rfl) λcdv A outer s H E hr=>?_
 have nd:=sc_stands_of_numbers.nd
 refine ⟨_,(zC (zD7 (i:=1) (own:=["number"]) (ix:=[]) nd rfl rfl rfl rfl rfl (yX rfl B.range (zA (yC uA (zO (zQj K rfl) rfl zmax bt_max (zA (pv 0) zF)) zJ) zF)) (λC s H fp=>yK (i:=0) (show (["number"]:List Str).Nodup from by decide +kernel) rfl (Or.inl rfl)) (λC s H fp=>wN) (λC s H fp=>(wG zF))) (zC (xH PassesOwn.never rfl (zEo K B.enum (zA (pv 0) zF)) (zAz rfl (zY (pg_n 2 nd) (zY (pg_n 3 nd) wO))) (zC (yN (zBs K PySem.F.plainAttrs_list PySem.F.slot_list_append PySem.F.type_list_append yQ (yD (ixLK K) (pv 1) (pv 3) (λ_ _=>rfl)) (zA (pv 2) zF))) zH)) (zC (zT (pv 1)) zH))),?_⟩
 rintro Fa ⟨q0,⟨⟩⟩
 exact SB.of (zM (sn_nu 1 rfl rfl (zSl (uB (ex_maxL (zE 0 rfl)) (zI 1)))) (λtold1=>(zM (vC (n:=false) (L:=(λs7:RwD=>([.z q0,.nu (s7:RwD),.un,.un]:SL K))) told1 lea (zEx (yR 0 rfl)) (λs7=>(zAy 2 3 rfl rfl (λ_=>rfl) rfl)) (λs7 x9=>(zP (zHr 1 rfl rfl (zD 3 rfl) (zD 2 rfl)) (λu10=>(yB (λs7:RwD=>([.z q0,.nu (s7:RwD),.un,.un]:SL K)) u10 lea))))) (λs8=>(zKt 1 rfl))))) (by unfold yO; simp only [bnd])
def zA7 (q0:Mach C):Option (List LI):=((wW q0).bind λa2=>some ((a2,()))).bind λz1=>yO z1.1
theorem sc_classes:FnScope ["machine"] ["machine"] (zK s_classes):=fsc
abbrev zI6 (K:PySem.W.Frag) (C:Addr):Sp:=spF K false (λa:(Mach C) × Unit=>([.z a.1]:SL K)) (λa=>zA7 a.1)
theorem zMn (F:Fun K "classes" "classes" s_classes f fd) (B:Bl K mg) (C_class_numbers:Cal P w K mg base k "class_numbers" ["machine"] (zBl K C)) (C_stands_of_numbers:Cal P w K mg base k "stands_of_numbers" ["numbers"] (uU K)):FnOk P w K mg base CX0 (k + 1) f fd ["machine"] (zI6 K C):=by
 refine yM F sc_classes (λ_=>rfl) (λ_=>rfl) λcdv A outer s H E hr=>?_
 have nd:=sc_classes.nd
 refine ⟨_,(zC (zT (zZ C_stands_of_numbers hr (zA (zZ C_class_numbers hr (zA (pv 0) zF)) zF))) zH),?_⟩
 rintro Fa ⟨q0,⟨⟩⟩
 exact SB.of (zX (zL (zG (zL (zG (zE 0 rfl) zN)) zN))) (by unfold zA7; simp only [bnd])
def uM (q0:List Str) (q1:List Str):Option (List Str):=zNw q0 q1
theorem sc_unshared1:FnScope ["one","other"] ["one","other"] (zK s_unshared):=fsc
abbrev zE5 (K:PySem.W.Frag):Sp:=spF K false (λa:(List Str) × (List Str) × Unit=>([.z a.1,.z a.2.1]:SL K)) (λa=>uM a.1 a.2.1)
theorem zH4 (F:Fun K "unshared" "unshared" s_unshared f fd) (B:Bl K mg) (zsorted:mg "sorted" = none) (zset:mg "set" = none):FnOk P w K mg base CX0 (k + 1) f fd ["one","other"] (zE5 K):=by
 refine yM F sc_unshared1 (λ_=>rfl) (λ_=>rfl) λcdv A outer s H E hr=>?_
 have nd:=sc_unshared1.nd
 refine ⟨_,(zC (zT (zOk rfl zsorted (pss_xor (zOg K rfl zset (pv 0)) (zOg K rfl zset (pv 1))))) zH),?_⟩
 rintro Fa ⟨q0,q1,⟨⟩⟩
 exact SB.of (zX (zKd (zE 0 rfl) (zE 1 rfl)).ex) (by unfold uM; simp only [bnd])
def uL (q0:LI) (q1:LI):Option LI:=zNl q0 q1
theorem sc_unshared2:FnScope ["one","other"] ["one","other"] (zK s_unshared):=fsc
abbrev zE4 (K:PySem.W.Frag):Sp:=spF K false (λa:LI × LI × Unit=>([.z a.1,.z a.2.1]:SL K)) (λa=>uL a.1 a.2.1)
theorem zH3 (F:Fun K "unshared" "unshared" s_unshared f fd) (B:Bl K mg) (zsorted:mg "sorted" = none) (zset:mg "set" = none):FnOk P w K mg base CX0 (k + 1) f fd ["one","other"] (zE4 K):=by
 refine yM F sc_unshared2 (λ_=>rfl) (λ_=>rfl) λcdv A outer s H E hr=>?_
 have nd:=sc_unshared2.nd
 refine ⟨_,(zC (zT (zHz rfl zsorted (pst_xor (zJj K rfl zset (pv 0)) (zJj K rfl zset (pv 1))))) zH),?_⟩
 rintro Fa ⟨q0,q1,⟨⟩⟩
 exact SB.of (zX (zM1 (zE 0 rfl) (zE 1 rfl)).ex) (by unfold uL; simp only [bnd])
def wK (q0:Mach C) (q1:Int) (q2:Int):Option (Str × Key):=(((yF q0 q1).bind λa4=>((yF q0 q2).bind λa3=>some ((a3,()))).bind λb5=>some (a4,b5)).bind λz2=>uM z2.1 z2.2.1).bind λnames1=>if (decide ((0:Int) < (names1.length:Int))) = true then ((atI names1 (0:Int)).bind λa6=>some (Sum.inr a6:Key)).bind λb7=>some ((("mark":Str),b7)) else (((((yU q0 q1).bind λa10=>((yU q0 q2).bind λa9=>some ((a9,()))).bind λb11=>some (a10,b11)).bind λz8=>uL z8.1 z8.2.1).bind λa12=>atI a12 (0:Int)).bind λa13=>some (Sum.inl a13:Key)).bind λb14=>some ((("fair":Str),b14))
theorem sc_sight_reason:FnScope ["machine","one","other","names"] ["machine","one","other"] (zK s_sight_reason):=fsc
abbrev zBx (K:PySem.W.Frag) (C:Addr):Sp:=spF K false (λa:(Mach C) × Int × Int × Unit=>([.z a.1,.z a.2.1,.z a.2.2.1]:SL K)) (λa=>wK a.1 a.2.1 a.2.2.1)
theorem zEc (F:Fun K "sight_reason" "sight_reason" s_sight_reason f fd) (B:Bl K mg) (C_Machine_names_at:CalM P w K mg base k C "names_at" ["self","stand"] (wZ K C)) (C_fair_numbers:Cal P w K mg base k "fair_numbers" ["machine","stand"] (zAe K C)) (C_unshared1:Cal P w K mg base k "unshared" ["one","other"] (zE5 K)) (C_unshared2:Cal P w K mg base k "unshared" ["one","other"] (zE4 K)):FnOk P w K mg base CX0 (k + 1) f fd ["machine","one","other"] (zBx K C):=by
 refine yM F sc_sight_reason (λ_=>rfl) (λ_=>rfl) λcdv A outer s H E hr=>?_
 have nd:=sc_sight_reason.nd
 refine ⟨_,(zC (yS 3 nd (zZ C_unshared1 hr (zA (zFu C_Machine_names_at hr (pv 0) (zA (pv 1) zF)) (zA (zFu C_Machine_names_at hr (pv 0) (zA (pv 2) zF)) zF)))) (zC (xL (zU zRy (zO (xJ K) rfl B.len PySem.boot_len (zA (pv 3) zF)) zJ (yI _)) (zC (zT (uJ (zA wQ (zA (yD (ixLK K) (pv 3) zJ (λ_ _=>rfl)) zF)))) zH) zH) (zC (zT (uJ (zA wQ (zA (yD (ixLK K) (zZ C_unshared2 hr (zA (zZ C_fair_numbers hr (zA (pv 0) (zA (pv 1) zF))) (zA (zZ C_fair_numbers hr (zA (pv 0) (zA (pv 2) zF))) zF))) zJ (λ_ _=>rfl)) zF)))) zH))),?_⟩
 rintro Fa ⟨q0,q1,q2,⟨⟩⟩
 exact SB.of (zM (yJ true 3 rfl rfl (zL (zG (zB2 (by decide +kernel) (zE 0 rfl) (zG (esc (zD 1 rfl)) zN)) (zG (zB2 (by decide +kernel) (zE 0 rfl) (zG (esc (zD 2 rfl)) zN)) zN)))) (λnames1=>(vZ (zV (md:=.hp) (zSi (xT (zE 3 rfl)) (zI 0))) (zX (vK (wM "mark") (ex_kS (esc (xF (zE 3 rfl) (zI 0)))))) (zX (vK (wM "fair") (ex_kI (esc (xF (zL (zG (zL (zG (zE 0 rfl) (zG (esc (zD 1 rfl)) zN))) (zG (zL (zG (zE 0 rfl) (zG (esc (zD 2 rfl)) zN))) zN))) (zI 0))))))))) (by unfold wK; simp only [bnd])
def wC (q0:Mach C) (q1:LI) (q2:Int) (q3:Int):Option LI:=((((yH q0 q3).bind λa3=>some ((a3,()))).bind λb4=>some (q1,b4)).bind λz2=>yY z2.1 z2.2.1).bind λknown1=>(yH q0 q2).bind λxs=>xM (λ(x5:Int)=>(atI q1 x5).bind λa6=>some (!decide (a6 ∈ known1))) (λ(x5:Int)=>some x5) xs
theorem sc_steps_aside:FnScope ["machine","numbers","one","other","known"] ["machine","numbers","one","other"] (zK s_steps_aside):=fsc
abbrev zCr (K:PySem.W.Frag) (C:Addr):Sp:=spF K false (λa:(Mach C) × LI × Int × Int × Unit=>([.z a.1,.z a.2.1,.z a.2.2.1,.z a.2.2.2.1]:SL K)) (λa=>wC a.1 a.2.1 a.2.2.1 a.2.2.2.1)
theorem zFg (F:Fun K "steps_aside" "steps_aside" s_steps_aside f fd) (B:Bl K mg) (C_Machine_next_of:CalM P w K mg base k C "next_of" ["self","stand"] (vN K C)) (C_numbers_of:Cal P w K mg base k "numbers_of" ["numbers","stands"] (zBh K)):FnOk P w K mg base CX0 (k + 1) f fd ["machine","numbers","one","other"] (zCr K C):=by
 refine yM F sc_steps_aside (λ_=>rfl) (λ_=>rfl) λcdv A outer s H E hr=>?_
 have nd:=sc_steps_aside.nd
 refine ⟨_,(zC (yS 4 nd (zZ C_numbers_of hr (zA (pv 1) (zA (zFu C_Machine_next_of hr (pv 0) (zA (pv 3) zF)) zF)))) (zC (zT (wP (own:=["stand"]) (ix:=[1,4]) rfl rfl rfl (yW K (zFu C_Machine_next_of hr (pv 0) (zA (pv 2) zF))) (λC s H fp=>yK (i:=0) (show (["stand","numbers","known"]:List Str).Nodup from by decide +kernel) rfl (Or.inl rfl)) (λC s H fp=>zD9 (zU (zCz K) (yD (ixLK K) (pv 1) (pv 0) (λ_ _=>rfl)) (pv 2) (by with_unfolding_all rfl))) (λC s H fp=>(pv 0)))) zH)),?_⟩
 rintro Fa ⟨q0,q1,q2,q3,⟨⟩⟩
 exact SB.of (zM (yJ true 4 rfl rfl (zL (zG (zE 1 rfl) (zG (zB2 (by decide +kernel) (zE 0 rfl) (zG (esc (zD 3 rfl)) zN)) zN)))) (λknown1=>(zX (wA (n:=true) (slI:=[.un,.z q1,.y known1]) (no:=1) (ix:=[1,4]) rfl rfl (xC (zB2 (by decide +kernel) (zE 0 rfl) (zG (esc (zD 2 rfl)) zN))) (yG 0 rfl rfl) (λx5=>(zV (md:=.hp) (zF2 (esc (xF (zE 1 rfl) (zD 0 rfl))) (zE 2 rfl)))) (λx5=>(esc (zD 0 rfl))) (λx5=>lea0)).ex))) (by unfold wC; simp only [bnd])
def wU (q0:Mach C) (q1:LI) (q2:Int) (q3:Int):Option (Str × Key):=(wC q0 q1 q2 q3).bind λasides1=>if (decide ((0:Int) < (asides1.length:Int))) = true then ((atI asides1 (0:Int)).bind λa2=>some (Sum.inl a2:Key)).bind λb3=>some ((("step":Str),b3)) else (((wC q0 q1 q3 q2).bind λa4=>atI a4 (0:Int)).bind λa5=>some (Sum.inl a5:Key)).bind λb6=>some ((("answer":Str),b6))
theorem sc_step_reason:FnScope ["machine","numbers","one","other","asides"] ["machine","numbers","one","other"] (zK s_step_reason):=fsc
abbrev zCs (K:PySem.W.Frag) (C:Addr):Sp:=spF K false (λa:(Mach C) × LI × Int × Int × Unit=>([.z a.1,.z a.2.1,.z a.2.2.1,.z a.2.2.2.1]:SL K)) (λa=>wU a.1 a.2.1 a.2.2.1 a.2.2.2.1)
theorem zFh (F:Fun K "step_reason" "step_reason" s_step_reason f fd) (B:Bl K mg) (C_steps_aside:Cal P w K mg base k "steps_aside" ["machine","numbers","one","other"] (zCr K C)):FnOk P w K mg base CX0 (k + 1) f fd ["machine","numbers","one","other"] (zCs K C):=by
 refine yM F sc_step_reason (λ_=>rfl) (λ_=>rfl) λcdv A outer s H E hr=>?_
 have nd:=sc_step_reason.nd
 refine ⟨_,(zC (yS 4 nd (zZ C_steps_aside hr (zA (pv 0) (zA (pv 1) (zA (pv 2) (zA (pv 3) zF)))))) (zC (xL (zU zRy (zO (xJ K) rfl B.len PySem.boot_len (zA (pv 4) zF)) zJ (yI _)) (zC (zT (uJ (zA wQ (zA (yD (ixLK K) (pv 4) zJ (λ_ _=>rfl)) zF)))) zH) zH) (zC (zT (uJ (zA wQ (zA (yD (ixLK K) (zZ C_steps_aside hr (zA (pv 0) (zA (pv 1) (zA (pv 3) (zA (pv 2) zF))))) zJ (λ_ _=>rfl)) zF)))) zH))),?_⟩
 rintro Fa ⟨q0,q1,q2,q3,⟨⟩⟩
 exact SB.of (zM (yJ true 4 rfl rfl (zL (zG (zE 0 rfl) (zG (zE 1 rfl) (zG (esc (zD 2 rfl)) (zG (esc (zD 3 rfl)) zN)))))) (λasides1=>(vZ (zV (md:=.hp) (zSi (xT (zE 4 rfl)) (zI 0))) (zX (vK (wM "step") (ex_kI (esc (xF (zE 4 rfl) (zI 0)))))) (zX (vK (wM "answer") (ex_kI (esc (xF (zL (zG (zE 0 rfl) (zG (zE 1 rfl) (zG (esc (zD 3 rfl)) (zG (esc (zD 2 rfl)) zN))))) (zI 0))))))))) (by unfold wU; simp only [bnd])
def wV (q0:Mach C) (q1:List LI) (q2:Int) (q3:Int):Option (Option (Int × (Str × Key))):=((some (zC5 q1)).bind λxs=>vJ (λ(s1:Unit) (x3:Int × LI)=>((atI x3.2 q2).bind λa4=>(atI x3.2 q3).bind λb5=>some (!decide (a4 = b5))).bind λb=>if b = true then (if (decide (x3.1 = (0:Int))) = true then ((wK q0 q2 q3).bind λb6=>some (((0:Int),b6))).bind λa7=>some (some a7) else (((((atI q1 (x3.1 - (1:Int))).bind λa9=>some ((a9,(q2,(q3,()))))).bind λb10=>some (q0,b10)).bind λz8=>wU z8.1 z8.2.1 z8.2.2.1 z8.2.2.2.1).bind λb11=>some (x3.1,b11)).bind λa12=>some (some a12)).bind λb=>some (.rt b) else some (.nx ())) xs ()).bind λo=>o.els λs2=>some ((none:Option (Int × (Str × Key))))
theorem sc_parting:FnScope ["machine","rows","one","other","place","numbers"] ["machine","rows","one","other"] (zK s_parting):=fsc
abbrev zI2 (K:PySem.W.Frag) (C:Addr):Sp:=spF K false (λa:(Mach C) × ((List LI)) × Int × Int × Unit=>([.z a.1,.z a.2.1,.z a.2.2.1,.z a.2.2.2.1]:SL K)) (λa=>wV a.1 a.2.1 a.2.2.1 a.2.2.2.1)
theorem zMh (F:Fun K "parting" "parting" s_parting f fd) (B:Bl K mg) (C_sight_reason:Cal P w K mg base k "sight_reason" ["machine","one","other"] (zBx K C)) (C_step_reason:Cal P w K mg base k "step_reason" ["machine","numbers","one","other"] (zCs K C)):FnOk P w K mg base CX0 (k + 1) f fd ["machine","rows","one","other"] (zI2 K C):=by
 refine yM F sc_parting (λ_=>rfl) (λ_=>rfl) λcdv A outer s H E hr=>?_
 have nd:=sc_parting.nd
 refine ⟨_,(zC (xH PassesOwn.never rfl (zEo K B.enum (zA (pv 1) zF)) (zAz rfl (zY (pg_n 4 nd) (zY (pg_n 5 nd) wO))) (zC (xL (zU (zAl K Int hr) (yD (ixLK K) (pv 5) (pv 2) (λ_ _=>rfl)) (yD (ixLK K) (pv 5) (pv 3) (λ_ _=>rfl)) (yI _)) (zC (xL (zU (vU K Int hr) (pv 4) zJ (yI _)) (zC (zT (uJ (zA zJ (zA (zZ C_sight_reason hr (zA (pv 0) (zA (pv 2) (zA (pv 3) zF)))) zF)))) zH) zH) (zC (zT (uJ (zA (pv 4) (zA (zZ C_step_reason hr (zA (pv 0) (zA (yD (ixLK K) (pv 1) (yC zOq (pv 4) zJ) (λ_ _=>rfl)) (zA (pv 2) (zA (pv 3) zF))))) zF)))) zH)) zH) zH)) (zC (zT zOl) zH)),?_⟩
 rintro Fa ⟨q0,q1,q2,q3,⟨⟩⟩
 exact SB.of (zDs (zFp (n:=false) (L:=(λs1:Unit=>([.z q0,.z q1,.z q2,.z q3,.un,.un]:SL K))) () lea (zEx (yR 1 rfl)) (λs1=>(zAy 4 5 rfl rfl (λ_=>rfl) rfl)) (λs1 x3=>(zDz (zV (md:=.hp) (zAm (esc (xF (zE 5 rfl) (zD 2 rfl))) (esc (xF (zE 5 rfl) (zD 3 rfl))))) (vZ (zV (md:=.hp) (vW (zD 4 rfl) (zI 0))) (zX (zJ7 (vK (zI 0) (zL (zG (zE 0 rfl) (zG (esc (zD 2 rfl)) (zG (esc (zD 3 rfl)) zN))))))) (zX (zJ7 (vK (zD 4 rfl) (zL (zG (zE 0 rfl) (zG (xF (zE 1 rfl) (zP0 (zD 4 rfl) (zI 1))) (zG (esc (zD 2 rfl)) (zG (esc (zD 3 rfl)) zN))))))))) (zDc (λs1:Unit=>([.z q0,.z q1,.z q2,.z q3,.un,.un]:SL K)) () lea)))) (λs2=>(zX (zJ9 (α:=Int × (Str × Key)))))) (by unfold wV; simp only [bnd])
def uG (q0:Mach C):Option (List (List (Option (Int × (Str × Key))))):=(xV q0).bind λrows1=>(some (([]:List (List (Option (Int × (Str × Key))))))).bind λtold2=>((xN q0).bind λxs=>xQ (λ(s3:List (List (Option (Int × (Str × Key))))) (x5:Int)=>(((xN q0).bind λxs=>xM (λ(x7:Int)=>some true) (λ(x7:Int)=>wV q0 rows1 x5 x7) xs).bind λa8=>push s3 a8).bind λtold6=>some told6) xs told2).bind λs4=>some s4
theorem sc_partings:FnScope ["machine","rows","told","one"] ["machine"] (zK s_partings):=fsc
abbrev zF6 (K:PySem.W.Frag) (C:Addr):Sp:=spF K false (λa:(Mach C) × Unit=>([.z a.1]:SL K)) (λa=>uG a.1)
theorem zJq (F:Fun K "partings" "partings" s_partings f fd) (B:Bl K mg) (C_everywhere:Cal P w K mg base k "everywhere" ["machine"] (uZ K C)) (C_numberings:Cal P w K mg base k "numberings" ["machine"] (zBi K C)) (C_parting:Cal P w K mg base k "parting" ["machine","rows","one","other"] (zI2 K C)):FnOk P w K mg base CX0 (k + 1) f fd ["machine"] (zF6 K C):=by
 refine yM F sc_partings (λ_=>rfl) (λ_=>rfl) λcdv A outer s H E hr=>?_
 have nd:=sc_partings.nd
 refine ⟨_,(zC (yS 1 nd (zZ C_numberings hr (zA (pv 0) zF))) (zC (yS 2 nd (wG zF)) (zC (xH PassesOwn.never rfl (yW K (zZ C_everywhere hr (zA (pv 0) zF))) (pg_n 3 nd) (zC (yN (zBs K PySem.F.plainAttrs_list PySem.F.slot_list_append PySem.F.type_list_append yQ (pv 2) (zA (wP (own:=["other"]) (ix:=[0,1,3]) rfl rfl rfl (yW K (zZ C_everywhere hr (zA (pv 0) zF))) (λC s H fp=>yK (i:=0) (show (["other","machine","rows","one"]:List Str).Nodup from by decide +kernel) rfl (Or.inl rfl)) (λC s H fp=>wN) (λC s H fp=>(zZ C_parting hr (zA (pv 1) (zA (pv 2) (zA (pv 3) (zA (pv 0) zF))))))) zF))) zH)) (zC (zT (pv 2)) zH)))),?_⟩
 rintro Fa ⟨q0,⟨⟩⟩
 exact SB.of (zM (yJ true 1 rfl rfl (zL (zG (zE 0 rfl) zN))) (λrows1=>(zM (zA4 true 2 rfl rfl (zA2 (α:=List (Option (Int × (Str × Key)))))) (λtold2=>(zM (vC (n:=true) (L:=(λs3:List (List (Option (Int × (Str × Key))))=>([.z q0,.y rows1,.ow true s3,.un]:SL K))) told2 lea (xC (zL (zG (zE 0 rfl) zN))) (λs3=>(yG 3 rfl rfl)) (λs3 x5=>(zP (xP 2 rfl rfl (wA (n:=true) (slI:=[.un,.z q0,.y rows1,.y x5]) (no:=1) (ix:=[0,1,3]) rfl rfl (xC (zL (zG (zE 0 rfl) zN))) (yG 0 rfl rfl) (λx7=>zA1) (λx7=>(zL (zG (zE 1 rfl) (zG (zE 2 rfl) (zG (esc (zD 3 rfl)) (zG (esc (zD 0 rfl)) zN)))))) (λx7=>lea0)).ex) (λtold6=>(yB (λs3:List (List (Option (Int × (Str × Key))))=>([.z q0,.y rows1,.ow true s3,.un]:SL K)) told6 lea))))) (λs4=>(zGi 2 rfl rfl))))))) (by unfold uG; simp only [bnd])
end
end Ts
set_option maxHeartbeats 40000000
namespace Ts
open PySem L2
section
variable {P:Program} {w:World} {K:PySem.W.Frag} {mg:Str->Option Value} {base:Heap}
def zW (q0:Scr) (q1:Int):Option Int:=if (decide (q1 < (q0.ns.length:Int))) = true then atI q0.ns q1 else some (0:Int)
theorem sc_l_cell_at:FnScope ["_law_script","_law_k"] ["_law_script","_law_k"] (zK s_l_cell_at):=fsc
abbrev zAw (K:PySem.W.Frag):Sp:=spF K false (λa:Scr × Int × Unit=>([.z a.1,.z a.2.1]:SL K)) (λa=>zW a.1 a.2.1)
theorem zId (F:Fun K "_law_cell_at" "_law_cell_at" s_l_cell_at f fd) (B:Bl K mg):FnOk P w K mg base CX0 (k + 1) f fd ["_law_script","_law_k"] (zAw K):=by
 refine yM F sc_l_cell_at (λ_=>rfl) (λ_=>rfl) λcdv A outer s H E hr=>?_
 have nd:=sc_l_cell_at.nd
 refine ⟨_,(zC (xL (zU zH2 (pv 1) (zO (xJ K) rfl B.len PySem.boot_len (zA (pv 0) zF)) (yI _)) (zC (zT (yD (ixLK K) (pv 0) (pv 1) (λ_ _=>rfl))) zH) zH) (zC (zT zJ) zH)),?_⟩
 rintro Fa ⟨q0,q1,⟨⟩⟩
 exact SB.of (vZ (zV (md:=.hp) (zKa (zD 1 rfl) (ex_slen (zE 0 rfl)))) (zX (esc (ex_six (zE 0 rfl) (zD 1 rfl)))) (zX (esc (zI 0)))) (by unfold zW; simp only [bnd])
def xX (q0:Int) (q1:Int):Option Int:=((((powM (10:Int) (40:Int)).bind λb1=>modM q0 b1).bind λa2=>mulM a2 (6364136223846793013:Int)).bind λa3=>(mulM (q1 + (1:Int)) (1442695040888963407:Int)).bind λb4=>some (a3 + b4)).bind λa5=>divM a5 (97:Int)
theorem sc_l_mixed:FnScope ["_law_cell","_law_k"] ["_law_cell","_law_k"] (zK s_l_mixed):=fsc
abbrev zCt (K:PySem.W.Frag):Sp:=spF K false (λa:Int × Int × Unit=>([.z a.1,.z a.2.1]:SL K)) (λa=>xX a.1 a.2.1)
theorem zMk (F:Fun K "_law_mixed" "_law_mixed" s_l_mixed f fd) (B:Bl K mg):FnOk P w K mg base CX0 (k + 1) f fd ["_law_cell","_law_k"] (zCt K):=by
 refine yM F sc_l_mixed (λ_=>rfl) (λ_=>rfl) λcdv A outer s H E hr=>?_
 have nd:=sc_l_mixed.nd
 refine ⟨_,(zC (zT (yC xI (yC uA (yC zOr (yC xD (pv 0) (yC op_pow zJ zJ)) zJ) (yC zOr (yC uA (pv 1) zJ) zJ)) zJ)) zH),?_⟩
 rintro Fa ⟨q0,q1,⟨⟩⟩
 exact SB.of (zX (esc (wS (uB (zP2 (xE (zD 0 rfl) (ex_pow (zI 10) (zI 40))) (zI 6364136223846793013)) (zP2 (uB (zD 1 rfl) (zI 1)) (zI 1442695040888963407))) (zI 97)))) (by unfold xX; simp only [bnd])
def xW (q0:Int) (q1:Int):Option Str:=(some ("abcdefghijklmnopqrstuvwxyz":Str)).bind λsome1=>(some ("":Str)).bind λtail2=>(divM q0 (16:Int)).bind λrest3=>((((divM q0 (2:Int)).bind λa7=>modM a7 (8:Int)).bind λa8=>wJ a8).bind λxs=>xQ (λ(s4:Str × Int) (x6:Int)=>(((modM s4.2 (26:Int)).bind λb10=>ixS some1 b10).bind λb11=>addS s4.1 b11).bind λtail9=>(divM s4.2 (26:Int)).bind λrest12=>some (tail9,rest12)) xs (tail2,rest3)).bind λs5=>((modM (s5.2 + q1) (26:Int)).bind λb14=>ixS some1 b14).bind λsign13=>(((addS sign13 s5.1).bind λa17=>((addS s5.1 sign13).bind λa16=>some (a16 :: ([]))).bind λb18=>some (a17 :: b18)).bind λa19=>(modM q0 (2:Int)).bind λb20=>atI a19 b20).bind λmade15=>(some ([("all":Str),("not":Str),("both":Str),("either":Str),("somenext":Str),("eachnext":Str),("sometill":Str),("eachtill":Str),("someever":Str),("eachever":Str)])).bind λwords21=>(if (decide (made15 ∈ words21)) = true then (cutS made15 (-(1:Int))).bind λmade24=>some made24 else some made15).bind λs22=>some s22
theorem sc_l_name_by:FnScope ["_law_cell","_law_k","_law_some","_law_tail","_law_rest","_law_turn","_law_sign","_law_made","_law_words"] ["_law_cell","_law_k"] (zK s_l_name_by):=fsc
abbrev zE8 (K:PySem.W.Frag):Sp:=spF K false (λa:Int × Int × Unit=>([.z a.1,.z a.2.1]:SL K)) (λa=>xW a.1 a.2.1)
seal L2.PE L2.PT L2.PW L2.PA L2.PS L2.PSs L2.PC L2.PG L2.PGs L2.PI L2.PO in
theorem zH9 (F:Fun K "_law_name_by" "_law_name_by" s_l_name_by f fd) (B:Bl K mg):FnOk P w K mg base CX0 (k + 1) f fd ["_law_cell","_law_k"] (zE8 K):=by
 refine yM F sc_l_name_by (λ_=>rfl) (λ_=>rfl) λcdv A outer s H E hr=>?_
 have nd:=sc_l_name_by.nd
 refine ⟨_,(zC (yS 2 nd wQ) (zC (yS 3 nd wQ) (zC (yS 4 nd (yC xI (pv 0) zJ)) (zC (xH PassesOwn.never rfl (yX rfl B.range (zA (yC xD (yC xI (pv 0) zJ) zJ) zF)) (pg_n 5 nd) (zC (yS 3 nd (yC zJp (pv 3) (zTi (pv 2) (yC xD (pv 4) zJ) (λ_ _=>rfl)))) (zC (yS 4 nd (yC xI (pv 4) zJ)) zH))) (zC (yS 6 nd (zTi (pv 2) (yC xD (yC uA (pv 4) (pv 1)) zJ) (λ_ _=>rfl))) (zC (yS 7 nd (yD (ixLK K) (wG (zA (yC zJp (pv 6) (pv 3)) (zA (yC zJp (pv 3) (pv 6)) zF))) (yC xD (pv 0) zJ) (λ_ _=>rfl))) (zC (yS 8 nd (wG (zA wQ (zA wQ (zA wQ (zA wQ (zA wQ (zA wQ (zA wQ (zA wQ (zA wQ (zA wQ zF)))))))))))) (zC (xL (zU (zA8 K) (pv 7) (pv 8) (by with_unfolding_all rfl)) (zC (yS 7 nd (zRq sl_str (pv 7) po_none (po_some (pe_un zNm zJ)))) zH) zH) (zC (zT (pv 7)) zH))))))))),?_⟩
 rintro Fa ⟨q0,q1,⟨⟩⟩
 exact SB.of (zM (yJ true 2 rfl rfl (esc (wM "abcdefghijklmnopqrstuvwxyz"))) (λsome1=>(zM (yJ true 3 rfl rfl (esc (wM ""))) (λtail2=>(zM (yJ true 4 rfl rfl (esc (wS (zD 0 rfl) (zI 16)))) (λrest3=>(zM (vC (n:=true) (L:=(λs4:Str × Int=>([.z q0,.z q1,.y some1,.y s4.1,.y s4.2,.un,.un,.un,.un]:SL K))) (tail2,rest3) lea (wD (xE (wS (zD 0 rfl) (zI 2)) (zI 8))) (λs4=>(yG 5 rfl rfl)) (λs4 x6=>(zP (yJ true 3 rfl rfl (esc (zKc (zD 3 rfl) (esc (zT0 (zD 2 rfl) (xE (zD 4 rfl) (zI 26))))))) (λtail9=>(zP (yJ true 4 rfl rfl (esc (wS (zD 4 rfl) (zI 26)))) (λrest12=>(yB (λs4:Str × Int=>([.z q0,.z q1,.y some1,.y s4.1,.y s4.2,.un,.un,.un,.un]:SL K)) (tail9,rest12) lea))))))) (λs5=>(zM (yJ true 6 rfl rfl (esc (esc (zT0 (zD 2 rfl) (xE (uB (zD 4 rfl) (zD 1 rfl)) (zI 26)))))) (λsign13=>(zM (yJ true 7 rfl rfl (esc (esc (xF (zEv (wB (esc (zKc (zD 6 rfl) (zD 3 rfl))) (wB (esc (zKc (zD 3 rfl) (zD 6 rfl))) zEw)) (λa h=>Nat.le_trans ((vX (vX zB3)) a h) (by decide))).ex (xE (zD 0 rfl) (zI 2)))))) (λmade15=>(zM (yJ true 8 rfl rfl (zEv (wB (esc (wM "all")) (wB (esc (wM "not")) (wB (esc (wM "both")) (wB (esc (wM "either")) (wB (esc (wM "somenext")) (wB (esc (wM "eachnext")) (wB (esc (wM "sometill")) (wB (esc (wM "eachtill")) (wB (esc (wM "someever")) (wB (esc (wM "eachever")) zEw)))))))))) (λa h=>Nat.le_trans ((vX (vX (vX (vX (vX (vX (vX (vX (vX (vX zB3)))))))))) a h) (by decide))).ex) (λwords21=>(zM (zBr (zV (md:=.hp) (zFm (zD 7 rfl) (zE 8 rfl))) (zP (yJ true 7 rfl rfl (esc (esc (ex_cutS (zD 7 rfl) (zP1 (zI 1)))))) (λmade24=>(yB (λs23:Str=>([.z q0,.z q1,.y some1,.y s5.1,.y s5.2,.un,.y sign13,.y s23,.y words21]:SL K)) made24 lea))) (yB (λs23:Str=>([.z q0,.z q1,.y some1,.y s5.1,.y s5.2,.un,.y sign13,.y s23,.y words21]:SL K)) made15 lea)) (λs22=>(zX (esc (zD 7 rfl))))))))))))))))))) (by unfold xW; simp only [bnd])
def vG (q0:Int) (q1:Int):Option LI:=(some ([]:LI)).bind λfound1=>((wJ q1).bind λxs=>xQ (λ(s2:LI × Int) (x4:Int)=>(((modM s2.2 (3:Int)).bind λa5=>some (decide (a5 = (0:Int)))).bind λb=>if b = true then (push s2.1 x4).bind λfound8=>some found8 else some s2.1).bind λs6=>(divM s2.2 (3:Int)).bind λrest9=>some (s6,rest9)) xs (found1,q0)).bind λs3=>(((modM s3.2 (2:Int)).bind λa10=>some (decide (a10 = (1:Int)))).bind λb=>if b = true then (some s3.1.reverse).bind λfound13=>some found13 else some s3.1).bind λs11=>some s11
theorem sc_l_some_of:FnScope ["_law_rest","_law_many","_law_found","_law_k"] ["_law_rest","_law_many"] (zK s_l_some_of):=fsc
abbrev zCa (K:PySem.W.Frag):Sp:=spF K false (λa:Int × Int × Unit=>([.z a.1,.z a.2.1]:SL K)) (λa=>vG a.1 a.2.1)
theorem zH7 (F:Fun K "_law_some_of" "_law_some_of" s_l_some_of f fd) (B:Bl K mg):FnOk P w K mg base CX0 (k + 1) f fd ["_law_rest","_law_many"] (zCa K):=by
 refine yM F sc_l_some_of (λ_=>rfl) (λ_=>rfl) λcdv A outer s H E hr=>?_
 have nd:=sc_l_some_of.nd
 refine ⟨_,(zC (yS 2 nd (wG zF)) (zC (xH PassesOwn.never rfl (yX rfl B.range (zA (pv 1) zF)) (pg_n 3 nd) (zC (xL (zU (vU K Int hr) (yC xD (pv 0) zJ) zJ (yI _)) (zC (yN (zBs K PySem.F.plainAttrs_list PySem.F.slot_list_append PySem.F.type_list_append yQ (pv 2) (zA (pv 3) zF))) zH) zH) (zC (yS 0 nd (yC xI (pv 0) zJ)) zH))) (zC (xL (zU (vU K Int hr) (yC xD (pv 0) zJ) zJ (yI _)) (zC (yN (zOp K PySem.F.plainAttrs_list PySem.F.slot_list_reverse PySem.F.type_list_reverse zFx (pv 2))) zH) zH) (zC (zT (pv 2)) zH)))),?_⟩
 rintro Fa ⟨q0,q1,⟨⟩⟩
 exact SB.of (zM (zA4 true 2 rfl rfl (zA2 (α:=Int))) (λfound1=>(zM (vC (n:=true) (L:=(λs2:LI × Int=>([.z s2.2,.z q1,.ow true s2.1,.un]:SL K))) (found1,q0) lea (wD (zD 1 rfl)) (λs2=>(yG 3 rfl rfl)) (λs2 x4=>(zP (zBr (zV (md:=.hp) (vW (xE (zD 0 rfl) (zI 3)) (zI 0))) (zP (xP 2 rfl rfl (esc (zD 3 rfl))) (λfound8=>(yB (λs7:LI=>([.z s2.2,.z q1,.ow true s7,.y x4]:SL K)) found8 lea))) (yB (λs7:LI=>([.z s2.2,.z q1,.ow true s7,.y x4]:SL K)) s2.1 lea)) (λs6=>(zP (yJ true 0 rfl rfl (esc (wS (zD 0 rfl) (zI 3)))) (λrest9=>(yB (λs2:LI × Int=>([.z s2.2,.z q1,.ow true s2.1,.un]:SL K)) (s6,rest9) (Le.old lea)))))))) (λs3=>(zM (zBr (zV (md:=.hp) (vW (xE (zD 0 rfl) (zI 2)) (zI 1))) (zP (zFq 2 rfl rfl) (λfound13=>(yB (λs12:LI=>([.z s3.2,.z q1,.ow true s12,.un]:SL K)) found13 lea))) (yB (λs12:LI=>([.z s3.2,.z q1,.ow true s12,.un]:SL K)) s3.1 lea)) (λs11=>(zGi 2 rfl rfl))))))) (by unfold vG; simp only [bnd])
def vQ (q0:Scr) (q1:LI) (q2:Int):Option (List LI):=(zW q0 (2:Int)).bind λzBu=>(some (([]:List LI))).bind λplaces2=>((wJ q2).bind λxs=>xQ (λ(s3:List LI) (x5:Int)=>(((wJ (q1.length:Int)).bind λxs=>xM (λ(x7:Int)=>(atI q1 x7).bind λa8=>some (decide (a8 = x5))) (λ(x7:Int)=>some x7) xs).bind λa9=>push s3 a9).bind λplaces6=>some places6) xs places2).bind λs4=>(some (RwD.mk [])).bind λsteps10=>((wJ (q1.length:Int)).bind λxs=>xQ (λ(s11:RwD) (x13:Int)=>(((((atI q1 x13).bind λb15=>some ((50:Int) + b15)).bind λa17=>some ((a17,()))).bind λb18=>some (zBu,b18)).bind λz16=>xX z16.1 z16.2.1).bind λrest14=>(vG rest14 q2).bind λgoals19=>(if (decide ((goals19.length:Int) = (0:Int))) = true then ((modM rest14 q2).bind λa23=>some (a23 :: ([]))).bind λgoals22=>some goals22 else some goals19).bind λs20=>(some ([]:LI)).bind λrow24=>((some s20).bind λxs=>xQ (λ(s25:LI) (x27:Int)=>(((zW q0 ((6:Int) + x13)).bind λa30=>some ((a30,((100:Int) + x27,())))).bind λz29=>xX z29.1 z29.2.1).bind λmore28=>(((atI s4 x27).bind λa34=>(((atI s4 x27).bind λa32=>some (a32.length:Int)).bind λb33=>modM more28 b33).bind λb35=>atI a34 b35).bind λa36=>push s25 a36).bind λrow31=>((atI s4 x27).bind λa41=>((divM more28 (64:Int)).bind λa39=>((atI s4 x27).bind λa38=>some (a38.length:Int)).bind λb40=>modM a39 b40).bind λb42=>atI a41 b42).bind λsecond37=>(if (!decide (second37 ∈ row31)) = true then (push row31 second37).bind λrow45=>some row45 else some row31).bind λs43=>some s43) xs row24).bind λs26=>(zGj s11 s26).bind λsteps46=>some steps46) xs steps10).bind λs12=>(((zW q0 (3:Int)).bind λa49=>some ((a49,((7:Int),())))).bind λz48=>xX z48.1 z48.2.1).bind λrest47=>((((modM rest47 (3:Int)).bind λa50=>some (decide (a50 = (0:Int)))).bind λc57=>if c57 = true then ((divM rest47 (3:Int)).bind λa54=>modM a54 (q1.length:Int)).bind λa55=>((((divM rest47 (3:Int)).bind λa51=>divM a51 (64:Int)).bind λa52=>modM a52 (q1.length:Int)).bind λb53=>atI s12.xss b53).bind λb56=>some (!decide (a55 ∈ b56)) else some false).bind λb=>if b = true then ((((divM rest47 (3:Int)).bind λa61=>divM a61 (64:Int)).bind λa62=>modM a62 (q1.length:Int)).bind λa64=>((divM rest47 (3:Int)).bind λa63=>modM a63 (q1.length:Int)).bind λb65=>zDd s12 a64 b65).bind λu60=>some u60 else some s12).bind λs58=>some s58.xss
theorem sc_l_steps_by:FnScope ["_law_script","_law_maps","_law_bases","_law_kept","_law_places","_law_base","_law_steps","_law_stand","_law_rest","_law_goals","_law_row","_law_goal","_law_more","_law_second"] ["_law_script","_law_maps","_law_bases"] (zK s_l_steps_by):=fsc
abbrev zDk (K:PySem.W.Frag):Sp:=spF K false (λa:Scr × LI × Int × Unit=>([.z a.1,.z a.2.1,.z a.2.2.1]:SL K)) (λa=>vQ a.1 a.2.1 a.2.2.1)
theorem zGr (F:Fun K "_law_steps_by" "_law_steps_by" s_l_steps_by f fd) (B:Bl K mg) (C_l_cell_at:Cal P w K mg base k "_law_cell_at" ["_law_script","_law_k"] (zAw K)) (C_l_mixed:Cal P w K mg base k "_law_mixed" ["_law_cell","_law_k"] (zCt K)) (C_l_some_of:Cal P w K mg base k "_law_some_of" ["_law_rest","_law_many"] (zCa K)):FnOk P w K mg base CX0 (k + 1) f fd ["_law_script","_law_maps","_law_bases"] (zDk K):=by
 refine yM F sc_l_steps_by (λ_=>rfl) (λ_=>rfl) λcdv A outer s H E hr=>?_
 have nd:=sc_l_steps_by.nd
 refine ⟨_,(zC (yS 3 nd (zZ C_l_cell_at hr (zA (pv 0) (zA zJ zF)))) (zC (yS 4 nd (wG zF)) (zC (xH PassesOwn.never rfl (yX rfl B.range (zA (pv 2) zF)) (pg_n 5 nd) (zC (yN (zBs K PySem.F.plainAttrs_list PySem.F.slot_list_append PySem.F.type_list_append yQ (pv 4) (zA (wP (own:=["_law_stand"]) (ix:=[1,5]) rfl rfl rfl (yX rfl B.range (zA (zO (xJ K) rfl B.len PySem.boot_len (zA (pv 1) zF)) zF)) (λC s H fp=>yK (i:=0) (show (["_law_stand","_law_maps","_law_base"]:List Str).Nodup from by decide +kernel) rfl (Or.inl rfl)) (λC s H fp=>zD9 (zU (vU K Int hr) (yD (ixLK K) (pv 1) (pv 0) (λ_ _=>rfl)) (pv 2) (yI _))) (λC s H fp=>(pv 0))) zF))) zH)) (zC (yS 6 nd (wG zF)) (zC (xH PassesOwn.never rfl (yX rfl B.range (zA (zO (xJ K) rfl B.len PySem.boot_len (zA (pv 1) zF)) zF)) (pg_n 7 nd) (zC (yS 8 nd (zZ C_l_mixed hr (zA (pv 3) (zA (yC uA zJ (yD (ixLK K) (pv 1) (pv 7) (λ_ _=>rfl))) zF)))) (zC (yS 9 nd (zZ C_l_some_of hr (zA (pv 8) (zA (pv 2) zF)))) (zC (xL (zU (vU K Int hr) (zO (xJ K) rfl B.len PySem.boot_len (zA (pv 9) zF)) zJ (yI _)) (zC (yS 9 nd (wG (zA (yC xD (pv 8) (pv 2)) zF))) zH) zH) (zC (yS 10 nd (wG zF)) (zC (xH PassesOwn.never rfl (yW K (pv 9)) (pg_n 11 nd) (zC (yS 12 nd (zZ C_l_mixed hr (zA (zZ C_l_cell_at hr (zA (pv 0) (zA (yC uA zJ (pv 7)) zF))) (zA (yC uA zJ (pv 11)) zF)))) (zC (yN (zBs K PySem.F.plainAttrs_list PySem.F.slot_list_append PySem.F.type_list_append yQ (pv 10) (zA (yD (ixLK K) (yD (ixLK K) (pv 4) (pv 11) (λ_ _=>rfl)) (yC xD (pv 12) (zO (xJ K) rfl B.len PySem.boot_len (zA (yD (ixLK K) (pv 4) (pv 11) (λ_ _=>rfl)) zF))) (λ_ _=>rfl)) zF))) (zC (yS 13 nd (yD (ixLK K) (yD (ixLK K) (pv 4) (pv 11) (λ_ _=>rfl)) (yC xD (yC xI (pv 12) zJ) (zO (xJ K) rfl B.len PySem.boot_len (zA (yD (ixLK K) (pv 4) (pv 11) (λ_ _=>rfl)) zF))) (λ_ _=>rfl))) (zC (xL (zU (zCz K) (pv 13) (pv 10) (by with_unfolding_all rfl)) (zC (yN (zBs K PySem.F.plainAttrs_list PySem.F.slot_list_append PySem.F.type_list_append yQ (pv 10) (zA (pv 13) zF))) zH) zH) zH))))) (zC (yN (zBs K PySem.F.plainAttrs_list PySem.F.slot_list_append PySem.F.type_list_append yQ (pv 6) (zA (pv 10) zF))) zH))))))) (zC (yS 8 nd (zZ C_l_mixed hr (zA (zZ C_l_cell_at hr (zA (pv 0) (zA zJ zF))) (zA zJ zF)))) (zC (xL (PW.pt (pw_and (zU (vU K Int hr) (yC xD (pv 8) zJ) zJ (yI _)) (pw_and1 (zU (zCz K) (yC xD (yC xI (pv 8) zJ) (zO (xJ K) rfl B.len PySem.boot_len (zA (pv 1) zF))) (yD (ixLK K) (pv 6) (yC xD (yC xI (yC xI (pv 8) zJ) zJ) (zO (xJ K) rfl B.len PySem.boot_len (zA (pv 1) zF))) (λ_ _=>rfl)) (by with_unfolding_all rfl))))) (zC (yN (zBs K PySem.F.plainAttrs_list PySem.F.slot_list_append PySem.F.type_list_append yQ (yD (ixLK K) (pv 6) (yC xD (yC xI (yC xI (pv 8) zJ) zJ) (zO (xJ K) rfl B.len PySem.boot_len (zA (pv 1) zF))) (λ_ _=>rfl)) (zA (yC xD (yC xI (pv 8) zJ) (zO (xJ K) rfl B.len PySem.boot_len (zA (pv 1) zF))) zF))) zH) zH) (zC (zT (pv 6)) zH)))))))),?_⟩
 rintro Fa ⟨q0,q1,q2,⟨⟩⟩
 exact SB.of (zM (yJ true 3 rfl rfl (esc (zL (zG (zE 0 rfl) (zG (esc (zI 2)) zN))))) (λzBu=>(zM (zA4 true 4 rfl rfl (zA2 (α:=LI))) (λplaces2=>(zM (vC (n:=true) (L:=(λs3:List LI=>([.z q0,.z q1,.z q2,.y zBu,.ow true s3,.un,.un,.un,.un,.un,.un,.un,.un,.un]:SL K))) places2 lea (wD (zD 2 rfl)) (λs3=>(yG 5 rfl rfl)) (λs3 x5=>(zP (xP 4 rfl rfl (wA (n:=true) (slI:=[.un,.z q1,.y x5]) (no:=1) (ix:=[1,5]) rfl rfl (wD (xT (zE 1 rfl))) (yG 0 rfl rfl) (λx7=>(zV (md:=.hp) (vW (esc (xF (zE 1 rfl) (zD 0 rfl))) (zD 2 rfl)))) (λx7=>(esc (zD 0 rfl))) (λx7=>lea0)).ex) (λplaces6=>(yB (λs3:List LI=>([.z q0,.z q1,.z q2,.y zBu,.ow true s3,.un,.un,.un,.un,.un,.un,.un,.un,.un]:SL K)) places6 lea))))) (λs4=>(zM (sn_nu 6 rfl rfl en_nilD) (λsteps10=>(zM (vC (n:=true) (L:=(λs11:RwD=>([.z q0,.z q1,.z q2,.y zBu,.ow true s4,.un,.nu (s11:RwD),.un,.un,.un,.un,.un,.un,.un]:SL K))) steps10 lea (wD (xT (zE 1 rfl))) (λs11=>(yG 7 rfl rfl)) (λs11 x13=>(zP (yJ true 8 rfl rfl (esc (zL (zG (esc (zD 3 rfl)) (zG (esc (uB (zI 50) (esc (xF (zE 1 rfl) (zD 7 rfl))))) zN))))) (λrest14=>(zP (yJ true 9 rfl rfl (zL (zG (esc (zD 8 rfl)) (zG (esc (zD 2 rfl)) zN)))) (λgoals19=>(zP (zBr (zV (md:=.hp) (vW (xT (zE 9 rfl)) (zI 0))) (zP (yJ true 9 rfl rfl (zEv (wB (esc (xE (zD 8 rfl) (zD 2 rfl))) zEw) (λa h=>Nat.le_trans ((vX zB3) a h) (by decide))).ex) (λgoals22=>(yB (λs21:LI=>([.z q0,.z q1,.z q2,.y zBu,.ow true s4,.un,.nu (s11:RwD),.y x13,.y rest14,.y s21,.un,.un,.un,.un]:SL K)) goals22 lea))) (yB (λs21:LI=>([.z q0,.z q1,.z q2,.y zBu,.ow true s4,.un,.nu (s11:RwD),.y x13,.y rest14,.y s21,.un,.un,.un,.un]:SL K)) goals19 lea)) (λs20=>(zP (zA4 true 10 rfl rfl (zA2 (α:=Int))) (λrow24=>(zP (vC (n:=true) (L:=(λs25:LI=>([.z q0,.z q1,.z q2,.y zBu,.ow true s4,.un,.nu (s11:RwD),.y x13,.y rest14,.y s20,.ow true s25,.un,.un,.un]:SL K))) row24 lea (xC (yR 9 rfl)) (λs25=>(yG 11 rfl rfl)) (λs25 x27=>(zP (yJ true 12 rfl rfl (esc (zL (zG (esc (zL (zG (zE 0 rfl) (zG (esc (uB (zI 6) (zD 7 rfl))) zN)))) (zG (esc (uB (zI 100) (zD 11 rfl))) zN))))) (λmore28=>(zP (xP 10 rfl rfl (esc (esc (xF (xF (zAb 4 rfl) (zD 11 rfl)) (xE (zD 12 rfl) (xT (xF (zAb 4 rfl) (zD 11 rfl)))))))) (λrow31=>(zP (yJ true 13 rfl rfl (esc (esc (xF (xF (zAb 4 rfl) (zD 11 rfl)) (xE (wS (zD 12 rfl) (zI 64)) (xT (xF (zAb 4 rfl) (zD 11 rfl)))))))) (λsecond37=>(zP (zBr (zV (md:=.hp) (zF2 (zD 13 rfl) (zAb 10 rfl))) (zP (xP 10 rfl rfl (esc (zD 13 rfl))) (λrow45=>(yB (λs44:LI=>([.z q0,.z q1,.z q2,.y zBu,.ow true s4,.un,.nu (s11:RwD),.y x13,.y rest14,.y s20,.ow true s44,.y x27,.y more28,.y second37]:SL K)) row45 lea))) (yB (λs44:LI=>([.z q0,.z q1,.z q2,.y zBu,.ow true s4,.un,.nu (s11:RwD),.y x13,.y rest14,.y s20,.ow true s44,.y x27,.y more28,.y second37]:SL K)) row31 lea)) (λs43=>(yB (λs25:LI=>([.z q0,.z q1,.z q2,.y zBu,.ow true s4,.un,.nu (s11:RwD),.y x13,.y rest14,.y s20,.ow true s25,.un,.un,.un]:SL K)) s43 lea))))))))))) (λs26=>(zP (sn_appD 6 10 rfl rfl (by decide) rfl) (λsteps46=>(yB (λs11:RwD=>([.z q0,.z q1,.z q2,.y zBu,.ow true s4,.un,.nu (s11:RwD),.un,.un,.un,.un,.un,.un,.un]:SL K)) steps46 lea))))))))))))))) (λs12=>(zM (yJ true 8 rfl rfl (esc (zL (zG (esc (zL (zG (zE 0 rfl) (zG (esc (zI 3)) zN)))) (zG (esc (zI 7)) zN))))) (λrest47=>(zM (zBr (zIn (zV (md:=.hp) (vW (xE (zD 8 rfl) (zI 3)) (zI 0))) (zV (md:=.hp) (zF2 (xE (wS (zD 8 rfl) (zI 3)) (xT (zE 1 rfl))) (xF (zSg 6 rfl) (xE (wS (wS (zD 8 rfl) (zI 3)) (zI 64)) (xT (zE 1 rfl))))))) (zP (zHr 6 rfl rfl (xE (wS (wS (zD 8 rfl) (zI 3)) (zI 64)) (xT (zE 1 rfl))) (xE (wS (zD 8 rfl) (zI 3)) (xT (zE 1 rfl)))) (λu60=>(yB (λs59:RwD=>([.z q0,.z q1,.z q2,.y zBu,.ow true s4,.un,.nu (s59:RwD),.un,.y rest47,.un,.un,.un,.un,.un]:SL K)) u60 lea))) (yB (λs59:RwD=>([.z q0,.z q1,.z q2,.y zBu,.ow true s4,.un,.nu (s59:RwD),.un,.y rest47,.un,.un,.un,.un,.un]:SL K)) s12 lea)) (λs58=>(zKt 6 rfl))))))))))))))) (by unfold vQ; simp only [bnd])
def vH (q0:Int) (q1:Int) (q2:LI) (q3:Int):Option LI:=((((xX q0 ((200:Int) + q1)).bind λa2=>divM a2 ((1:Int) + q1)).bind λa4=>some ((a4,(q3,())))).bind λz3=>vG z3.1 z3.2.1).bind λgoals1=>((wJ (q2.length:Int)).bind λxs=>xM (λ(x6:Int)=>(atI q2 x6).bind λa7=>some (decide (a7 ∈ goals1))) (λ(x6:Int)=>some x6) xs).bind λfound5=>((((divM q0 (7:Int)).bind λa8=>modM a8 (2:Int)).bind λa9=>some (decide (a9 = (1:Int)))).bind λb=>if b = true then (some found5.reverse).bind λfound12=>some found12 else some found5).bind λs10=>(((((divM q0 (14:Int)).bind λa13=>modM a13 (5:Int)).bind λa14=>(modM q1 (9:Int)).bind λb15=>some (decide (a14 = b15))).bind λc16=>if c16 = true then some (decide ((1:Int) < (q2.length:Int))) else some false).bind λb=>if b = true then ((divM q0 (70:Int)).bind λa20=>modM a20 (q2.length:Int)).bind λstand19=>(if (!decide (stand19 ∈ s10)) = true then (push s10 stand19).bind λfound23=>some found23 else some s10).bind λs21=>some s21 else some s10).bind λs17=>some s17
theorem sc_l_sets_by:FnScope ["_law_cell","_law_k","_law_maps","_law_bases","_law_goals","_law_found","_law_stand"] ["_law_cell","_law_k","_law_maps","_law_bases"] (zK s_l_sets_by):=fsc
abbrev zE7 (K:PySem.W.Frag):Sp:=spF K false (λa:Int × Int × LI × Int × Unit=>([.z a.1,.z a.2.1,.z a.2.2.1,.z a.2.2.2.1]:SL K)) (λa=>vH a.1 a.2.1 a.2.2.1 a.2.2.2.1)
theorem zH8 (F:Fun K "_law_sets_by" "_law_sets_by" s_l_sets_by f fd) (B:Bl K mg) (C_l_mixed:Cal P w K mg base k "_law_mixed" ["_law_cell","_law_k"] (zCt K)) (C_l_some_of:Cal P w K mg base k "_law_some_of" ["_law_rest","_law_many"] (zCa K)):FnOk P w K mg base CX0 (k + 1) f fd ["_law_cell","_law_k","_law_maps","_law_bases"] (zE7 K):=by
 refine yM F sc_l_sets_by (λ_=>rfl) (λ_=>rfl) λcdv A outer s H E hr=>?_
 have nd:=sc_l_sets_by.nd
 refine ⟨_,(zC (yS 4 nd (zZ C_l_some_of hr (zA (yC xI (zZ C_l_mixed hr (zA (pv 0) (zA (yC uA zJ (pv 1)) zF))) (yC uA zJ (pv 1))) (zA (pv 3) zF)))) (zC (zD7 (i:=5) (own:=["_law_stand"]) (ix:=[2,4]) nd rfl rfl rfl rfl rfl (yX rfl B.range (zA (zO (xJ K) rfl B.len PySem.boot_len (zA (pv 2) zF)) zF)) (λC s H fp=>yK (i:=0) (show (["_law_stand","_law_maps","_law_goals"]:List Str).Nodup from by decide +kernel) rfl (Or.inl rfl)) (λC s H fp=>zD9 (zU (zA8 K) (yD (ixLK K) (pv 1) (pv 0) (λ_ _=>rfl)) (pv 2) (by with_unfolding_all rfl))) (λC s H fp=>(pv 0))) (zC (xL (zU (vU K Int hr) (yC xD (yC xI (pv 0) zJ) zJ) zJ (yI _)) (zC (yN (zOp K PySem.F.plainAttrs_list PySem.F.slot_list_reverse PySem.F.type_list_reverse zFx (pv 5))) zH) zH) (zC (xL (PW.pt (pw_and (zU (vU K Int hr) (yC xD (yC xI (pv 0) zJ) zJ) (yC xD (pv 1) zJ) (yI _)) (pw_and1 (zU zRy (zO (xJ K) rfl B.len PySem.boot_len (zA (pv 2) zF)) zJ (yI _))))) (zC (yS 6 nd (yC xD (yC xI (pv 0) zJ) (zO (xJ K) rfl B.len PySem.boot_len (zA (pv 2) zF)))) (zC (xL (zU (zCz K) (pv 6) (pv 5) (by with_unfolding_all rfl)) (zC (yN (zBs K PySem.F.plainAttrs_list PySem.F.slot_list_append PySem.F.type_list_append yQ (pv 5) (zA (pv 6) zF))) zH) zH) zH)) zH) (zC (zT (pv 5)) zH))))),?_⟩
 rintro Fa ⟨q0,q1,q2,q3,⟨⟩⟩
 exact SB.of (zM (yJ true 4 rfl rfl (zL (zG (esc (wS (zL (zG (esc (zD 0 rfl)) (zG (esc (uB (zI 200) (zD 1 rfl))) zN))) (uB (zI 1) (zD 1 rfl)))) (zG (esc (zD 3 rfl)) zN)))) (λgoals1=>(zM (zA4 true 5 rfl rfl (wA (n:=true) (slI:=[.un,.z q2,.y goals1]) (no:=1) (ix:=[2,4]) rfl rfl (wD (xT (zE 2 rfl))) (yG 0 rfl rfl) (λx6=>(zV (md:=.hp) (zFm (esc (xF (zE 1 rfl) (zD 0 rfl))) (zE 2 rfl)))) (λx6=>(esc (zD 0 rfl))) (λx6=>lea0))) (λfound5=>(zM (zBr (zV (md:=.hp) (vW (xE (wS (zD 0 rfl) (zI 7)) (zI 2)) (zI 1))) (zP (zFq 5 rfl rfl) (λfound12=>(yB (λs11:LI=>([.z q0,.z q1,.z q2,.z q3,.y goals1,.ow true s11,.un]:SL K)) found12 lea))) (yB (λs11:LI=>([.z q0,.z q1,.z q2,.z q3,.y goals1,.ow true s11,.un]:SL K)) found5 lea)) (λs10=>(zM (zBr (zIn (zV (md:=.hp) (vW (xE (wS (zD 0 rfl) (zI 14)) (zI 5)) (xE (zD 1 rfl) (zI 9)))) (zV (md:=.hp) (zSi (xT (zE 2 rfl)) (zI 1)))) (zP (yJ true 6 rfl rfl (esc (xE (wS (zD 0 rfl) (zI 70)) (xT (zE 2 rfl))))) (λstand19=>(zP (zBr (zV (md:=.hp) (zF2 (zD 6 rfl) (zAb 5 rfl))) (zP (xP 5 rfl rfl (esc (zD 6 rfl))) (λfound23=>(yB (λs22:LI=>([.z q0,.z q1,.z q2,.z q3,.y goals1,.ow true s22,.y stand19]:SL K)) found23 lea))) (yB (λs22:LI=>([.z q0,.z q1,.z q2,.z q3,.y goals1,.ow true s22,.y stand19]:SL K)) s10 lea)) (λs21=>(yB (λs18:LI=>([.z q0,.z q1,.z q2,.z q3,.y goals1,.ow true s18,.un]:SL K)) s21 lea))))) (yB (λs18:LI=>([.z q0,.z q1,.z q2,.z q3,.y goals1,.ow true s18,.un]:SL K)) s10 lea)) (λs17=>(zGi 5 rfl rfl))))))))) (by unfold vH; simp only [bnd])
def uQ (q0:Scr):Option (LI × Int):=(((zW q0 (0:Int)).bind λa2=>modM a2 (8:Int)).bind λb3=>some ((1:Int) + b3)).bind λmany1=>(((((zW q0 (0:Int)).bind λa4=>divM a4 (8:Int)).bind λa5=>modM a5 (8:Int)).bind λa6=>some (decide (a6 = (5:Int)))).bind λb=>if b = true then ((((zW q0 (0:Int)).bind λa10=>divM a10 (64:Int)).bind λa11=>modM a11 (20:Int)).bind λb12=>some ((1:Int) + b12)).bind λmany9=>some many9 else some many1).bind λs7=>(((zW q0 (1:Int)).bind λa14=>modM a14 s7).bind λb15=>some ((1:Int) + b15)).bind λbases13=>(some ([]:LI)).bind λmaps16=>((wJ s7).bind λxs=>xQ (λ(s17:LI) (x19:Int)=>(((((((zW q0 (1:Int)).bind λa22=>some ((a22,(x19,())))).bind λz21=>xX z21.1 z21.2.1).bind λa23=>modM a23 bases13).bind λa24=>(mulM bases13 (if (decide (x19 < bases13)) = true then (1:Int) else 0)).bind λb25=>some (a24 + b25)).bind λb26=>some (min x19 b26)).bind λa27=>push s17 a27).bind λmaps20=>some maps20) xs maps16).bind λs18=>some (s18,bases13)
theorem sc_l_maps_by:FnScope ["_law_script","_law_many","_law_bases","_law_maps","_law_stand"] ["_law_script"] (zK s_l_maps_by):=fsc
abbrev zE9 (K:PySem.W.Frag):Sp:=spF K false (λa:Scr × Unit=>([.z a.1]:SL K)) (λa=>uQ a.1)
theorem zIa (F:Fun K "_law_maps_by" "_law_maps_by" s_l_maps_by f fd) (B:Bl K mg) (zmin:mg "min" = none) (C_l_cell_at:Cal P w K mg base k "_law_cell_at" ["_law_script","_law_k"] (zAw K)) (C_l_mixed:Cal P w K mg base k "_law_mixed" ["_law_cell","_law_k"] (zCt K)):FnOk P w K mg base CX0 (k + 1) f fd ["_law_script"] (zE9 K):=by
 refine yM F sc_l_maps_by (λ_=>rfl) (λ_=>rfl) λcdv A outer s H E hr=>?_
 have nd:=sc_l_maps_by.nd
 refine ⟨_,(zC (yS 1 nd (yC uA zJ (yC xD (zZ C_l_cell_at hr (zA (pv 0) (zA zJ zF))) zJ))) (zC (xL (zU (vU K Int hr) (yC xD (yC xI (zZ C_l_cell_at hr (zA (pv 0) (zA zJ zF))) zJ) zJ) zJ (yI _)) (zC (yS 1 nd (yC uA zJ (yC xD (yC xI (zZ C_l_cell_at hr (zA (pv 0) (zA zJ zF))) zJ) zJ))) zH) zH) (zC (yS 2 nd (yC uA zJ (yC xD (zZ C_l_cell_at hr (zA (pv 0) (zA zJ zF))) (pv 1)))) (zC (yS 3 nd (wG zF)) (zC (xH PassesOwn.never rfl (yX rfl B.range (zA (pv 1) zF)) (pg_n 4 nd) (zC (yN (zBs K PySem.F.plainAttrs_list PySem.F.slot_list_append PySem.F.type_list_append yQ (pv 3) (zA (zO (zIv rfl) rfl zmin zT9 (zA (pv 4) (zA (yC uA (yC xD (zZ C_l_mixed hr (zA (zZ C_l_cell_at hr (zA (pv 0) (zA zJ zF))) (zA (pv 4) zF))) (pv 2)) (yC zOr (pv 2) (wT zQm rfl B.int zQp (zA (vE zH2 (pv 4) (pv 2) (yI _)) zF)))) zF))) zF))) zH)) (zC (zT (uJ (zA (pv 3) (zA (pv 2) zF)))) zH)))))),?_⟩
 rintro Fa ⟨q0,⟨⟩⟩
 exact SB.of (zM (yJ true 1 rfl rfl (esc (uB (zI 1) (xE (zL (zG (zE 0 rfl) (zG (esc (zI 0)) zN))) (zI 8))))) (λmany1=>(zM (zBr (zV (md:=.hp) (vW (xE (wS (zL (zG (zE 0 rfl) (zG (esc (zI 0)) zN))) (zI 8)) (zI 8)) (zI 5))) (zP (yJ true 1 rfl rfl (esc (uB (zI 1) (xE (wS (zL (zG (zE 0 rfl) (zG (esc (zI 0)) zN))) (zI 64)) (zI 20))))) (λmany9=>(yB (λs8:Int=>([.z q0,.y s8,.un,.un,.un]:SL K)) many9 lea))) (yB (λs8:Int=>([.z q0,.y s8,.un,.un,.un]:SL K)) many1 lea)) (λs7=>(zM (yJ true 2 rfl rfl (esc (uB (zI 1) (xE (zL (zG (zE 0 rfl) (zG (esc (zI 1)) zN))) (zD 1 rfl))))) (λbases13=>(zM (zA4 true 3 rfl rfl (zA2 (α:=Int))) (λmaps16=>(zM (vC (n:=true) (L:=(λs17:LI=>([.z q0,.y s7,.y bases13,.ow true s17,.un]:SL K))) maps16 lea (wD (zD 1 rfl)) (λs17=>(yG 4 rfl rfl)) (λs17 x19=>(zP (xP 3 rfl rfl (esc (zP3 (zD 4 rfl) (uB (xE (zL (zG (esc (zL (zG (zE 0 rfl) (zG (esc (zI 1)) zN)))) (zG (esc (zD 4 rfl)) zN))) (zD 2 rfl)) (zP2 (zD 2 rfl) (ex_intb (zKa (zD 4 rfl) (zD 2 rfl)))))))) (λmaps20=>(yB (λs17:LI=>([.z q0,.y s7,.y bases13,.ow true s17,.un]:SL K)) maps20 lea))))) (λs18=>(zTa (sl2:=[.z q0,.y s7,.y bases13,.y s18,.un]) lea (zX (vK (yR 3 rfl) (zD 2 rfl)))))))))))))) (by unfold uQ; simp only [bnd])
def wR (q0:Scr):Option (Tri (List LI) (List (Str × LI)) (List LI)):=((((zW q0 (0:Int)).bind λa1=>divM a1 (512:Int)).bind λa2=>modM a2 (8:Int)).bind λa3=>some (decide (a3 = (3:Int)))).bind λb=>if b = true then (((zW q0 (1:Int)).bind λa5=>modM a5 (29:Int)).bind λb6=>some ((12:Int) + b6)).bind λmany4=>((wJ many4).bind λxs=>xM (λ(x8:Int)=>some true) (λ(x8:Int)=>some ([min (x8 + (1:Int)) (many4 - (1:Int))])) xs).bind λsteps7=>(((((zW q0 (5:Int)).bind λa10=>some ((a10,((0:Int),())))).bind λz9=>xW z9.1 z9.2.1).bind λa11=>some ((a11,[many4 - (1:Int)]))).bind λa12=>some (a12 :: ([]))).bind λa13=>some (Tri.mk steps7 a13 (([]:List LI))) else (uQ q0).bind λv14=>(vQ q0 v14.1 v14.2).bind λsteps15=>(some (([]:List (Str × LI)))).bind λmarks16=>((((zW q0 (4:Int)).bind λa20=>modM a20 (4:Int)).bind λa21=>wJ a21).bind λxs=>xQ (λ(s17:List (Str × LI)) (x19:Int)=>(((((zW q0 (5:Int)).bind λa24=>some ((a24,(x19,())))).bind λz23=>xW z23.1 z23.2.1).bind λa27=>(((zW q0 (4:Int)).bind λa26=>some ((a26,(x19,(v14.1,(v14.2,())))))).bind λz25=>vH z25.1 z25.2.1 z25.2.2.1 z25.2.2.2.1).bind λb28=>some (a27,b28)).bind λa29=>push s17 a29).bind λmarks22=>some marks22) xs marks16).bind λs18=>(some (([]:List LI))).bind λfair30=>(((((zW q0 (5:Int)).bind λa34=>divM a34 (5:Int)).bind λa35=>modM a35 (4:Int)).bind λa36=>wJ a36).bind λxs=>xQ (λ(s31:List LI) (x33:Int)=>((((zW q0 (5:Int)).bind λa39=>some ((a39,((9:Int) + x33,(v14.1,(v14.2,())))))).bind λz38=>vH z38.1 z38.2.1 z38.2.2.1 z38.2.2.2.1).bind λa40=>push s31 a40).bind λfair37=>some fair37) xs fair30).bind λs32=>some (Tri.mk steps15 s18 s32)
theorem sc_l_parts_by:FnScope ["_law_script","_law_many","_law_steps","_law_maps","_law_bases","_law_marks","_law_k","_law_fair"] ["_law_script"] (zK s_l_parts_by):=fsc
abbrev zDl (K:PySem.W.Frag):Sp:=spF K false (λa:Scr × Unit=>([.z a.1]:SL K)) (λa=>wR a.1)
theorem zGs (F:Fun K "_law_parts_by" "_law_parts_by" s_l_parts_by f fd) (B:Bl K mg) (zmin:mg "min" = none) (C_l_cell_at:Cal P w K mg base k "_law_cell_at" ["_law_script","_law_k"] (zAw K)) (C_l_maps_by:Cal P w K mg base k "_law_maps_by" ["_law_script"] (zE9 K)) (C_l_name_by:Cal P w K mg base k "_law_name_by" ["_law_cell","_law_k"] (zE8 K)) (C_l_sets_by:Cal P w K mg base k "_law_sets_by" ["_law_cell","_law_k","_law_maps","_law_bases"] (zE7 K)) (C_l_steps_by:Cal P w K mg base k "_law_steps_by" ["_law_script","_law_maps","_law_bases"] (zDk K)):FnOk P w K mg base CX0 (k + 1) f fd ["_law_script"] (zDl K):=by
 refine yM F sc_l_parts_by (λ_=>rfl) (λ_=>rfl) λcdv A outer s H E hr=>?_
 have nd:=sc_l_parts_by.nd
 refine ⟨_,(zC (xL (zU (vU K Int hr) (yC xD (yC xI (zZ C_l_cell_at hr (zA (pv 0) (zA zJ zF))) zJ) zJ) zJ (yI _)) (zC (yS 1 nd (yC uA zJ (yC xD (zZ C_l_cell_at hr (zA (pv 0) (zA zJ zF))) zJ))) (zC (zD7 (i:=2) (own:=["_law_k"]) (ix:=[1]) nd rfl rfl rfl rfl rfl (yX rfl B.range (zA (pv 1) zF)) (λC s H fp=>yK (i:=0) (show (["_law_k","_law_many"]:List Str).Nodup from by decide +kernel) rfl (Or.inl rfl)) (λC s H fp=>wN) (λC s H fp=>(wG (zA (zO (zIv rfl) rfl zmin zT9 (zA (yC uA (pv 0) zJ) (zA (yC zOq (pv 1) zJ) zF))) zF)))) (zC (zT (uJ (zA (pv 2) (zA (wG (zA (uJ (zA (zZ C_l_name_by hr (zA (zZ C_l_cell_at hr (zA (pv 0) (zA zJ zF))) (zA zJ zF))) (zA (wG (zA (yC zOq (pv 1) zJ) zF)) zF))) zF)) (zA (wG zF) zF))))) zH))) zH) (zC (zK2 (zZ C_l_maps_by hr (zA (pv 0) zF)) (zAz rfl (zY (pg_n 3 nd) (zY (pg_n 4 nd) wO)))) (zC (yS 2 nd (zZ C_l_steps_by hr (zA (pv 0) (zA (pv 3) (zA (pv 4) zF))))) (zC (yS 5 nd (wG zF)) (zC (xH PassesOwn.never rfl (yX rfl B.range (zA (yC xD (zZ C_l_cell_at hr (zA (pv 0) (zA zJ zF))) zJ) zF)) (pg_n 6 nd) (zC (yN (zBs K PySem.F.plainAttrs_list PySem.F.slot_list_append PySem.F.type_list_append yQ (pv 5) (zA (uJ (zA (zZ C_l_name_by hr (zA (zZ C_l_cell_at hr (zA (pv 0) (zA zJ zF))) (zA (pv 6) zF))) (zA (zZ C_l_sets_by hr (zA (zZ C_l_cell_at hr (zA (pv 0) (zA zJ zF))) (zA (pv 6) (zA (pv 3) (zA (pv 4) zF))))) zF))) zF))) zH)) (zC (yS 7 nd (wG zF)) (zC (xH PassesOwn.never rfl (yX rfl B.range (zA (yC xD (yC xI (zZ C_l_cell_at hr (zA (pv 0) (zA zJ zF))) zJ) zJ) zF)) (pg_n 6 nd) (zC (yN (zBs K PySem.F.plainAttrs_list PySem.F.slot_list_append PySem.F.type_list_append yQ (pv 7) (zA (zZ C_l_sets_by hr (zA (zZ C_l_cell_at hr (zA (pv 0) (zA zJ zF))) (zA (yC uA zJ (pv 6)) (zA (pv 3) (zA (pv 4) zF))))) zF))) zH)) (zC (zT (uJ (zA (pv 2) (zA (pv 5) (zA (pv 7) zF))))) zH)))))))),?_⟩
 rintro Fa ⟨q0,⟨⟩⟩
 exact SB.of (vZ (zV (md:=.hp) (vW (xE (wS (zL (zG (zE 0 rfl) (zG (esc (zI 0)) zN))) (zI 512)) (zI 8)) (zI 3))) (zM (yJ true 1 rfl rfl (esc (uB (zI 12) (xE (zL (zG (zE 0 rfl) (zG (esc (zI 1)) zN))) (zI 29))))) (λmany4=>(zM (yJ true 2 rfl rfl (wA (n:=true) (slI:=[.un,.y many4]) (no:=1) (ix:=[1]) rfl rfl (wD (zD 1 rfl)) (yG 0 rfl rfl) (λx8=>zA1) (λx8=>(zEv (wB (esc (zP3 (uB (zD 0 rfl) (zI 1)) (zP0 (zD 1 rfl) (zI 1)))) zEw) (λa h=>Nat.le_trans ((vX zB3) a h) (by decide))).ex) (λx8=>lea0)).ex) (λsteps7=>(zX (zPy (yR 2 rfl) (zEv (wB (vK (zL (zG (esc (zL (zG (zE 0 rfl) (zG (esc (zI 5)) zN)))) (zG (esc (zI 0)) zN))) (zEv (wB (esc (zP0 (zD 1 rfl) (zI 1))) zEw) (λa h=>Nat.le_trans ((vX zB3) a h) (by decide))).ex) zEw) (λa h=>Nat.le_trans ((vX zB3) a h) (by decide))).ex (zA2 (α:=LI)).ex)))))) (zM (zN1 (n:=true) (zL (zG (zE 0 rfl) zN)) (zAy 3 4 rfl rfl (λ_=>rfl) rfl)) (λv14=>(zM (yJ true 2 rfl rfl (zL (zG (zE 0 rfl) (zG (zE 3 rfl) (zG (esc (zD 4 rfl)) zN))))) (λsteps15=>(zM (zA4 true 5 rfl rfl (zA2 (α:=Str × LI))) (λmarks16=>(zM (vC (n:=true) (L:=(λs17:List (Str × LI)=>([.z q0,.un,.y steps15,.y v14.1,.y v14.2,.ow true s17,.un,.un]:SL K))) marks16 lea (wD (xE (zL (zG (zE 0 rfl) (zG (esc (zI 4)) zN))) (zI 4))) (λs17=>(yG 6 rfl rfl)) (λs17 x19=>(zP (xP 5 rfl rfl (vK (zL (zG (esc (zL (zG (zE 0 rfl) (zG (esc (zI 5)) zN)))) (zG (esc (zD 6 rfl)) zN))) (zL (zG (esc (zL (zG (zE 0 rfl) (zG (esc (zI 4)) zN)))) (zG (esc (zD 6 rfl)) (zG (zE 3 rfl) (zG (esc (zD 4 rfl)) zN))))))) (λmarks22=>(yB (λs17:List (Str × LI)=>([.z q0,.un,.y steps15,.y v14.1,.y v14.2,.ow true s17,.un,.un]:SL K)) marks22 lea))))) (λs18=>(zM (zA4 true 7 rfl rfl (zA2 (α:=LI))) (λfair30=>(zM (vC (n:=true) (L:=(λs31:List LI=>([.z q0,.un,.y steps15,.y v14.1,.y v14.2,.ow true s18,.un,.ow true s31]:SL K))) fair30 lea (wD (xE (wS (zL (zG (zE 0 rfl) (zG (esc (zI 5)) zN))) (zI 5)) (zI 4))) (λs31=>(yG 6 rfl rfl)) (λs31 x33=>(zP (xP 7 rfl rfl (zL (zG (esc (zL (zG (zE 0 rfl) (zG (esc (zI 5)) zN)))) (zG (esc (uB (zI 9) (zD 6 rfl))) (zG (zE 3 rfl) (zG (esc (zD 4 rfl)) zN)))))) (λfair37=>(yB (λs31:List LI=>([.z q0,.un,.y steps15,.y v14.1,.y v14.2,.ow true s18,.un,.ow true s31]:SL K)) fair37 lea))))) (λs32=>(zTa (sl2:=[.z q0,.un,.y steps15,.y v14.1,.y v14.2,.y s18,.un,.y s32]) lea (zX (zPy (yR 2 rfl) (yR 5 rfl) (yR 7 rfl))))))))))))))))) (by unfold wR; simp only [bnd])
def uR (C:Addr) (q0:Tri (List LI) (List (Str × LI)) (List LI)):Option (Mach C):=(some q0).bind λv1=>((some v1.b).bind λxs=>xM (λ(x3:Str × LI)=>some true) (λ(x3:Str × LI)=>some (x3.1,x3.2)) xs).bind λsome2=>((some v1.a).bind λxs=>xM (λ(x4:LI)=>some true) (λ(x4:LI)=>some x4) xs).bind λa6=>((some v1.c).bind λxs=>xM (λ(x5:LI)=>some true) (λ(x5:LI)=>some x5) xs).bind λa7=>mkK C a6 (some some2) (some a7)
theorem sc_l_machine:FnScope ["_law_parts","_law_steps","_law_marks","_law_fair","_law_some"] ["_law_parts"] (zK s_l_machine):=fsc
abbrev zFa (K:PySem.W.Frag) (C:Addr):Sp:=spF K false (λa:((Tri (List LI) (List (Str × LI)) (List LI))) × Unit=>([.z a.1]:SL K)) (λa=>uR C a.1)
theorem zIb (F:Fun K "_law_machine" "_law_machine" s_l_machine f fd) (B:Bl K mg) (T:Cl K mg C) (MK:Mk K C fI) (GI:FnOk P w K mg base CX0 k0 fI fdI ["self","steps","marks","fair"] (zNz K C (mkK C))) (bI0:Binds K fdI ["self","steps","marks","fair"] []):FnOk P w K mg base CX0 ((k0 + 1) + 1) f fd ["_law_parts"] (zFa K C):=by
 refine yM F sc_l_machine (λ_=>rfl) (λ_=>rfl) λcdv A outer s H E hr=>?_
 have nd:=sc_l_machine.nd
 refine ⟨_,(zC (zK2 (pv 0) (zAz rfl (zY (pg_n 1 nd) (zY (pg_n 2 nd) (zY (pg_n 3 nd) wO))))) (zC (zD7 (i:=4) (own:=["_law_name","_law_stands"]) (ix:=[]) nd rfl rfl rfl rfl rfl (yW K (pv 2)) (λC s H fp=>zGl (K:=K) (n:=2) rfl rfl (zY (yK (i:=0) (show (["_law_name","_law_stands"]:List Str).Nodup from by decide +kernel) rfl (Or.inl rfl)) (zY (yK (i:=1) (show (["_law_name","_law_stands"]:List Str).Nodup from by decide +kernel) rfl (Or.inl rfl)) wO))) (λC s H fp=>wN) (λC s H fp=>(uJ (zA (pv 0) (zA (wT (zE1 K) rfl B.list zB5 (zA (pv 1) zF)) zF))))) (zC (zT (pe_make MK GI hr rfl T.mgC bI0 .nil zRv (zA (wP (own:=["_law_stands"]) (ix:=[]) rfl rfl rfl (yW K (pv 1)) (λC s H fp=>yK (i:=0) (show (["_law_stands"]:List Str).Nodup from by decide +kernel) rfl (Or.inl rfl)) (λC s H fp=>wN) (λC s H fp=>(wT (zE1 K) rfl B.list zB5 (zA (pv 0) zF)))) (zA (pv 4) (zA (wP (own:=["_law_stands"]) (ix:=[]) rfl rfl rfl (yW K (pv 3)) (λC s H fp=>yK (i:=0) (show (["_law_stands"]:List Str).Nodup from by decide +kernel) rfl (Or.inl rfl)) (λC s H fp=>wN) (λC s H fp=>(wT (zE1 K) rfl B.list zB5 (zA (pv 0) zF)))) zF))))) zH))),?_⟩
 rintro Fa ⟨q0,⟨⟩⟩
 exact SB.of (zM (zS9 (n:=false) (yR 0 rfl) (zNs 1 2 3 rfl rfl (λ_=>rfl) rfl (λ_ _=>rfl) rfl)) (λv1=>(zM (yJ true 4 rfl rfl (wA (n:=false) (slI:=[.un,.un]) (no:=2) (ix:=[]) rfl rfl (xC (yR 2 rfl)) (zAy 0 1 rfl rfl (λ_=>rfl) rfl) (λx3=>zA1) (λx3=>(vK (zD 0 rfl) (zCk (zE 1 rfl)).ex)) (λx3=>lea0)).ex) (λsome2=>(zX (zP7 (wA (n:=false) (slI:=[.un]) (no:=1) (ix:=[]) rfl rfl (xC (yR 1 rfl)) (yG 0 rfl rfl) (λx4=>zA1) (λx4=>(zCk (zE 0 rfl)).ex) (λx4=>lea0)).ex (zE 4 rfl) (wA (n:=false) (slI:=[.un]) (no:=1) (ix:=[]) rfl rfl (xC (yR 3 rfl)) (yG 0 rfl rfl) (λx5=>zA1) (λx5=>(zCk (zE 0 rfl)).ex) (λx5=>lea0)).ex).ex))))) (by unfold uR; simp only [bnd])
def uP (q0:Int):Option Bool:=if true = true then some (!false) else some false
theorem sc_l_whole:FnScope ["_law_found"] ["_law_found"] (zK s_l_whole):=fsc
abbrev zE6 (K:PySem.W.Frag):Sp:=spF K false (λa:Int × Unit=>([.z a.1]:SL K)) (λa=>uP a.1)
theorem zMi (F:Fun K "_law_whole" "_law_whole" s_l_whole f fd) (B:Bl K mg):FnOk P w K mg base CX0 (k + 1) f fd ["_law_found"] (zE6 K):=by
 refine yM F sc_l_whole (λ_=>rfl) (λ_=>rfl) λcdv A outer s H E hr=>?_
 have nd:=sc_l_whole.nd
 refine ⟨_,(zC (zT (zEa (zO (zBe K (zA5 (n:="int"))) rfl B.isi zBf (zA (pv 0) (zA (uK (v:=.ty "int") rfl B.int zQp rfl) zF))) (zFt (zTh (zO (zBe K (zA5 (n:="bool"))) rfl B.isi zBf (zA (pv 0) (zA (uK (v:=.ty "bool") rfl B.bool zQq rfl) zF))))))) zH),?_⟩
 rintro Fa ⟨q0,⟨⟩⟩
 exact SB.of (zX (esc (zEt (zBv B.ii rfl (zD 0 rfl)) (zTz (zBv B.ib rfl (zD 0 rfl)))))) (by unfold uP; simp only [bnd])
def yV (q0:List LI) (q1:Int):Option (Option (Dz Int)):=(some ()).bind λnumbers1=>((wJ (q0.length:Int)).bind λxs=>xQ (λ(s2:List (Key × Int)) (x4:Int)=>((atI q0 x4).bind λxs=>xQ (λ(s5:List (Key × Int)) (x7:Int)=>(dput s5 x7 x4).bind λnumbers8=>some numbers8) xs s2).bind λs6=>some s6) xs (([]:List (Key × Int)))).bind λs3=>((((zFk (Dz.mk s3).kv).bind λxs=>xM (λ(x9:Int)=>some true) (λ(x9:Int)=>some x9) xs).bind λa10=>zHp a10).bind λa11=>(lrM q1).bind λb12=>some (!decide (a11 = b12))).bind λb=>if b = true then some ((none:Option (Dz Int))) else some (some (Dz.mk s3))
theorem sc_l_class_numbers:FnScope ["_law_found","_law_many","_law_numbers","_law_k","_law_stand"] ["_law_found","_law_many"] (zK s_l_class_numbers):=fsc
abbrev zAr (K:PySem.W.Frag):Sp:=spF K false (λa:((List LI)) × Int × Unit=>([.z a.1,.z a.2.1]:SL K)) (λa=>yV a.1 a.2.1)
theorem zCc (F:Fun K "_law_class_numbers" "_law_class_numbers" s_l_class_numbers f fd) (B:Bl K mg) (zsorted:mg "sorted" = none):FnOk P w K mg base CX0 (k + 1) f fd ["_law_found","_law_many"] (zAr K):=by
 refine yM F sc_l_class_numbers (λ_=>rfl) (λ_=>rfl) λcdv A outer s H E hr=>?_
 have nd:=sc_l_class_numbers.nd
 have hu:=zSb hr
 refine ⟨_,(zC (yS 2 nd zGn) (zC (xH PassesOwn.never rfl (yX rfl B.range (zA (zO (xJ K) rfl B.len PySem.boot_len (zA (pv 0) zF)) zF)) (pg_n 3 nd) (zC (xH PassesOwn.never rfl (yW K (yD (ixLK K) (pv 0) (pv 3) (λ_ _=>rfl))) (pg_n 4 nd) (zC (zJk hu (pv 2) (pv 4) (pv 3) rfl) zH)) zH)) (pss_frz 2 (zC (xL (zU (zAl K LI hr) (zO (zF5 K) rfl zsorted zE2 (zA (wP (own:=["_law_stand"]) (ix:=[]) rfl rfl rfl (pi_dict (pv 2)) (λC s H fp=>yK (i:=0) (show (["_law_stand"]:List Str).Nodup from by decide +kernel) rfl (Or.inl rfl)) (λC s H fp=>wN) (λC s H fp=>(pv 0))) zF)) (zK3 rfl rfl B.list rfl B.range (zA (pv 1) zF)) (yI _)) (zC (zT zOl) zH) zH) (zC (zT (pv 2)) zH))))),?_⟩
 rintro Fa ⟨q0,q1,⟨⟩⟩
 exact SB.of (zM (zJe (α:=Int) 2 rfl rfl) (λnumbers1=>(zM (vC (n:=true) (L:=(λs2:List (Key × Int)=>([.z q0,.z q1,.od (s2:List (Key × Int)),.un,.un]:SL K))) (([]:List (Key × Int))) lea (wD (xT (zE 0 rfl))) (λs2=>(yG 3 rfl rfl)) (λs2 x4=>(zP (vC (n:=false) (L:=(λs5:List (Key × Int)=>([.z q0,.z q1,.od (s5:List (Key × Int)),.y x4,.un]:SL K))) s2 lea (xC (xF (yR 0 rfl) (zD 3 rfl))) (λs5=>(yG 4 rfl rfl)) (λs5 x7=>(zP (zN2 2 rfl rfl (esc (zD 3 rfl)) (zD 4 rfl)) (λnumbers8=>(yB (λs5:List (Key × Int)=>([.z q0,.z q1,.od (s5:List (Key × Int)),.y x4,.un]:SL K)) numbers8 lea))))) (λs6=>(yB (λs2:List (Key × Int)=>([.z q0,.z q1,.od (s2:List (Key × Int)),.un,.un]:SL K)) s6 lea))))) (λs3=>(sb_frz 2 rfl rfl (vZ (zV (md:=.hp) (zAm (zP5 (wA (n:=true) (slI:=[.un]) (no:=1) (ix:=[]) rfl rfl (ei_dzI (yR (n:=true) 2 rfl).up) (yG 0 rfl rfl) (λx9=>zA1) (λx9=>(esc (zD 0 rfl))) (λx9=>lea0)).ex).ex (zLp (zD 1 rfl)).ex)) (zX (zJ9 (α:=Dz Int))) (zX (zJ7 (yR 2 rfl))))))))) (by unfold yV; simp only [bnd])
def zAj (q0:List (List (Option (Int × (Str × Key))))) (q1:Int):Option Bool:=(if (!true) = true then some true else some (!decide ((q0.length:Int) = q1))).bind λb=>if b = true then some false else ((some q0).bind λxs=>vJ (λ(s1:Unit) (x3:List (Option (Int × (Str × Key))))=>(if (!true) = true then some true else some (!decide ((x3.length:Int) = q1))).bind λb=>if b = true then (some false).bind λb=>some (.rt b) else ((some x3).bind λxs=>vJ (λ(s4:Unit) (x6:Option (Int × (Str × Key)))=>((if x6.isSome = true then (if (!x6.isSome) = true then some true else ((x6.bind λ_=>some (2:Int)).bind λa9=>some (!decide (a9 = (2:Int)))).bind λc17=>if c17 = true then some true else ((((x6.bind λa10=>some a10.1).bind λa12=>some ((a12,()))).bind λz11=>uP z11.1).bind λa13=>some (!a13)).bind λc16=>if c16 = true then some true else (x6.bind λa14=>some a14.1).bind λa15=>some (decide (a15 < (0:Int)))).bind λb=>if b = true then (some false).bind λb=>some (.rt b) else ((((x6.bind λa18=>some a18.2).bind λ_=>some true).bind λa19=>some (!a19)).bind λc26=>if c26 = true then some true else (((x6.bind λa20=>some a20.2).bind λ_=>some (2:Int)).bind λa21=>some (!decide (a21 = (2:Int)))).bind λc25=>if c25 = true then some true else (((x6.bind λa22=>some a22.2).bind λa23=>some a23.1).bind λ_=>some true).bind λa24=>some (!a24)).bind λb=>if b = true then (some false).bind λb=>some (.rt b) else some (.nx ()) else some (.nx ())):Option (Out Unit Bool)).bind λo=>o.thn λs7=>some (.nx ())) xs ()).bind λo=>o.thn λs5=>some (.nx ())) xs ()).bind λo=>o.els λs2=>some true
theorem sc_l_formed:FnScope ["_law_found","_law_many","_law_row","_law_one"] ["_law_found","_law_many"] (zK s_l_formed):=fsc
abbrev zF7 (K:PySem.W.Frag):Sp:=spF K false (λa:((List (List (Option (Int × (Str × Key)))))) × Int × Unit=>([.z a.1,.z a.2.1]:SL K)) (λa=>zAj a.1 a.2.1)
theorem zJr (F:Fun K "_law_formed" "_law_formed" s_l_formed f fd) (B:Bl K mg) (zstr:mg "str" = none) (ztuple:mg "tuple" = none) (C_l_whole:Cal P w K mg base k "_law_whole" ["_law_found"] (zE6 K)):FnOk P w K mg base CX0 (k + 1) f fd ["_law_found","_law_many"] (zF7 K):=by
 refine yM F sc_l_formed (λ_=>rfl) (λ_=>rfl) λcdv A outer s H E hr=>?_
 have nd:=sc_l_formed.nd
 refine ⟨_,(zC (xL (PW.pt (pw_or (zAg (zAf (zO (zBe K (zA5 (n:="list"))) rfl B.isi zBf (zA (pv 0) (zA (uK (v:=.ty "list") rfl B.list zB5 rfl) zF))))) (pw_or1 (zU (zAl K Int hr) (zO (xJ K) rfl B.len PySem.boot_len (zA (pv 0) zF)) (pv 1) (yI _))))) (zC (zT zAs) zH) zH) (zC (xH PassesOwn.never rfl (yW K (pv 0)) (pg_n 2 nd) (zC (xL (PW.pt (pw_or (zAg (zAf (zO (zBe K (zA5 (n:="list"))) rfl B.isi zBf (zA (pv 2) (zA (uK (v:=.ty "list") rfl B.list zB5 rfl) zF))))) (pw_or1 (zU (zAl K Int hr) (zO (xJ K) rfl B.len PySem.boot_len (zA (pv 2) zF)) (pv 1) (yI _))))) (zC (zT zAs) zH) zH) (zC (xH PassesOwn.never rfl (yW K (pv 2)) (pg_n 3 nd) (zC (xL (zD6 (zJn (pv 3))) (zC (xL (PW.pt (pw_or (zAg (zAf (zO (zBe K (zA5 (n:="tuple"))) rfl B.isi zBf (zA (pv 3) (zA (uK (v:=.ty "tuple") rfl ztuple zCq rfl) zF))))) (pw_or (zU (zAl K Int hr) (zO (xJ K) rfl B.len PySem.boot_len (zA (pv 3) zF)) zJ (yI _)) (pw_or (zAg (zAf (zZ C_l_whole hr (zA (yD (ixTK K) (pv 3) zJ (λ_ _=>rfl)) zF)))) (pw_or1 (zU zH2 (yD (ixTK K) (pv 3) zJ (λ_ _=>rfl)) zJ (yI _))))))) (zC (zT zAs) zH) zH) (zC (xL (PW.pt (pw_or (zAg (zAf (zO (zBe K (zA5 (n:="tuple"))) rfl B.isi zBf (zA (yD (ixTK K) (pv 3) zJ (λ_ _=>rfl)) (zA (uK (v:=.ty "tuple") rfl ztuple zCq rfl) zF))))) (pw_or (zU (zAl K Int hr) (zO (xJ K) rfl B.len PySem.boot_len (zA (yD (ixTK K) (pv 3) zJ (λ_ _=>rfl)) zF)) zJ (yI _)) (pw_or1 (zAg (zAf (zO (zBe K (zA5 (n:="str"))) rfl B.isi zBf (zA (yD (ixTK K) (yD (ixTK K) (pv 3) zJ (λ_ _=>rfl)) zJ (λ_ _=>rfl)) (zA (uK (v:=.ty "str") rfl zstr zQo rfl) zF))))))))) (zC (zT zAs) zH) zH) zH)) zH) zH)) zH))) (zC (zT zAs) zH))),?_⟩
 rintro Fa ⟨q0,q1,⟨⟩⟩
 exact SB.of (vZ (zC4 (zAn (et_b (md:=.hp) (zBv B.ll rfl (zE 0 rfl)))) (zV (md:=.hp) (zAm (xT (zE 0 rfl)) (zD 1 rfl)))) (zX (esc (zAv false))) (zDs (zFp (n:=false) (L:=(λs1:Unit=>([.z q0,.z q1,.un,.un]:SL K))) () lea (xC (yR 0 rfl)) (λs1=>(yG 2 rfl rfl)) (λs1 x3=>(zDz (zC4 (zAn (et_b (md:=.hp) (zBv B.ll rfl (zE 2 rfl)))) (zV (md:=.hp) (zAm (xT (zE 2 rfl)) (zD 1 rfl)))) (zX (esc (zAv false))) (zGc (zFp (n:=false) (L:=(λs4:Unit=>([.z q0,.z q1,.z x3,.un]:SL K))) () lea (xC (yR 2 rfl)) (λs4=>(yG 3 rfl rfl)) (λs4 x6=>(zGc (sx_if (et_b (md:=.hp) (zJ8 (zE 3 rfl))) (zDz (zC4 (zAn (et_b (md:=.hp) (zSh (zE 3 rfl)))) (zC4 (zV (md:=.hp) (zAm (zP4 (zA0 (zE 3 rfl))) (zI 2))) (zC4 (zAn (et_b (md:=.hp) (zL (zG (esc (esc (zDi (zA0 (zE 3 rfl)) (zI 0)))) zN)))) (zV (md:=.hp) (zKa (esc (zDi (zA0 (zE 3 rfl)) (zI 0))) (zI 0)))))) (zX (esc (zAv false))) (zDz (zC4 (zAn (et_b (md:=.hp) (zBv ki_tt rfl (uX (zA0 (zE 3 rfl)) (zI 1))))) (zC4 (zV (md:=.hp) (zAm (zP4 (uX (zA0 (zE 3 rfl)) (zI 1))) (zI 2))) (zAn (et_b (md:=.hp) (zBv ki_ss rfl (esc (zDi (uX (zA0 (zE 3 rfl)) (zI 1)) (zI 0)))))))) (zX (esc (zAv false))) (zDc (λs8:Unit=>([.z q0,.z q1,.z x3,.z x6]:SL K)) () lea))) (zDc (λs8:Unit=>([.z q0,.z q1,.z x3,.z x6]:SL K)) () lea)) (λs7=>(zDc (λs4:Unit=>([.z q0,.z q1,.z x3,.un]:SL K)) () lea))))) (λs5=>(zDc (λs1:Unit=>([.z q0,.z q1,.un,.un]:SL K)) () lea)))))) (λs2=>(zX (esc (zAv true)))))) (by unfold zAj; simp only [bnd])
def yZ (q0:Option (Int × (Str × Key))) (q1:Int):Option Bool:=if q0.isSome = true then (q0.bind λa1=>some a1.1).bind λa2=>some (decide (a2 < q1)) else some false
theorem sc_l_earlier:FnScope ["_law_parted","_law_turn"] ["_law_parted","_law_turn"] (zK s_l_earlier):=fsc
abbrev zFb (K:PySem.W.Frag):Sp:=spF K false (λa:((Option (Int × (Str × Key)))) × Int × Unit=>([.z a.1,.z a.2.1]:SL K)) (λa=>yZ a.1 a.2.1)
theorem zIc (F:Fun K "_law_earlier" "_law_earlier" s_l_earlier f fd) (B:Bl K mg):FnOk P w K mg base CX0 (k + 1) f fd ["_law_parted","_law_turn"] (zFb K):=by
 refine yM F sc_l_earlier (λ_=>rfl) (λ_=>rfl) λcdv A outer s H E hr=>?_
 have nd:=sc_l_earlier.nd
 refine ⟨_,(zC (zT (zEa (zTk (zJn (pv 0))) (zFt (vE zH2 (yD (ixTK K) (pv 0) zJ (λ_ _=>rfl)) (pv 1) (yI _))))) zH),?_⟩
 rintro Fa ⟨q0,q1,⟨⟩⟩
 exact SB.of (zX (esc (zEt (zJ8 (zE 0 rfl)) (zKa (esc (zDi (zA0 (zE 0 rfl)) (zI 0))) (zD 1 rfl))))) (by unfold yZ; simp only [bnd])
def zA6 (q0:Tri (List LI) (List (Str × LI)) (List LI)) (q1:List (List (Option (Int × (Str × Key))))) (q2:Int) (q3:Int):Option Bool:=(some q0).bind λv1=>(((atI q1 q2).bind λa3=>atI a3 q3).bind λa4=>a4).bind λv2=>if (decide (v2.2.1 = ("mark":Str))) = true then ((some v1.b).bind λxs=>vJ (λ(s5:Unit) (x7:Str × LI)=>((keyS v2.2.2).bind λb8=>some (decide (x7.1 = b8))).bind λb=>if b = true then (((keyS v2.2.2).bind λ_=>some true).bind λc9=>if c9 = true then some (!decide ((decide (q2 ∈ x7.2)) = (decide (q3 ∈ x7.2)))) else some false).bind λb=>some (.rt b) else some (.nx ())) xs ()).bind λo=>o.els λs6=>some false else (((((keyI v2.2.2).bind λa11=>some ((a11,()))).bind λz10=>uP z10.1).bind λa12=>some (!a12)).bind λc14=>if c14 = true then some true else (keyI v2.2.2).bind λa13=>some (decide (a13 < (0:Int)))).bind λb=>if b = true then some false else if (decide (v2.2.1 = ("fair":Str))) = true then ((keyI v2.2.2).bind λa15=>some (decide (a15 < (v1.c.length:Int)))).bind λc22=>if c22 = true then (((keyI v2.2.2).bind λb16=>atI v1.c b16).bind λb17=>some (decide (q2 ∈ b17))).bind λa20=>(((keyI v2.2.2).bind λb18=>atI v1.c b18).bind λb19=>some (decide (q3 ∈ b19))).bind λb21=>some (!decide (a20 = b21)) else some false else (if (decide (v2.2.1 = ("step":Str))) = true then (keyI v2.2.2).bind λa23=>(atI v1.a q2).bind λb24=>some (decide (a23 ∈ b24)) else some false).bind λb=>if b = true then ((atI v1.a q3).bind λxs=>xM (λ(x25:Int)=>some true) (λ(x25:Int)=>((((keyI v2.2.2).bind λb30=>atI q1 b30).bind λa31=>atI a31 x25).bind λa33=>some ((a33,(v2.1,())))).bind λz32=>yZ z32.1 z32.2.1) xs).bind λb34=>some (!decide (false ∈ b34)) else (if (decide (v2.2.1 = ("answer":Str))) = true then (keyI v2.2.2).bind λa35=>(atI v1.a q3).bind λb36=>some (decide (a35 ∈ b36)) else some false).bind λb=>if b = true then ((atI v1.a q2).bind λxs=>xM (λ(x37:Int)=>some true) (λ(x37:Int)=>(((atI q1 x37).bind λa42=>(keyI v2.2.2).bind λb43=>atI a42 b43).bind λa45=>some ((a45,(v2.1,())))).bind λz44=>yZ z44.1 z44.2.1) xs).bind λb46=>some (!decide (false ∈ b46)) else some false
theorem sc_l_holds:FnScope ["_law_parts","_law_found","_law_one","_law_other","_law_steps","_law_marks","_law_fair","_law_turn","_law_reason","_law_name","_law_stands"] ["_law_parts","_law_found","_law_one","_law_other"] (zK s_l_holds):=fsc
abbrev zI4 (K:PySem.W.Frag):Sp:=spF K false (λa:((Tri (List LI) (List (Str × LI)) (List LI))) × ((List (List (Option (Int × (Str × Key)))))) × Int × Int × Unit=>([.z a.1,.z a.2.1,.z a.2.2.1,.z a.2.2.2.1]:SL K)) (λa=>zA6 a.1 a.2.1 a.2.2.1 a.2.2.2.1)
theorem zMl (F:Fun K "_law_holds" "_law_holds" s_l_holds f fd) (B:Bl K mg) (zstr:mg "str" = none) (C_l_earlier:Cal P w K mg base k "_law_earlier" ["_law_parted","_law_turn"] (zFb K)) (C_l_whole:Cal P w K mg base k "_law_whole" ["_law_found"] (zE6 K)):FnOk P w K mg base CX0 (k + 1) f fd ["_law_parts","_law_found","_law_one","_law_other"] (zI4 K):=by
 refine yM F sc_l_holds (λ_=>rfl) (λ_=>rfl) λcdv A outer s H E hr=>?_
 have nd:=sc_l_holds.nd
 refine ⟨_,(zC (zK2 (pv 0) (zAz rfl (zY (pg_n 4 nd) (zY (pg_n 5 nd) (zY (pg_n 6 nd) wO))))) (zC (zK2 (yD (ixLK K) (yD (ixLK K) (pv 1) (pv 2) (λ_ _=>rfl)) (pv 3) (λ_ _=>rfl)) (zAz rfl (zY (pg_n 7 nd) (zY (pg_n 8 nd) wO)))) (zC (xL (zU (vU K Str hr) (yD (ixTK K) (pv 8) zJ (λ_ _=>rfl)) wQ (yI _)) (zC (xH PassesOwn.never rfl (yW K (pv 5)) (zAz rfl (zY (pg_n 9 nd) (zY (pg_n 10 nd) wO))) (zC (xL (zU (vU K Str hr) (pv 9) (yD (ixTK K) (pv 8) zJ (λ_ _=>rfl)) (yI _)) (zC (zT (zEa (zO (zBe K (zA5 (n:="str"))) rfl B.isi zBf (zA (yD (ixTK K) (pv 8) zJ (λ_ _=>rfl)) (zA (uK (v:=.ty "str") rfl zstr zQo rfl) zF))) (zFt (vE (zAl K Bool hr) (vE (zA8 K) (pv 2) (pv 10) (by with_unfolding_all rfl)) (vE (zA8 K) (pv 3) (pv 10) (by with_unfolding_all rfl)) (yI _))))) zH) zH) zH)) (zC (zT zAs) zH)) zH) (zC (xL (PW.pt (pw_or (zAg (zAf (zZ C_l_whole hr (zA (yD (ixTK K) (pv 8) zJ (λ_ _=>rfl)) zF)))) (pw_or1 (zU zH2 (yD (ixTK K) (pv 8) zJ (λ_ _=>rfl)) zJ (yI _))))) (zC (zT zAs) zH) zH) (zC (xL (zU (vU K Str hr) (yD (ixTK K) (pv 8) zJ (λ_ _=>rfl)) wQ (yI _)) (zC (zT (zEa (vE zH2 (yD (ixTK K) (pv 8) zJ (λ_ _=>rfl)) (zO (xJ K) rfl B.len PySem.boot_len (zA (pv 6) zF)) (yI _)) (zFt (vE (zAl K Bool hr) (vE (zA8 K) (pv 2) (yD (ixLK K) (pv 6) (yD (ixTK K) (pv 8) zJ (λ_ _=>rfl)) (λ_ _=>rfl)) (by with_unfolding_all rfl)) (vE (zA8 K) (pv 3) (yD (ixLK K) (pv 6) (yD (ixTK K) (pv 8) zJ (λ_ _=>rfl)) (λ_ _=>rfl)) (by with_unfolding_all rfl)) (yI _))))) zH) zH) (zC (xL (PW.pt (pw_and (zU (vU K Str hr) (yD (ixTK K) (pv 8) zJ (λ_ _=>rfl)) wQ (yI _)) (pw_and1 (zU (zA8 K) (yD (ixTK K) (pv 8) zJ (λ_ _=>rfl)) (yD (ixLK K) (pv 4) (pv 2) (λ_ _=>rfl)) (by with_unfolding_all rfl))))) (zC (zT (vE (zCz K) zAs (wP (own:=["_law_stand"]) (ix:=[1,8,7]) rfl rfl rfl (yW K (yD (ixLK K) (pv 4) (pv 3) (λ_ _=>rfl))) (λC s H fp=>yK (i:=0) (show (["_law_stand","_law_found","_law_reason","_law_turn"]:List Str).Nodup from by decide +kernel) rfl (Or.inl rfl)) (λC s H fp=>wN) (λC s H fp=>(zZ C_l_earlier hr (zA (yD (ixLK K) (yD (ixLK K) (pv 1) (yD (ixTK K) (pv 2) zJ (λ_ _=>rfl)) (λ_ _=>rfl)) (pv 0) (λ_ _=>rfl)) (zA (pv 3) zF))))) (by with_unfolding_all rfl))) zH) zH) (zC (xL (PW.pt (pw_and (zU (vU K Str hr) (yD (ixTK K) (pv 8) zJ (λ_ _=>rfl)) wQ (yI _)) (pw_and1 (zU (zA8 K) (yD (ixTK K) (pv 8) zJ (λ_ _=>rfl)) (yD (ixLK K) (pv 4) (pv 3) (λ_ _=>rfl)) (by with_unfolding_all rfl))))) (zC (zT (vE (zCz K) zAs (wP (own:=["_law_stand"]) (ix:=[1,8,7]) rfl rfl rfl (yW K (yD (ixLK K) (pv 4) (pv 2) (λ_ _=>rfl))) (λC s H fp=>yK (i:=0) (show (["_law_stand","_law_found","_law_reason","_law_turn"]:List Str).Nodup from by decide +kernel) rfl (Or.inl rfl)) (λC s H fp=>wN) (λC s H fp=>(zZ C_l_earlier hr (zA (yD (ixLK K) (yD (ixLK K) (pv 1) (pv 0) (λ_ _=>rfl)) (yD (ixTK K) (pv 2) zJ (λ_ _=>rfl)) (λ_ _=>rfl)) (zA (pv 3) zF))))) (by with_unfolding_all rfl))) zH) zH) (zC (zT zAs) zH)))))))),?_⟩
 rintro Fa ⟨q0,q1,q2,q3,⟨⟩⟩
 exact SB.of (zM (zS9 (n:=false) (yR 0 rfl) (zNs 4 5 6 rfl rfl (λ_=>rfl) rfl (λ_ _=>rfl) rfl)) (λv1=>(zM (zN1 (n:=false) (zA0 (xF (xF (yR 1 rfl) (zD 2 rfl)) (zD 3 rfl))) (zAy 7 8 rfl rfl (λ_=>rfl) rfl)) (λv2=>(vZ (zV (md:=.hp) (vW (esc (zDi (zE 8 rfl) (zI 0))) (wM "mark"))) (zDs (zFp (n:=false) (L:=(λs5:Unit=>([.z q0,.z q1,.z q2,.z q3,.z v1.a,.z v1.b,.z v1.c,.z v2.1,.z v2.2,.un,.un]:SL K))) () lea (xC (yR 5 rfl)) (λs5=>(zAy 9 10 rfl rfl (λ_=>rfl) rfl)) (λs5 x7=>(zDz (zV (md:=.hp) (vW (zD 9 rfl) (zTy (esc (uX (zE 8 rfl) (zI 1)))))) (zX (esc (zEt (zBv ki_ss rfl (zTy (esc (uX (zE 8 rfl) (zI 1))))) (zAm (zFm (zD 2 rfl) (zE 10 rfl)) (zFm (zD 3 rfl) (zE 10 rfl)))))) (zDc (λs5:Unit=>([.z q0,.z q1,.z q2,.z q3,.z v1.a,.z v1.b,.z v1.c,.z v2.1,.z v2.2,.un,.un]:SL K)) () lea)))) (λs6=>(zX (esc (zAv false))))) (vZ (zC4 (zAn (et_b (md:=.hp) (zL (zG (esc (zCj (esc (uX (zE 8 rfl) (zI 1))))) zN)))) (zV (md:=.hp) (zKa (zCj (esc (uX (zE 8 rfl) (zI 1)))) (zI 0)))) (zX (esc (zAv false))) (vZ (zV (md:=.hp) (vW (esc (zDi (zE 8 rfl) (zI 0))) (wM "fair"))) (zX (esc (zEt (zKa (zCj (esc (uX (zE 8 rfl) (zI 1)))) (xT (zE 6 rfl))) (zAm (zFm (zD 2 rfl) (xF (zE 6 rfl) (zCj (esc (uX (zE 8 rfl) (zI 1)))))) (zFm (zD 3 rfl) (xF (zE 6 rfl) (zCj (esc (uX (zE 8 rfl) (zI 1)))))))))) (vZ (zIn (zV (md:=.hp) (vW (esc (zDi (zE 8 rfl) (zI 0))) (wM "step"))) (zV (md:=.hp) (zFm (zCj (esc (uX (zE 8 rfl) (zI 1)))) (xF (zE 4 rfl) (zD 2 rfl))))) (zX (esc (zF2 (zAv false) (wA (n:=false) (slI:=[.un,.z q1,.z v2.2,.z v2.1]) (no:=1) (ix:=[1,8,7]) rfl rfl (xC (xF (yR 4 rfl) (zD 3 rfl))) (yG 0 rfl rfl) (λx25=>zA1) (λx25=>(esc (zL (zG (xF (xF (zE 1 rfl) (zCj (esc (uX (zE 2 rfl) (zI 1))))) (zD 0 rfl)) (zG (esc (zD 3 rfl)) zN))))) (λx25=>lea0)).ex))) (vZ (zIn (zV (md:=.hp) (vW (esc (zDi (zE 8 rfl) (zI 0))) (wM "answer"))) (zV (md:=.hp) (zFm (zCj (esc (uX (zE 8 rfl) (zI 1)))) (xF (zE 4 rfl) (zD 3 rfl))))) (zX (esc (zF2 (zAv false) (wA (n:=false) (slI:=[.un,.z q1,.z v2.2,.z v2.1]) (no:=1) (ix:=[1,8,7]) rfl rfl (xC (xF (yR 4 rfl) (zD 2 rfl))) (yG 0 rfl rfl) (λx37=>zA1) (λx37=>(esc (zL (zG (xF (xF (zE 1 rfl) (zD 0 rfl)) (zCj (esc (uX (zE 2 rfl) (zI 1))))) (zG (esc (zD 3 rfl)) zN))))) (λx37=>lea0)).ex))) (zX (esc (zAv false)))))))))))) (by unfold zA6; simp only [bnd])
def vR (q0:Tri (List LI) (List (Str × LI)) (List LI)) (q1:Dz Int) (q2:List (List (Option (Int × (Str × Key))))) (q3:Int):Option Bool:=((zAj q2 q3).bind λa1=>some (!a1)).bind λb=>if b = true then some false else ((wJ q3).bind λxs=>vJ (λ(s2:Unit) (x4:Int)=>((wJ q3).bind λxs=>vJ (λ(s5:Unit) (x7:Int)=>((((atI q2 x4).bind λa8=>atI a8 x7).bind λa9=>some a9.isNone).bind λa12=>((dget q1.kv x4).bind λa10=>(dget q1.kv x7).bind λb11=>some (decide (a10 = b11))).bind λb13=>some (!decide (a12 = b13))).bind λb=>if b = true then (some false).bind λb=>some (.rt b) else ((((atI q2 x4).bind λa14=>atI a14 x7).bind λa15=>some a15.isSome).bind λc17=>if c17 = true then (zA6 q0 q2 x4 x7).bind λa16=>some (!a16) else some false).bind λb=>if b = true then (some false).bind λb=>some (.rt b) else some (.nx ())) xs ()).bind λo=>o.thn λs6=>some (.nx ())) xs ()).bind λo=>o.els λs3=>some true
theorem sc_l_right:FnScope ["_law_parts","_law_numbers","_law_found","_law_many","_law_one","_law_other"] ["_law_parts","_law_numbers","_law_found","_law_many"] (zK s_l_right):=fsc
abbrev zI3 (K:PySem.W.Frag):Sp:=spF K false (λa:((Tri (List LI) (List (Str × LI)) (List LI))) × (Dz Int) × ((List (List (Option (Int × (Str × Key)))))) × Int × Unit=>([.z a.1,.z a.2.1,.z a.2.2.1,.z a.2.2.2.1]:SL K)) (λa=>vR a.1 a.2.1 a.2.2.1 a.2.2.2.1)
theorem zMj (F:Fun K "_law_right" "_law_right" s_l_right f fd) (B:Bl K mg) (C_l_formed:Cal P w K mg base k "_law_formed" ["_law_found","_law_many"] (zF7 K)) (C_l_holds:Cal P w K mg base k "_law_holds" ["_law_parts","_law_found","_law_one","_law_other"] (zI4 K)):FnOk P w K mg base CX0 (k + 1) f fd ["_law_parts","_law_numbers","_law_found","_law_many"] (zI3 K):=by
 refine yM F sc_l_right (λ_=>rfl) (λ_=>rfl) λcdv A outer s H E hr=>?_
 have nd:=sc_l_right.nd
 have hu:=zSb hr
 refine ⟨_,(zC (xL (zAg (zAf (zZ C_l_formed hr (zA (pv 2) (zA (pv 3) zF))))) (zC (zT zAs) zH) zH) (zC (xH PassesOwn.never rfl (yX rfl B.range (zA (pv 3) zF)) (pg_n 4 nd) (zC (xH PassesOwn.never rfl (yX rfl B.range (zA (pv 3) zF)) (pg_n 5 nd) (zC (xL (zU (zAl K Bool hr) (zTk (zK6 (yD (ixLK K) (yD (ixLK K) (pv 2) (pv 4) (λ_ _=>rfl)) (pv 5) (λ_ _=>rfl)))) (vE (vU K Int hr) (zOm hu (pv 1) (pv 4) (λ_ _=>rfl)) (zOm hu (pv 1) (pv 5) (λ_ _=>rfl)) (yI _)) (yI _)) (zC (zT zAs) zH) zH) (zC (xL (PW.pt (pw_and (zD6 (zJn (yD (ixLK K) (yD (ixLK K) (pv 2) (pv 4) (λ_ _=>rfl)) (pv 5) (λ_ _=>rfl)))) (pw_and1 (zAg (zAf (zZ C_l_holds hr (zA (pv 0) (zA (pv 2) (zA (pv 4) (zA (pv 5) zF)))))))))) (zC (zT zAs) zH) zH) zH))) zH)) (zC (zT zAs) zH))),?_⟩
 rintro Fa ⟨q0,q1,q2,q3,⟨⟩⟩
 exact SB.of (vZ (zAn (et_b (md:=.hp) (zL (zG (zE 2 rfl) (zG (esc (zD 3 rfl)) zN))))) (zX (esc (zAv false))) (zDs (zFp (n:=true) (L:=(λs2:Unit=>([.z q0,.z q1,.z q2,.z q3,.un,.un]:SL K))) () lea (wD (zD 3 rfl)) (λs2=>(yG 4 rfl rfl)) (λs2 x4=>(zGc (zFp (n:=true) (L:=(λs5:Unit=>([.z q0,.z q1,.z q2,.z q3,.y x4,.un]:SL K))) () lea (wD (zD 3 rfl)) (λs5=>(yG 5 rfl rfl)) (λs5 x7=>(zDz (zV (md:=.hp) (zAm (zLm (xF (xF (zE 2 rfl) (zD 4 rfl)) (zD 5 rfl))) (vW (esc (zPw (zE 1 rfl) (zD 4 rfl))) (esc (zPw (zE 1 rfl) (zD 5 rfl)))))) (zX (esc (zAv false))) (zDz (zIn (et_b (md:=.hp) (zJ8 (xF (xF (zE 2 rfl) (zD 4 rfl)) (zD 5 rfl)))) (zAn (et_b (md:=.hp) (zL (zG (zE 0 rfl) (zG (zE 2 rfl) (zG (esc (zD 4 rfl)) (zG (esc (zD 5 rfl)) zN)))))))) (zX (esc (zAv false))) (zDc (λs5:Unit=>([.z q0,.z q1,.z q2,.z q3,.y x4,.un]:SL K)) () lea))))) (λs6=>(zDc (λs2:Unit=>([.z q0,.z q1,.z q2,.z q3,.un,.un]:SL K)) () lea))))) (λs3=>(zX (esc (zAv true)))))) (by unfold vR; simp only [bnd])
end
end Ts
set_option maxHeartbeats 40000000
namespace Ts
open PySem L2
section
variable {P:Program} {w:World} {K:PySem.W.Frag} {mg:Str->Option Value} {base:Heap}
def zOo (C:Addr) (q0:Scr):Option Bool:=(wR q0).bind λparts1=>(some (parts1.a.length:Int)).bind λmany2=>(uR C parts1).bind λmachinehere3=>(((zA7 machinehere3).bind λa6=>some ((a6,(many2,())))).bind λz5=>yV z5.1 z5.2.1).bind λnumbers4=>(uG machinehere3).bind λfound7=>(if (!decide (machinehere3.steps = parts1.a)) = true then some true else if (!decide (machinehere3.marks = parts1.b)) = true then some true else some (!decide (machinehere3.fair = parts1.c))).bind λb=>if b = true then some false else (if numbers4.isNone = true then some true else (((numbers4.bind λa9=>some ((a9,(found7,(many2,()))))).bind λb10=>some (parts1,b10)).bind λz8=>vR z8.1 z8.2.1 z8.2.2.1 z8.2.2.2.1).bind λa11=>some (!a11)).bind λb=>if b = true then some false else ((atI found7 (0:Int)).bind λy13=>if y13.length < cap then some (LNe.mk ()) else none).bind λu12=>(some ()).bind λu14=>((numbers4.bind λa17=>((uG machinehere3).bind λa16=>some ((a16,(many2,())))).bind λb18=>some (a17,b18)).bind λb19=>some (parts1,b19)).bind λz15=>vR z15.1 z15.2.1 z15.2.2.1 z15.2.2.2.1
theorem sc_law:FnScope ["_law_script","_law_parts","_law_many","_law_machine_here","_law_numbers","_law_found"] ["_law_script"] (zK s_law):=fsc
abbrev S_law (K:PySem.W.Frag) (C:Addr):Sp:=spF K false (λa:Scr × Unit=>([.z a.1]:SL K)) (λa=>zOo C a.1)
theorem ok_law (F:Fun K "law" "law" s_law f fd) (B:Bl K mg) (T:Cl K mg C) (C_l_class_numbers:Cal P w K mg base k "_law_class_numbers" ["_law_found","_law_many"] (zAr K)) (C_l_machine:Cal P w K mg base k "_law_machine" ["_law_parts"] (zFa K C)) (C_l_parts_by:Cal P w K mg base k "_law_parts_by" ["_law_script"] (zDl K)) (C_l_right:Cal P w K mg base k "_law_right" ["_law_parts","_law_numbers","_law_found","_law_many"] (zI3 K)) (C_classes:Cal P w K mg base k "classes" ["machine"] (zI6 K C)) (C_partings:Cal P w K mg base k "partings" ["machine"] (zF6 K C)):FnOk P w K mg base CX0 (k + 1) f fd ["_law_script"] (S_law K C):=by
 refine yM F sc_law (λ_=>rfl) (λ_=>rfl) λcdv A outer s H E hr=>?_
 have nd:=sc_law.nd
 refine ⟨_,(zC (yS 1 nd (zZ C_l_parts_by hr (zA (pv 0) zF))) (zC (yS 2 nd (zO (xJ K) rfl B.len PySem.boot_len (zA (yD (ixTK K) (pv 1) zJ (λ_ _=>rfl)) zF))) (zC (yS 3 nd (zZ C_l_machine hr (zA (pv 1) zF))) (zC (yS 4 nd (zZ C_l_class_numbers hr (zA (zZ C_classes hr (zA (pv 3) zF)) (zA (pv 2) zF)))) (zC (yS 5 nd (zZ C_partings hr (zA (pv 3) zF))) (zC (xL (PW.pt (pw_or (zU (zAl K (List LI) hr) (zEb K (pv 3)) (yD (ixTK K) (pv 1) zJ (λ_ _=>rfl)) (yI _)) (pw_or (zU (zAl K (List (Str × LI)) hr) (zEb K (pv 3)) (yD (ixTK K) (pv 1) zJ (λ_ _=>rfl)) (yI _)) (pw_or1 (zU (zAl K (List LI) hr) (zEb K (pv 3)) (yD (ixTK K) (pv 1) zJ (λ_ _=>rfl)) (yI _)))))) (zC (zT zAs) zH) zH) (zC (xL (PW.pt (pw_or (zD6 (zK6 (pv 4))) (pw_or1 (zAg (zAf (zZ C_l_right hr (zA (pv 1) (zA (pv 4) (zA (pv 5) (zA (pv 2) zF)))))))))) (zC (zT zAs) zH) zH) (zC (yN (zBs K PySem.F.plainAttrs_list PySem.F.slot_list_append PySem.F.type_list_append yQ (yD (ixLK K) (pv 5) zJ (λ_ _=>rfl)) (zA zOl zF))) (zC (yN (zOp K PySem.F.plainAttrs_list PySem.F.slot_list_pop PySem.F.type_list_pop mt_pop (pv 5))) (zC (zT (zZ C_l_right hr (zA (pv 1) (zA (pv 4) (zA (zZ C_partings hr (zA (pv 3) zF)) (zA (pv 2) zF)))))) zH)))))))))),?_⟩
 rintro Fa ⟨q0,⟨⟩⟩
 exact SB.of (zM (yJ true 1 rfl rfl (zL (zG (zE 0 rfl) zN))) (λparts1=>(zJg [.z q0,.y parts1,.un,.un,.un,.un] (zM (yJ true 2 rfl rfl (esc (xT (zPz (zE 1 rfl) (zI 0))))) (λmany2=>(zJg [.z q0,.y parts1,.y many2,.un,.un,.un] (zM (yJ true 3 rfl rfl (zL (zG (zE 1 rfl) zN))) (λmachinehere3=>(zJg [.z q0,.y parts1,.y many2,.y machinehere3,.un,.un] (zM (yJ true 4 rfl rfl (zL (zG (zL (zG (zE 3 rfl) zN)) (zG (esc (zD 2 rfl)) zN)))) (λnumbers4=>(zJg [.z q0,.y parts1,.y many2,.y machinehere3,.y numbers4,.un] (zM (sn_nu 5 rfl rfl (en_call (zG (zE 3 rfl) zN))) (λfound7=>(zJg [.z q0,.y parts1,.y many2,.y machinehere3,.y numbers4,.nu (found7:List (List (Option (Int × (Str × Key)))))] (vZ (zC4 (zV (md:=.hp) (zAm (zEs T.cl T.nS (zE 3 rfl)) (zPz (zE 1 rfl) (zI 0)))) (zC4 (zV (md:=.hp) (zAm (zIm T.cl T.nM (zE 3 rfl)) (ex_tri1 (zE 1 rfl) (zI 1)))) (zV (md:=.hp) (zAm (zLn T.cl T.nF (zE 3 rfl)) (ex_tri2 (zE 1 rfl) (zI 2)))))) (zX (esc (zAv false))) (vZ (zC4 (et_b (md:=.hp) (zLm (zE 4 rfl))) (zAn (et_b (md:=.hp) (zL (zG (zE 1 rfl) (zG (zA0 (zE 4 rfl)) (zG (ex_varN 5 rfl) (zG (esc (zD 2 rfl)) zN)))))))) (zX (esc (zAv false))) (zM (zMa 5 rfl rfl (zI 0) (zJ9 (α:=Int × (Str × Key)))) (λu12=>(zJg [.z q0,.y parts1,.y many2,.y machinehere3,.y numbers4,.nu (u12:LNe)] (zM (zRc 5 rfl rfl) (λu14=>(zJg [.z q0,.y parts1,.y many2,.y machinehere3,.y numbers4,.un] (zX (esc (zL (zG (zE 1 rfl) (zG (zA0 (zE 4 rfl)) (zG (zL (zG (zE 3 rfl) zN)) (zG (esc (zD 2 rfl)) zN)))))))))))))))))))))))))))))) (by unfold zOo; simp only [bnd])
end
structure Gr {C:Addr} (m:Mach C) (n:Int):Prop where
 len:(m.steps.length:Int) = n
 pos:1 <= n
 few:n <= 60
 row:∀ xs ∈ m.steps,xs ≠ [] /\ xs.Nodup /\ ∀ z ∈ xs,0 <= z /\ z < n
 src:m.sources = srcs m.steps
def nxt (xss:List LI) (s:Int):LI:=xss.getD s.toNat []
theorem w_manyM {C:Addr} {m:Mach C} (g:Gr m n):wL m = some n:=by
 unfold wL
 rw [g.len]
theorem W_dputB:W (dput kvs k v) Q ↔ kvs.length < cap /\ Q (pK kvs (Sum.inl k) v):=by
 unfold dput
 rw [zB7]
 constructor
 ·intro ⟨h1,h2⟩
  by_cases h:kvs.length < cap
  ·exact ⟨h,W_some.mp (h1 h)⟩
  ·exact absurd (h2 h) (by rw [zBg]; exact id)
 ·intro ⟨h,q⟩
  exact ⟨λ_=>W_some.mpr q,λz=>absurd h z⟩
theorem zSx:W (zP9 kvs k v) Q ↔ kvs.length < cap /\ Q (pK kvs (Sum.inr k) v):=by
 unfold zP9
 rw [zB7]
 constructor
 ·intro ⟨h1,h2⟩
  by_cases h:kvs.length < cap
  ·exact ⟨h,W_some.mp (h1 h)⟩
  ·exact absurd (h2 h) (by rw [zBg]; exact id)
 ·intro ⟨h,q⟩
  exact ⟨λ_=>W_some.mpr q,λz=>absurd h z⟩
def zHg (n:Int) (xs:LI):Prop:=xs.Nodup /\ xs.length <= 100 /\ ∀ z ∈ xs,0 <= z /\ z < n
theorem zNg (h:0 <= z /\ z < n):zAk z n = some true:=by
 unfold zAk
 rw [if_pos rfl,if_pos (show (!false) = true from rfl),decide_eq_true h.1,if_pos rfl,decide_eq_true h.2]
theorem zBz (h:zHg n xs) (x:Str):W (xA xs n x) λ_=>True:=by
 unfold xA
 rw [zB,W_some,zB,zB,W_some]
 refine uC (λi s=>s.length <= i /\ ∀ z,(dget s z).isSome = true->z ∈ xs.take i) ⟨Nat.zero_le _,λz hz=>by cases hz⟩ (λi y s hi hI=>?_) λs _=>W_some.mpr trivial
 have il:=yA hi
 rw [zNg (h.2.2 y (mem_of_getElem? hi)),zB,zB,zB,W_some,W_some,Bool.not_true,if_neg (by decide),W_some,zB]
 have hn:(dget s y).isSome = false:=by
  cases q:(dget s y).isSome with
  | false=>rfl
  | true=>exact absurd (hI.2 y q) (zBo h.1 hi)
 have hn':(dget (Dc.mk s).kv y).isSome = false:=hn
 rw [hn',if_neg (by decide),W_some,zB,W_dputB]
 have l1:=h.2.1
 refine ⟨yT (by omega),?_⟩
 rw [W_some]
 have l2:=zTm s (Sum.inl y) true
 refine ⟨by omega,λz hz=>?_⟩
 rw [uE hi]
 have e:dget (pK s (Sum.inl y) true) z = if (Sum.inl z:Key) = Sum.inl y then some true else dget s z:=zTt s (Sum.inl y) (Sum.inl z) true
 rw [e] at hz
 by_cases q:(Sum.inl z:Key) = Sum.inl y
 ·exact .inr (Sum.inl.inj q)
 ·rw [if_neg q] at hz
  exact .inl (hI.2 z hz)
theorem w_fsI (a:Str) {i:Nat} (h:i < 1000):W (fsI a (i:Int)) λ_=>True:=by
 unfold fsI
 rw [if_pos (zPa (by omega)),W_some]
 trivial
theorem zL5 {xss:List LI} (hl:(xss.length:Int) = n) (h0:1 <= n) (h1:n <= 60) (h:∀ xs ∈ xss,xs ≠ [] /\ zHg n xs):W (wX xss) λ_=>True:=by
 unfold wX
 rw [zB,W_some,zB,zB,hl,decide_eq_false (by omega),if_neg (by decide),W_some,decide_eq_false (by omega),if_neg (by decide),W_some,zB,zB,W_some]
 refine uC (λ_ _=>True) trivial (λi y s hi _=>?_) λs _=>W_some.mpr trivial
 obtain ⟨e1,e2⟩:=uF hi
 have il:=yA e2
 obtain ⟨ne,ok⟩:=h y.2 (mem_of_getElem? e2)
 rw [e1]
 simp only [zB]
 refine (w_fsI "steps of stand " (i:=i) (by omega)).imp λt _=>?_
 rw [W_some,W_some,W_some]
 refine (zBz ok t).imp λ_ _=>?_
 rw [decide_eq_false (λz=>ne (length_eq_zero_iff.mp (by omega))),if_neg (by decide),W_some,W_some]
 trivial
theorem zNj {xss:List LI} (hl:xss.length <= 100) (h:∀ xs ∈ xss,zHg n xs):W (vT xss n) λ_=>True:=by
 unfold vT
 rw [zB,zB,W_some]
 refine uC (λ_ _=>True) trivial (λi y s hi _=>?_) λs _=>W_some.mpr trivial
 obtain ⟨e1,e2⟩:=uF hi
 have il:=yA e2
 rw [e1]
 simp only [zB]
 refine (w_fsI "fair set " (i:=i) (by omega)).imp λt _=>?_
 rw [W_some,W_some,W_some]
 refine (zBz (h y.2 (mem_of_getElem? e2)) t).imp λ_ _=>?_
 rw [W_some]
 trivial
def zFd (n:Int) (ms:List (Str × LI)):Prop:=(ms.map (·.1)).Nodup /\ ms.length <= 100 /\ ∀ m ∈ ms,uS m.1 = some true /\ m.1.length <= 1000 /\ zHg n m.2
theorem zL6 (h:zFd n ms):W (wY ms n) λ_=>True:=by
 unfold wY
 rw [zB,W_some,zB,zB,W_some]
 refine uC (λi s=>s.length <= i /\ ∀ z,(zIp s z).isSome = true->z ∈ (ms.map (·.1)).take i) ⟨Nat.zero_le _,λz hz=>by cases hz⟩ (λi y s hi hI=>?_) λs _=>W_some.mpr trivial
 have il:=yA hi
 have hi':(ms.map (·.1))[i]? = some y.1:=by rw [getElem?_map,hi]; rfl
 obtain ⟨nm,ln,ok⟩:=h.2.2 y (mem_of_getElem? hi)
 have nin:y.1 ∉ (ms.map (·.1)).take i:=λhz=>by
  obtain ⟨j,hj⟩:=mem_iff_getElem?.mp hz
  have hji:j < i:=by
   have:=yA hj
   rw [length_take] at this
   omega
  rw [getElem?_take_of_lt hji] at hj
  have a1:=yA hi'
  have a2:=yA hj
  rw [List.getElem?_eq_getElem a1] at hi'
  rw [List.getElem?_eq_getElem a2] at hj
  have e:(ms.map (·.1))[j] = (ms.map (·.1))[i]:=(Option.some.inj hj).trans (Option.some.inj hi').symm
  have:=(getElem_inj h.1).mp e
  omega
 rw [nm,zB,zB,zB,W_some,W_some,Bool.not_true,if_neg (by decide),W_some,zB]
 have hn:(zIp (Dc.mk s).kv y.1).isSome = false:=by
  cases q:(zIp s y.1).isSome with
  | false=>rfl
  | true=>exact absurd (hI.2 y.1 q) nin
 rw [hn,if_neg (by decide),W_some,zB,zSx]
 have l1:=h.2.1
 refine ⟨yT (by omega),?_⟩
 simp only [zB]
 have fs:W (fsS "mark " y.1) λ_=>True:=by
  unfold fsS
  rw [if_pos ln,W_some]
  trivial
 refine fs.imp λt _=>?_
 rw [W_some,W_some,W_some]
 refine (zBz ok t).imp λ_ _=>?_
 rw [W_some]
 have l2:=zTm s (Sum.inr y.1) true
 refine ⟨by omega,λz hz=>?_⟩
 rw [uE hi']
 have e:zIp (pK s (Sum.inr y.1) true) z = if (Sum.inr z:Key) = Sum.inr y.1 then some true else zIp s z:=zTt s (Sum.inr y.1) (Sum.inr z) true
 rw [e] at hz
 by_cases q:(Sum.inr z:Key) = Sum.inr y.1
 ·exact .inr (Sum.inr.inj q)
 ·rw [if_neg q] at hz
  exact .inl (hI.2 z hz)
theorem zKk {xss:List LI} (h:xss.length <= 100):zBn xss = some xss:=by
 have q:W (zBn xss) (· = xss):=by
  unfold zBn
  rw [zB,W_some,zKi (λx=>x),map_id']
  exact ⟨yT (by omega),rfl⟩
 obtain ⟨a,e,rfl⟩:=q
 exact e
theorem w_mkK (C:Addr) {xss:List LI} {mo:Option MKs} {fo:Option LLI} (hl:(xss.length:Int) = n) (h0:1 <= n) (h1:n <= 60) (h:∀ xs ∈ xss,xs ≠ [] /\ zHg n xs) (hm:zFd n (mo.getD [])) (hf:(fo.getD []).length <= 100 /\ ∀ xs ∈ fo.getD [],zHg n xs) :
  W (mkK C xss mo fo) λm=>Gr m n /\ m.steps = xss /\ m.marks = mo.getD [] /\ m.fair = fo.getD []:=by
 unfold mkK mkG
 rw [zB]
 refine (zL5 hl h0 h1 h).imp λ_ _=>?_
 rw [zB,hl]
 refine (zL6 hm).imp λ_ _=>?_
 rw [zB]
 refine (zNj hf.1 hf.2).imp λ_ _=>?_
 have m1:=hm.2.1
 rw [zKk (by omega),zB,W_some,zB,zKi (λx:Str × LI=>(x.1,x.2))]
 refine ⟨yT (by omega),?_⟩
 have e:(mo.getD []).map (λx:Str × LI=>(x.1,x.2)) = mo.getD []:=map_id' _
 rw [zKk hf.1,zB,W_some,zB]
 have hv:fSo xss = some (srcs xss):=by
  unfold fSo
  rw [if_pos ⟨by omega,rfl,λxs hx=>by obtain ⟨a,b,c,d⟩:=h xs hx; exact ⟨a,b,c,λz hz=>by have:=d z hz; omega⟩⟩]
 rw [hv,W_some,W_some,e]
 exact ⟨⟨hl,h0,h1,λxs hx=>by obtain ⟨a,b,c,d⟩:=h xs hx; exact ⟨a,b,d⟩,rfl⟩,rfl,rfl,rfl⟩
theorem W_eq {α:Type} {m:Option α} {a:α} (h:W m (· = a)):m = some a:=by obtain ⟨b,e,rfl⟩:=h; exact e
theorem W_sort:W (zHp ns) Q ↔ ns.length < 64 /\ Q (zCh ns):=by
 unfold zHp
 split
 ·rename_i h; rw [W_some]; exact ⟨λq=>⟨h,q⟩,λq=>q.2⟩
 ·rename_i h; rw [zBg]; exact ⟨False.elim,λq=>h q.1⟩
def resv:List Str:=["all","not","both","either","somenext","eachnext","sometill","eachtill","someever","eachever"]
theorem alph_at:∀ i,i < 26->(("abcdefghijklmnopqrstuvwxyz":Str).cps)[i]? = some (97 + i):=by decide +kernel
theorem alph_in:∀ i,i < 26->inS ⟨#[97 + i]⟩ ("abcdefghijklmnopqrstuvwxyz":Str) = true:=by decide +kernel
theorem zSv:("abcdefghijklmnopqrstuvwxyz":Str).length = 26:=by decide +kernel
theorem zLf (x:Int):ixS ("abcdefghijklmnopqrstuvwxyz":Str) (x % 26) = some ⟨#[97 + (x % 26).toNat]⟩:=by
 have h0:0 <= x % 26 /\ x % 26 < 26:=by omega
 unfold ixS
 rw [if_pos ⟨h0.1,by omega,by rw [zSv]; exact h0.2⟩,alph_at _ (by omega)]
 rfl
theorem app_cps (a b:Str):(a ++ b).cps = a.cps ++ b.cps:=by
 first
  | rfl
  | (show (Str.append a b).cps = _; unfold Str.append; rfl)
def nmS (l:List Nat):Str:=⟨l.toArray⟩
theorem nmS_eq {x:Str} (h:x.cps.toList = l):x = nmS l:=by
 obtain ⟨c⟩:=x
 have h:c.toList = l:=h
 unfold nmS
 rw [<- h]
theorem nmS_app (a b:List Nat):nmS a ++ nmS b = nmS (a ++ b):=nmS_eq (by rw [app_cps]; unfold nmS; simp)
theorem zGv (l:List Nat):(nmS l).length = l.length:=by
 show l.toArray.size = _
 rw [size_toArray]
theorem zOz (h:nmS a = nmS b):a = b:=by
 have h:a.toArray = b.toArray:=congrArg Str.cps h
 have:=congrArg Array.toList h
 simpa using this
theorem zCm {α β:Type} {c:α->Option Bool} {f:α->Option β} {g:α->β}:∀ {xs:List α},(∀ x ∈ xs,c x = some true)->(∀ x ∈ xs,f x = some (g x))->xR c f xs = some (xs.map g)
 | [],_,_=>rfl
 | x :: xs,hc,hf=>by
  have ih:=zCm (λy hy=>hc y (mem_cons_of_mem _ hy)) (λy hy=>hf y (mem_cons_of_mem _ hy))
  show (c x).bind _ = _
  rw [hc x mem_cons_self]
  show (f x).bind _ = _
  rw [hf x mem_cons_self]
  show (xR c f xs).bind _ = _
  rw [ih]
  rfl
theorem zPl {l:List Nat} (h1:1 <= l.length) (h8:l.length <= 8) (hl:∀ x ∈ l,∃ i,i < 26 /\ x = 97 + i) (hr:nmS l ∉ resv):uS (nmS l) = some true:=by
 have ln:=zGv l
 unfold resv at hr
 apply W_eq
 unfold uS
 rw [zB,if_neg (by decide),W_some,if_neg (λz=>hr (of_decide_eq_true z)),zB,zB]
 unfold lenS
 rw [if_pos (yT (by omega)),W_some,decide_eq_true (by omega),if_pos rfl,W_some,decide_eq_true (by omega),if_pos rfl,zB,zB,W_some]
 have ls:zGd (nmS l) = l.map λc=>(⟨#[c]⟩:Str):=by
  unfold zGd nmS
  rfl
 have e:xM (λ(_:Str)=>some true) (λ(x2:Str)=>some (inS x2 ("abcdefghijklmnopqrstuvwxyz":Str))) (zGd (nmS l)) = some ((zGd (nmS l)).map λ_=>true):=by
  unfold xM
  rw [if_pos (by rw [ls,length_map]; exact yT (by omega))]
  refine zCm (λ_ _=>rfl) λx hx=>?_
  rw [ls] at hx
  obtain ⟨y,hy,rfl⟩:=mem_map.mp hx
  obtain ⟨i,hi,rfl⟩:=hl y hy
  rw [alph_in i hi]
 rw [e,W_some,W_some,all_eq_true]
 intro x hx
 obtain ⟨y,_,rfl⟩:=mem_map.mp hx
 rfl
theorem zKh {a b:List Nat} (h:a.length + b.length <= 1000):addS (nmS a) (nmS b) = some (nmS (a ++ b)):=by
 unfold addS
 rw [if_pos (by rw [zGv,zGv]; exact h),nmS_app]
section
variable {κ:Type} [DecidableEq κ]
theorem zLr:∀ (ks acc:List κ),acc.Nodup->(dd acc ks).Nodup
 | [],acc,h=>h
 | k :: ks,acc,h=>by
  show (dd (if k ∈ acc then acc else acc ++ [k]) ks).Nodup
  refine zLr ks _ ?_
  split
  ·exact h
  ·rename_i z
   rw [nodup_append]
   refine ⟨h,by simp,λa ha b hb e=>z ?_⟩
   rw [<- mem_singleton.mp hb,<- e]
   exact ha
theorem zQd:∀ {ks acc:List κ} {k:κ},k ∈ dd acc ks->k ∈ acc \/ k ∈ ks
 | [],acc,k,h=>.inl h
 | k' :: ks,acc,k,h=>by
  have h:k ∈ dd (if k' ∈ acc then acc else acc ++ [k']) ks:=h
  rcases zQd h with z | z
  ·split at z
   ·exact .inl z
   ·rcases mem_append.mp z with z | z
    ·exact .inl z
    ·exact .inr (by rw [mem_singleton.mp z]; exact mem_cons_self)
  ·exact .inr (mem_cons_of_mem _ z)
def ng (ns:LI) (i:Nat):Int:=ns.getD i 0
theorem zC0 {ns:LI} (h:i < ns.length):ns[i]? = some (ng ns i):=by
 unfold ng
 rw [getD_eq_getElem?_getD,List.getElem?_eq_getElem h]; rfl
theorem zJt (ks:List κ):(nbr ks).length = ks.length:=by unfold nbr; rw [length_map]
theorem zEi {ks:List κ} {i:Nat} {k:κ} (h:ks[i]? = some k):ng (nbr ks) i = ((dd [] ks).idxOf k:Int):=by
 unfold ng nbr
 rw [getD_eq_getElem?_getD,getElem?_map,h]; rfl
theorem zJ3 {D:List κ} {k:κ} (h:k ∈ D):D[D.idxOf k]? = some k:=by
 rw [List.getElem?_eq_getElem (idxOf_lt_length_iff.mpr h),List.getElem_idxOf]
theorem zJu {ks:List κ} {i j:Nat} {a b:κ} (h1:ks[i]? = some a) (h2:ks[j]? = some b):ng (nbr ks) i = ng (nbr ks) j ↔ a = b:=by
 rw [zEi h1,zEi h2]
 constructor
 ·intro e
  have e:(dd [] ks).idxOf a = (dd [] ks).idxOf b:=by omega
  have e1:=zJ3 (zF3 (acc:=[]) (mem_of_getElem? h1))
  have e2:=zJ3 (zF3 (acc:=[]) (mem_of_getElem? h2))
  rw [e,e2] at e1
  exact (Option.some.inj e1).symm
 ·rintro rfl
  rfl
def Can (ns:LI):Prop:=∀ i,i < ns.length->0 <= ng ns i /\ ∀ k,0 <= k->k <= ng ns i->∃ j,j <= i /\ ng ns j = k /\ ∀ j',j' < j->ng ns j' < k
theorem zO3 (ks:List κ):Can (nbr ks):=λi hi=>by
 rw [zJt] at hi
 have hki:=List.getElem?_eq_getElem hi
 refine ⟨by rw [zEi hki]; omega,λk k0 k1=>?_⟩
 rw [zEi hki] at k1
 have mi:ks[i] ∈ dd [] ks:=zF3 (getElem_mem hi)
 have kl:k.toNat < (dd [] ks).length:=by have:=idxOf_lt_length_iff.mpr mi; omega
 have nd:=zLr ks [] .nil
 have hd:=List.getElem?_eq_getElem kl
 generalize hx:(dd [] ks)[k.toNat] = x at hd
 have xk:x ∈ ks:=(zQd (mem_of_getElem? hd)).elim (λz=>by cases z) id
 have hj:=zJ3 xk
 have jl:ks.idxOf x < ks.length:=idxOf_lt_length_iff.mpr xk
 have xi:(dd [] ks).idxOf x = k.toNat:=by
  rw [<- hx]
  exact List.Nodup.idxOf_getElem nd k.toNat kl
 have notk:x ∉ ks.take (ks.idxOf x):=λz=>by
  obtain ⟨t,ht⟩:=mem_iff_getElem?.mp z
  have tl:t < ks.idxOf x:=by
   have:=(List.getElem?_eq_some_iff.mp ht).1
   rw [length_take] at this
   omega
  rw [getElem?_take_of_lt tl] at ht
  have tl2:=(List.getElem?_eq_some_iff.mp ht).1
  have nf:=List.not_of_lt_findIdx (p:=λy=>y == x) (xs:=ks) (i:=t) tl
  rw [show ks[t] = x from (List.getElem?_eq_some_iff.mp ht).2] at nf
  simp at nf
 obtain ⟨r,er⟩:=zQe (ks.drop (ks.idxOf x)) (dd [] (ks.take (ks.idxOf x)))
 rw [<- zT6,take_append_drop] at er
 have kge:(dd [] (ks.take (ks.idxOf x))).length <= k.toNat:=by
  refine Nat.le_of_not_lt λz=>notk ?_
  rw [er,getElem?_append_left z] at hd
  exact (zQd (mem_of_getElem? hd)).elim (λz=>by cases z) id
 have below:∀ t,t < ks.idxOf x->ng (nbr ks) t < k:=λt ht=>by
  have tl:t < ks.length:=by omega
  have ht':=List.getElem?_eq_getElem tl
  rw [zEi ht']
  have m1:ks[t] ∈ dd [] (ks.take (ks.idxOf x)):=zF3 (mem_iff_getElem?.mpr ⟨t,by rw [getElem?_take_of_lt ht]; exact ht'⟩)
  have m2:=idxOf_lt_length_iff.mpr m1
  have:(dd [] ks).idxOf ks[t] = (dd [] (ks.take (ks.idxOf x))).idxOf ks[t]:=by
   rw [er,List.idxOf_append,if_pos m1]
  omega
 refine ⟨ks.idxOf x,?_,by rw [zEi hj,xi]; omega,below⟩
 refine Nat.le_of_not_lt λz=>?_
 have:=below i z
 rw [zEi hki] at this
 omega
end
theorem zSr (ha:Can a) (hb:Can b) (hl:a.length = b.length) (h:∀ i j,i < a.length->j < a.length->(ng a i = ng a j ↔ ng b i = ng b j)):a = b:=by
 have key:∀ n i,i <= n->i < a.length->ng a i = ng b i:=by
  intro n
  induction n with
  | zero =>
   intro i hi il
   have e:i = 0:=by omega
   subst e
   have za:ng a 0 = 0:=by
    obtain ⟨p,q⟩:=ha 0 il
    obtain ⟨j,j1,j2,_⟩:=q 0 (Int.le_refl _) p
    have:j = 0:=by omega
    rw [this] at j2
    exact j2
   have zb:ng b 0 = 0:=by
    obtain ⟨p,q⟩:=hb 0 (by omega)
    obtain ⟨j,j1,j2,_⟩:=q 0 (Int.le_refl _) p
    have:j = 0:=by omega
    rw [this] at j2
    exact j2
   rw [za,zb]
  | succ n ih =>
   intro i hi il
   rcases Nat.lt_or_ge i (n + 1) with z | z
   ·exact ih i (by omega) il
   have ei:i = n + 1:=by omega
   by_cases ex:∃ j,j < i /\ ng a j = ng a i
   ·obtain ⟨j,j1,j2⟩:=ex
    rw [<- j2,ih j (by omega) (by omega)]
    exact (h j i (by omega) il).mp j2
   ·have no:∀ j,j < i->ng a j ≠ ng a i:=λj h1 h2=>ex ⟨j,h1,h2⟩
    rcases Int.lt_trichotomy (ng a i) (ng b i) with w | w | w
    ·obtain ⟨j,j1,j2,_⟩:=(hb i (by omega)).2 (ng a i) (ha i il).1 (Int.le_of_lt w)
     have jn:j ≠ i:=λe=>by rw [e] at j2; omega
     exact absurd (by rw [ih j (by omega) (by omega),j2]) (no j (by omega))
    ·exact w
    ·obtain ⟨j,j1,j2,_⟩:=(ha i il).2 (ng b i) (hb i (by omega)).1 (Int.le_of_lt w)
     have jn:j ≠ i:=λe=>by rw [e] at j2; omega
     have e:=ih j (by omega) (by omega)
     exact absurd ((h j i (by omega) il).mpr (by rw [<- e,j2])) (no j (by omega))
 refine ext_getElem? λi=>?_
 by_cases il:i < a.length
 ·rw [zC0 il,zC0 (by omega:i < b.length),key i i (Nat.le_refl _) il]
 ·rw [List.getElem?_eq_none (by omega),List.getElem?_eq_none (by omega)]
def prs (n:Nat):List (Nat × Nat):=(List.range n).flatMap λi=>(List.range n).map λj=>(i,j)
theorem mem_prs:(i,j) ∈ prs n ↔ i < n /\ j < n:=by
 unfold prs
 rw [List.mem_flatMap]
 constructor
 ·rintro ⟨a,ha,hb⟩
  obtain ⟨b,hb,e⟩:=mem_map.mp hb
  cases e
  exact ⟨mem_range.mp ha,mem_range.mp hb⟩
 ·rintro ⟨h1,h2⟩
  exact ⟨i,mem_range.mpr h1,mem_map.mpr ⟨j,mem_range.mpr h2,rfl⟩⟩
theorem prs_len (n:Nat):(prs n).length = n * n:=by
 unfold prs
 rw [List.length_flatMap]
 have:(List.map (λi=>(List.map (λj=>(i,j)) (List.range n)).length) (List.range n)) = replicate n n:=by
  rw [List.eq_replicate_iff]
  refine ⟨by simp,λb hb=>?_⟩
  obtain ⟨i,_,e⟩:=mem_map.mp hb
  rw [<- e]; simp
 rw [this,List.sum_replicate_nat]
def eqs (n:Nat) (ns:LI):Nat:=(prs n).countP λp=>decide (ng ns p.1 = ng ns p.2)
theorem eqs_le (n:Nat) (ns:LI):eqs n ns <= n * n:=by
 rw [<- prs_len n]
 exact List.countP_le_length
theorem zIq {α:Type} {p q:α->Bool}:∀ {l:List α} {x:α},(∀ y ∈ l,q y = true->p y = true)->x ∈ l->p x = true->q x = false->l.countP q < l.countP p
 | y :: l,x,h,hx,h1,h2=>by
  have hm:l.countP q <= l.countP p:=List.countP_mono_left λz hz=>h z (mem_cons_of_mem _ hz)
  rw [List.countP_cons,List.countP_cons]
  rcases mem_cons.mp hx with e | hx
  ·subst e
   rw [h1,h2]
   simp
   omega
  ·have:=zIq (λz hz=>h z (mem_cons_of_mem _ hz)) hx h1 h2
   have hy:=h y mem_cons_self
   cases e:q y with
   | false=>cases p y <;> simp <;> omega
   | true=>rw [hy e]; simp; omega
theorem eqs_lt (ha:Can a) (hb:Can b) (la:a.length = n) (lb:b.length = n) (h:∀ i j,i < n->j < n->ng b i = ng b j->ng a i = ng a j) (ne:b ≠ a):eqs n b < eqs n a:=by
 have ex:∃ i j,i < n /\ j < n /\ ng a i = ng a j /\ ng b i ≠ ng b j:=Classical.byContradiction λno=>ne (zSr ha hb (by omega) λi j hi hj=>⟨λe=>Classical.byContradiction λz=>no ⟨i,j,by omega,by omega,e,z⟩,λe=>h i j (by omega) (by omega) e⟩).symm
 obtain ⟨i,j,hi,hj,e1,e2⟩:=ex
 refine zIq (x:=(i,j)) (λy hy q=>?_) (mem_prs.mpr ⟨hi,hj⟩) (decide_eq_true e1) (decide_eq_false e2)
 obtain ⟨h1,h2⟩:=mem_prs.mp (show (y.1,y.2) ∈ prs n from hy)
 exact decide_eq_true (h _ _ h1 h2 (of_decide_eq_true q))
theorem w_lr (h0:0 <= n) (h1:n <= 60):lrM n = some (rng n):=by
 unfold lrM
 rw [if_pos ⟨by omega,by omega⟩]
 rfl
theorem zJh {n:Int} {i:Nat} (h:(i:Int) < n):(rng n)[i]? = some (i:Int):=by
 unfold rng
 rw [getElem?_map,getElem?_range (by omega)]; rfl
theorem wF:(rng n).length = n.toNat:=by unfold rng; rw [length_map,length_range]
theorem zDv {α β:Type} {f:α->Option β} {k:α->β} {xs:List α} (h:∀ x ∈ xs,f x = some (k x)) (hl:xs.length <= 1000):xQ (λ(s:List β) (x:α)=>((f x).bind λa=>push s a).bind λs'=>some s') xs [] = some (xs.map k):=by
 refine W_eq (uC (λi s=>s = (xs.take i).map k) rfl (λi x s hi e=>?_) λs e=>by rw [e,take_length])
 rw [h x (mem_of_getElem? hi),zB,zB,W_some,zBw,W_some,e]
 have il:=yA hi
 refine ⟨yT (by rw [length_map,length_take]; omega),?_⟩
 rw [take_add_one,hi,map_append]; rfl
section
variable {C:Addr} {m:Mach C} {n:Int}
def zAt (m:Mach C) (x:Int):List Str:=(m.marks.filter λp=>decide (x ∈ p.2)).map (·.1)
def frAt (m:Mach C) (x:Int):LI:=((zC5 m.fair).filter λp=>decide (x ∈ p.2)).map (·.1)
def k1 (m:Mach C) (x:Int):(Tp Str) × (Tp Int):=(Tp.mk (ssort (zAt m x)),Tp.mk (frAt m x))
def k2 (m:Mach C) (ns:LI) (x:Int):Int × (Tp Int):=(ng ns x.toNat,Tp.mk (zCu ((zCh (nxt m.steps x)).map λt=>ng ns t.toNat)))
def fin (m:Mach C) (n:Int) (ns:LI):LI:=nbr ((rng n).map (k2 m ns))
theorem zJa (g:Gr m n):xN m = some (rng n):=by
 unfold xN
 rw [w_manyM g]
 exact w_lr (by have:=g.pos; omega) g.few
theorem zI8 (hm:m.marks.length < 64) (x:Int):yF m x = some (ssort (zAt m x)):=by
 unfold yF
 refine W_eq ?_
 rw [zB,zB,W_some,zQx]
 refine ⟨yT (by omega),?_⟩
 unfold zHo
 rw [if_pos (by rw [length_map]; exact Nat.lt_of_le_of_lt (length_filter_le _ _) hm),W_some]
 rfl
theorem zI9 (hf:m.fair.length <= 100) (x:Int):yU m x = some (frAt m x):=by
 unfold yU
 refine W_eq ?_
 rw [zB,W_some,zQx]
 exact ⟨yT (by rw [zAo]; omega),rfl⟩
theorem w_first (g:Gr m n) (hm:m.marks.length < 64) (hf:m.fair.length <= 100):xY m = some (nbr ((rng n).map (k1 m))):=by
 unfold xY
 have g60:=g.few
 have e:=zDv (f:=λx4:Int=>((yF m x4).bind λa6=>some (Tp.mk a6)).bind λa8=>((yU m x4).bind λa7=>some (Tp.mk a7)).bind λb9=>some (a8,b9)) (k:=k1 m) (xs:=rng n) (λx _=>by rw [zI8 hm,zI9 hf]; rfl) (by rw [wF]; omega)
 rw [zJa g]
 show ((xQ _ (rng n) []).bind λs3=>uO s3) = _
 rw [e]
 show uO _ = _
 unfold uO nbM
 rw [if_pos (by rw [length_map,wF]; omega)]
theorem zMo (g:Gr m n) (h0:0 <= x) (h1:x < n):m.steps[x.toNat]? = some (nxt m.steps x) /\ (∀ t ∈ nxt m.steps x,0 <= t /\ t < n) /\ (nxt m.steps x).length <= 60:=by
 have gl:=g.len
 have hl:x.toNat < m.steps.length:=by omega
 have e:nxt m.steps x = m.steps[x.toNat]:=by unfold nxt; rw [getD_eq_getElem?_getD,List.getElem?_eq_getElem hl]; rfl
 have r:=g.row _ (getElem_mem hl)
 rw [e]
 refine ⟨List.getElem?_eq_getElem hl,r.2.2,?_⟩
 have:=uW (n:=n.toNat) r.2.1 λz hz=>by have:=r.2.2 z hz; omega
 have:=g.few
 omega
theorem zNe (g:Gr m n) (h0:0 <= x) (h1:x < n):yH m x = some (zCh (nxt m.steps x)):=by
 obtain ⟨e,_,l⟩:=zMo g h0 h1
 unfold yH
 rw [wH h0,e]
 exact W_eq (W_sort.mpr ⟨by omega,rfl⟩)
theorem zDw {ns:LI} (hn:(ns.length:Int) = n) (hx:∀ t ∈ xs,0 <= t /\ t < n) (hl:xs.length < 64):yY ns xs = some (zCu (xs.map λt=>ng ns t.toNat)):=by
 unfold yY
 have e:xM (λ(_:Int)=>some true) (λ(x1:Int)=>atI ns x1) xs = some (xs.map λt=>ng ns t.toNat):=by
  unfold xM
  rw [if_pos (yT (by omega)),zCm (g:=λt=>ng ns t.toNat) (λ_ _=>rfl) λt ht=>by
   obtain ⟨t0,t1⟩:=hx t ht
   rw [wH t0]
   exact zC0 (by omega)]
 show ((xM (λ(_:Int)=>some true) (λ(x1:Int)=>atI ns x1) xs).bind λa2=>zDy a2) = _
 rw [e]
 show zDy _ = _
 unfold zDy
 rw [if_pos (by rw [length_map]; exact hl)]
theorem zNh (g:Gr m n) {ns:LI} (hn:(ns.length:Int) = n):yP m ns = some (fin m n ns):=by
 unfold yP
 have g60:=g.few
 have e:=zDv (f:=λx4:Int=>(atI ns x4).bind λa10=>(((((yH m x4).bind λa7=>some ((a7,()))).bind λb8=>some (ns,b8)).bind λz6=>yY z6.1 z6.2.1).bind λa9=>some (Tp.mk a9)).bind λb11=>some (a10,b11)) (k:=k2 m ns) (xs:=rng n) (λx hx=>by
  obtain ⟨x0,x1⟩:=mem_rng.mp hx
  obtain ⟨_,t1,t2⟩:=zMo g x0 x1
  have p:=xS (nxt m.steps x)
  show ((atI ns x).bind λa10=>_) = _
  rw [wH x0,zC0 (by omega:x.toNat < ns.length),zNe g x0 x1]
  show (((yY ns (zCh (nxt m.steps x))).bind λa9=>some (Tp.mk a9)).bind λb11=>some (ng ns x.toNat,b11)) = _
  rw [zDw hn (λt ht=>t1 t (p.mem_iff.mp ht)) (by rw [p.length_eq]; omega)]
  rfl) (by rw [wF]; omega)
 rw [zJa g]
 show ((xQ _ (rng n) []).bind λs3=>uN s3) = _
 rw [e]
 show uN _ = _
 unfold uN nbM fin
 rw [if_pos (by rw [length_map,wF]; omega)]
structure StOk (m:Mach C) (n:Int) (c:LI):Prop where
 len:(c.length:Int) = n
 can:Can c
 one:∀ i j:Nat,(i:Int) < n->(j:Int) < n->ng c i = ng c j->k1 m i = k1 m j
theorem key_at {α:Type} {f:Int->α} {i:Nat} (h:(i:Int) < n):((rng n).map f)[i]? = some (f i):=by rw [getElem?_map,zJh h]; rfl
theorem zLk (g:Gr m n):StOk m n (nbr ((rng n).map (k1 m))):=⟨by have:=g.pos; rw [zJt,length_map,wF]; omega,zO3 _,λi j hi hj e=>(zJu (key_at hi) (key_at hj)).mp e⟩
theorem zTx (c:LI) {i j:Nat} (hi:(i:Int) < n) (hj:(j:Int) < n):ng (fin m n c) i = ng (fin m n c) j ↔ k2 m c i = k2 m c j:=zJu (key_at hi) (key_at hj)
theorem zJ5 (c:LI) {i j:Nat} (hi:(i:Int) < n) (hj:(j:Int) < n) (e:ng (fin m n c) i = ng (fin m n c) j):ng c i = ng c j:=by
 have:=congrArg Prod.fst ((zTx c hi hj).mp e)
 exact this
theorem zTw (g:Gr m n) (h:StOk m n c):StOk m n (fin m n c):=⟨by have:=g.pos; unfold fin; rw [zJt,length_map,wF]; omega,zO3 _,λi j hi hj e=>h.one i j hi hj (zJ5 c hi hj e)⟩
def Chn (m:Mach C) (n:Int) (told:List LI):Prop:=told.head? = some (nbr ((rng n).map (k1 m))) /\ ∀ (i:Nat) (a b:LI),told[i]? = some a->told[i + 1]? = some b->b = fin m n a
theorem Chn.snoc (h:Chn m n (t ++ [c])):Chn m n ((t ++ [c]) ++ [fin m n c]):=by
 refine ⟨?_,λi a b h1 h2=>?_⟩
 ·have:=h.1
  cases t with
  | nil=>exact this
  | cons x t=>exact this
 ·have il:=yA h2
  rw [length_append,length_append,length_singleton,length_singleton] at il
  rcases Nat.lt_or_ge (i + 1) (t ++ [c]).length with z | z
  ·rw [getElem?_append_left z] at h2
   rw [getElem?_append_left (by omega)] at h1
   exact h.2 i a b h1 h2
  ·rw [length_append,length_singleton] at z
   have e:i = t.length:=by omega
   rw [getElem?_append_right (by rw [length_append,length_singleton]; omega),length_append,length_singleton,e,Nat.sub_self] at h2
   rw [getElem?_append_left (by rw [length_append,length_singleton]; omega),getElem?_append_right (by omega),e,Nat.sub_self] at h1
   cases h1
   cases h2
   rfl
theorem zHj (g:Gr m n) (hm:m.marks.length < 64) (hf:m.fair.length <= 100):W (xV m) λtold=>∃ t c,told = t ++ [c] /\ StOk m n c /\ fin m n c = c /\ Chn m n (t ++ [c]) /\ t.length <= 3600:=by
 have g60:=g.few
 have gp:=g.pos
 unfold xV
 rw [w_first g hm hf]
 have f0:=zLk g
 have ch0:Chn m n [nbr ((rng n).map (k1 m))]:=⟨rfl,λi a b _ h2=>by simp at h2⟩
 generalize nbr ((rng n).map (k1 m)) = c0 at f0 ch0
 rw [zB,zB,W_some,W_some,zB,zB,zB,zB,show atI [c0] (0:Int) = some c0 from rfl,W_some,W_some,W_some]
 show W (yP m c0) _
 rw [zNh g f0.len,W_some,zB]
 have e0:=eqs_le n.toNat c0
 have nn:n.toNat * n.toNat <= 3600:=Nat.mul_le_mul (show n.toNat <= 60 by omega) (show n.toNat <= 60 by omega)
 refine W_while (λs=>∃ t c,s.1 = t ++ [c] /\ StOk m n c /\ s.2 = fin m n c /\ t.length + eqs n.toNat c <= 3600 /\ Chn m n (t ++ [c])) (λs=>4000 - s.1.length) ⟨[],c0,rfl,f0,rfl,by simp only [length_nil]; omega,ch0⟩ (by show 4000 - 1 < 100000; decide) ?_
 rintro ⟨told,fr⟩ ⟨t,c,rfl,ok,rfl,hl,ch⟩
 show W ((atI (t ++ [c]) (-(1:Int))).bind λb9=>some (!decide (fin m n c = b9))) _
 rw [show atI (t ++ [c]) (-(1:Int)) = some c from zLx t c]
 show W (some (!decide (fin m n c = c))) _
 rw [W_some]
 by_cases e:fin m n c = c
 ·rw [if_neg (by rw [decide_eq_true e]; decide),W_some]
  exact ⟨t,c,rfl,ok,e,ch,by omega⟩
 ·rw [if_pos (by rw [decide_eq_false e]; rfl)]
  have ok':=zTw g ok
  have cl:=ok.len
  have cl':=ok'.len
  have lt:eqs n.toNat (fin m n c) < eqs n.toNat c:=eqs_lt ok.can ok'.can (by omega) (by omega) (λi j hi hj=>zJ5 c (by omega) (by omega)) e
  show W ((push (t ++ [c]) (fin m n c)).bind λtold10=>(yP m (fin m n c)).bind λfiner11=>some (told10,finer11)) _
  rw [zB,zBw]
  refine ⟨Nat.lt_of_le_of_lt (show (t ++ [c]).length <= 3602 by rw [length_append,length_singleton]; omega) (by decide),?_⟩
  rw [zNh g cl']
  show W (some _) _
  rw [W_some]
  refine ⟨⟨t ++ [c],fin m n c,rfl,ok',rfl,by rw [length_append,length_singleton]; omega,ch.snoc⟩,?_⟩
  show 4000 - ((t ++ [c]) ++ [fin m n c]).length < 4000 - (t ++ [c]).length
  rw [length_append (as:=t ++ [c]),length_append,length_singleton,length_singleton]
  omega
theorem zT7 (h:Can ns):∀ (t i:Nat),i <= t->i < ns.length->ng ns i <= (i:Int)
 | 0,i,hi,il=>by
  have e:i = 0:=by omega
  subst e
  obtain ⟨p,q⟩:=h 0 il
  obtain ⟨j,j1,j2,_⟩:=q 0 (Int.le_refl _) p
  have:j = 0:=by omega
  rw [this] at j2
  omega
 | t + 1,i,hi,il=>by
  obtain ⟨p,q⟩:=h i il
  rcases Int.lt_or_le 0 (ng ns i) with z | z
  ·obtain ⟨j,j1,j2,_⟩:=q (ng ns i - 1) (by omega) (by omega)
   have jn:j ≠ i:=λe=>by rw [e] at j2; omega
   have:=zT7 h t j (by omega) (by omega)
   omega
  ·omega
def zA3 (N:Nat) (c:LI) (k:Nat):LI:=((List.range N).filter λi=>decide (ng c i = (k:Int))).map Int.ofNat
def vD (M N:Nat) (c:LI):List LI:=(List.range M).map (zA3 N c)
theorem zFr (N:Nat) (c:LI) (k:Nat):zA3 (N + 1) c k = if ng c N = (k:Int) then zA3 N c k ++ [(N:Int)] else zA3 N c k:=by
 unfold zA3
 rw [range_succ,List.filter_append,map_append]
 by_cases e:ng c N = (k:Int)
 ·rw [if_pos e,List.filter_cons_of_pos (by simpa using e)]; rfl
 ·rw [if_neg e,List.filter_cons_of_neg (by simpa using e)]; simp
theorem zO6:x ∈ zA3 N c k ↔ 0 <= x /\ x < (N:Int) /\ ng c x.toNat = (k:Int):=by
 unfold zA3
 rw [mem_map]
 constructor
 ·rintro ⟨i,hi,rfl⟩
  rw [mem_filter,mem_range] at hi
  exact ⟨Int.natCast_nonneg _,by show (i:Int) < _; omega,of_decide_eq_true hi.2⟩
 ·rintro ⟨h0,h1,h2⟩
  refine ⟨x.toNat,?_,by show ((x.toNat:Nat):Int) = x; omega⟩
  rw [mem_filter,mem_range]
  exact ⟨by omega,decide_eq_true h2⟩
theorem zRj (N:Nat) (c:LI) (k:Nat):(zA3 N c k).Pairwise (· < ·):=by
 unfold zA3
 rw [pairwise_map]
 refine (Pairwise.filter _ pairwise_lt_range).imp λh=>?_
 show (_:Int) < _
 exact Int.ofNat_lt.mpr h
theorem zN9 (N:Nat) (c:LI) (k:Nat):(zA3 N c k).length <= N:=by
 unfold zA3
 rw [length_map]
 refine Nat.le_trans (length_filter_le _ _) ?_
 rw [length_range]; exact Nat.le_refl _
theorem zQy (can:Can c) (hl:c.length = N) (h0:0 < N) (h60:N <= 60):∃ M:Nat,(∃ i,i < N /\ ng c i = (M:Int) - 1) /\ (∀ i,i < N->ng c i < (M:Int)) /\ 0 < M /\ M <= 60 /\ yO c = some (vD M N c):=by
 have ne:c ≠ []:=λe=>by rw [e] at hl; simp at hl; omega
 obtain ⟨i0,hi0⟩:=mem_iff_getElem?.mp (zGx ne)
 have i0l:=yA hi0
 have e0:ng c i0 = lmax c:=by rw [zC0 i0l] at hi0; exact Option.some.inj hi0
 have p0:=(can i0 i0l).1
 have p1:=zT7 can i0 i0 (Nat.le_refl _) i0l
 have ge:∀ i,i < N->ng c i <= lmax c:=λi hi=>zJ1 (mem_of_getElem? (zC0 (by omega)))
 refine ⟨(lmax c + 1).toNat,⟨i0,by omega,by omega⟩,λi hi=>by have:=ge i hi; omega,by omega,by omega,?_⟩
 generalize hM:(lmax c + 1).toNat = M
 unfold yO
 refine W_eq ?_
 rw [show maxM c = some (lmax c) by unfold maxM; rw [if_neg ne]]
 rw [zB,zB,zB,W_some,W_some,show zMc (lmax c + 1) = some (RwD.mk (replicate M [])) by unfold zMc; rw [if_pos ⟨by omega,by omega⟩,hM],W_some,zB,zB,W_some]
 refine uC (λi s=>s.xss = vD M i c) ?_ (λi x s hi e=>?_) λs e=>?_
 ·show replicate M [] = vD M 0 c
  unfold vD
  symm
  rw [List.eq_replicate_iff]
  refine ⟨by rw [length_map,length_range],λb hb=>?_⟩
  obtain ⟨k,_,e⟩:=mem_map.mp hb
  rw [<- e]; rfl
 ·have il:=yA hi
  rw [zAo] at il
  obtain ⟨x1,x2⟩:=x
  obtain ⟨rfl,h2⟩:=uF hi
  rw [zC0 il] at h2
  obtain rfl:=Option.some.inj h2
  have pi:=(can i il).1
  have qi:=ge i (by omega)
  show W ((zDd s (ng c i) (i:Int)).bind λu10=>some u10) _
  rw [zB]
  unfold zDd
  rw [if_pos pi,e]
  have kl:(ng c i).toNat < M:=by omega
  have er:(vD M i c)[(ng c i).toNat]? = some (zA3 i c (ng c i).toNat):=by
   unfold vD
   rw [getElem?_map,getElem?_range kl]; rfl
  rw [er]
  show W (if _ then _ else _) _
  rw [if_pos (yT (by have:=zN9 i c (ng c i).toNat; omega)),W_some,W_some]
  show (vD M i c).set (ng c i).toNat _ = vD M (i + 1) c
  refine ext_getElem? λk=>?_
  by_cases ek:(ng c i).toNat = k
  ·subst ek
   rw [getElem?_set_self (by unfold vD; rw [length_map,length_range]; exact kl)]
   unfold vD
   rw [getElem?_map,getElem?_range kl]
   show _ = some (zA3 (i + 1) c _)
   rw [zFr,if_pos (by omega)]
  ·rw [getElem?_set_ne ek]
   unfold vD
   rw [getElem?_map,getElem?_map]
   by_cases kM:k < M
   ·rw [getElem?_range kM]
    show some (zA3 i c k) = some (zA3 (i + 1) c k)
    rw [zFr,if_neg (by omega)]
   ·rw [List.getElem?_eq_none (by rw [length_range]; omega)]; rfl
 ·rw [W_some,e,zAo,hl]
end
abbrev TriT:=Tri (List LI) (List (Str × LI)) (List LI)
section
variable {C:Addr} {m:Mach C} {n:Int} {c:LI} {M N:Nat}
structure ClsOk (m:Mach C) (n:Int) (c:LI) (M:Nat):Prop where
 st:StOk m n c
 fx:fin m n c = c
 top:∃ i,i < n.toNat /\ ng c i = (M:Int) - 1
 lt:∀ i,i < n.toNat->ng c i < (M:Int)
 pos:0 < M
 few:M <= 60
theorem rows_at (h:k < M):atI (vD M N c) (k:Int) = some (zA3 N c k):=by
 rw [wH (by omega)]
 unfold vD
 rw [getElem?_map,Int.toNat_natCast,getElem?_range h]; rfl
theorem zRi:(vD M N c).length = M:=by unfold vD; rw [length_map,length_range]
end
structure PtOk (n:Int) (T:TriT):Prop where
 len:(T.a.length:Int) = n
 pos:1 <= n
 few:n <= 60
 row:∀ xs ∈ T.a,xs ≠ [] /\ zHg n xs
 marks:zFd n T.b
 mfew:T.b.length < 32
 ffew:T.c.length < 32
 fair:∀ xs ∈ T.c,zHg n xs
section
variable {C:Addr} {m:Mach C} {n:Int} {c:LI} {M:Nat}
theorem zL4 (h:PtOk n T):W (uR C T) λm=>Gr m n /\ m.steps = T.a /\ m.marks = T.b /\ m.fair = T.c:=by
 have:=h.len
 have:=h.few
 unfold uR
 rw [zB,W_some,zB,zB,W_some,zKi (λx:Str × LI=>(x.1,x.2))]
 refine ⟨yT (by have:=h.mfew; omega),?_⟩
 rw [show T.b.map (λx:Str × LI=>(x.1,x.2)) = T.b from map_id' _,zB,zB,W_some,zKi (λx:LI=>x)]
 refine ⟨yT (by omega),?_⟩
 rw [map_id',zB,zB,W_some,zKi (λx:LI=>x)]
 refine ⟨yT (by have:=h.ffew; omega),?_⟩
 rw [map_id']
 exact w_mkK C h.len h.pos h.few h.row h.marks ⟨Nat.le_of_lt (Nat.lt_trans h.ffew (by decide)),h.fair⟩
theorem nd_of {α β:Type} {f:α->β}:∀ {l:List α} {a b:α},(l.map f).Nodup->a ∈ l->b ∈ l->f a = f b->a = b
 | x :: l,a,b,nd,ha,hb,e=>by
  rw [map_cons,nodup_cons] at nd
  rcases mem_cons.mp ha with ha | ha
  ·rcases mem_cons.mp hb with hb | hb
   ·rw [ha,hb]
   ·exact absurd (mem_map.mpr ⟨b,hb,by rw [<- e,ha]⟩) nd.1
  ·rcases mem_cons.mp hb with hb | hb
   ·exact absurd (mem_map.mpr ⟨a,ha,by rw [e,hb]⟩) nd.1
   ·exact nd_of nd.2 ha hb e
theorem zOx (nd:(m.marks.map (·.1)).Nodup) (hp:p ∈ m.marks) (x:Int):p.1 ∈ zAt m x ↔ x ∈ p.2:=by
 unfold zAt
 rw [mem_map]
 constructor
 ·rintro ⟨q,hq,e⟩
  rw [mem_filter] at hq
  have:q = p:=nd_of nd hq.1 hp e
  rw [<- this]
  exact of_decide_eq_true hq.2
 ·intro h
  exact ⟨p,mem_filter.mpr ⟨hp,decide_eq_true h⟩,rfl⟩
theorem zTu {i:Nat} {s:LI} (hs:m.fair[i]? = some s) (x:Int):(i:Int) ∈ frAt m x ↔ x ∈ s:=by
 unfold frAt
 rw [mem_map]
 constructor
 ·rintro ⟨q,hq,e⟩
  rw [mem_filter] at hq
  obtain ⟨j,hj⟩:=mem_iff_getElem?.mp hq.1
  obtain ⟨e1,e2⟩:=uF hj
  have ij:j = i:=by omega
  rw [ij,hs] at e2
  rw [Option.some.inj e2]
  exact of_decide_eq_true hq.2
 ·intro h
  refine ⟨((i:Int),s),mem_filter.mpr ⟨mem_iff_getElem?.mpr ⟨i,?_⟩,decide_eq_true h⟩,rfl⟩
  have hi:=yA hs
  unfold zC5
  rw [List.getElem?_zip_eq_some]
  exact ⟨by rw [getElem?_map,getElem?_range hi]; rfl,hs⟩
end
theorem uD (q:Scr) (h:0 <= k):W (zW q k) λ_=>True:=by
 unfold zW
 rw [zB7]
 refine ⟨λh1=>?_,λ_=>W_some.mpr trivial⟩
 have h1:=of_decide_eq_true h1
 rw [W_at h]
 exact ⟨_,List.getElem?_eq_getElem (show k.toNat < q.ns.length by omega),trivial⟩
theorem zDx (c k:Int):W (xX c k) λ_=>True:=by
 unfold xX
 simp only [zB,W_pow,vA,W_mul,W_some,zAd]
 exact ⟨⟨by decide,by decide,by decide⟩,by decide,.inr ⟨by decide,by decide⟩,.inr ⟨by decide,by decide⟩,⟨by decide,by decide⟩,trivial⟩
def Lett (l:List Nat):Prop:=∀ x ∈ l,∃ i,i < 26 /\ x = 97 + i
def mdK (e:Bool) (t:List Nat) (r k:Int):List Nat:=if e = true then (97 + ((r + k) % 26).toNat) :: t else t ++ [97 + ((r + k) % 26).toNat]
def nmK (e:Bool) (t:List Nat) (r k:Int):List Nat:=if nmS (mdK e t r k) ∈ resv then (mdK e t r k).dropLast else mdK e t r k
theorem zRk:∀ w ∈ resv,cutS w (-(1:Int)) = some (nmS w.cps.toList.dropLast):=by decide +kernel
theorem zOb:∀ w ∈ resv,∀ v ∈ resv,w.cps.toList.tail = v.cps.toList.tail \/ w.cps.toList.dropLast = v.cps.toList.dropLast->w = v:=by decide +kernel
theorem zKw:∀ w ∈ resv,nmS w.cps.toList.dropLast ∉ resv /\ 3 <= w.cps.toList.length:=by decide +kernel
theorem zEh (l:List Nat):(nmS l).cps.toList = l:=by unfold nmS; simp
theorem zJz (e:Bool) (t:List Nat) (r k:Int):(mdK e t r k).length = t.length + 1:=by
 unfold mdK
 split
 ·rw [length_cons]
 ·rw [length_append]; rfl
theorem zR3 (h:Lett t):Lett (mdK e t r k):=λx hx=>by
 have hn:∃ i,i < 26 /\ 97 + ((r + k) % 26).toNat = 97 + i:=⟨_,by have:=Int.emod_lt_of_pos (r + k) (show (0:Int) < 26 by decide); have:=Int.emod_nonneg (r + k) (show (26:Int) ≠ 0 by decide); omega,rfl⟩
 unfold mdK at hx
 split at hx
 ·rcases mem_cons.mp hx with e | hx
  ·rw [e]; exact hn
  ·exact h x hx
 ·rcases mem_append.mp hx with hx | hx
  ·exact h x hx
  ·rw [mem_singleton.mp hx]; exact hn
theorem zTp {e:Bool} {t:List Nat} {r:Int} {j k:Nat} (hj:j < 26) (hk:k < 26) (h:mdK e t r j = mdK e t r k):j = k:=by
 have q:(r + (j:Int)) % 26 = (r + (k:Int)) % 26:=by
  have a1:=Int.emod_nonneg (r + (j:Int)) (show (26:Int) ≠ 0 by decide)
  have a2:=Int.emod_nonneg (r + (k:Int)) (show (26:Int) ≠ 0 by decide)
  unfold mdK at h
  split at h
  ·have:=(List.cons.inj h).1; omega
  ·have:=List.append_cancel_left h
   have:=(List.cons.inj this).1
   omega
 omega
theorem zO0 {t:List Nat} (ht:t.length <= 7):1 <= (nmK e t r k).length /\ (nmK e t r k).length <= 8:=by
 have l:=zJz e t r k
 unfold nmK
 split
 ·rename_i h
  have:=(zKw _ h).2
  rw [zEh] at this
  rw [length_dropLast]
  omega
 ·omega
theorem zRz {t:List Nat} (ht:t.length <= 7) (hl:Lett t):uS (nmS (nmK e t r k)) = some true:=by
 obtain ⟨l1,l8⟩:=zO0 (e:=e) (r:=r) (k:=k) ht
 refine zPl l1 l8 ?_ ?_
 ·have:=zR3 (e:=e) (r:=r) (k:=k) hl
  unfold nmK
  split
  ·exact λx hx=>this x ((List.dropLast_sublist _).subset hx)
  ·exact this
 ·unfold nmK
  split
  ·rename_i h
   have:=(zKw _ h).1
   rw [zEh] at this
   exact this
  ·assumption
theorem nmK_ne {e:Bool} {t:List Nat} {r:Int} {j k:Nat} (hj:j < 26) (hk:k < 26) (h:nmK e t r j = nmK e t r k):j = k:=by
 have l1:=zJz e t r j
 have l2:=zJz e t r k
 unfold nmK at h
 split at h
 ·rename_i w1
  split at h
  ·rename_i w2
   refine zTp hj hk (e:=e) (t:=t) (r:=r) ?_
   have q:=zOb _ w1 _ w2
   rw [zEh,zEh] at q
   have:=q (by
    unfold mdK
    cases e with
    | true=>exact .inl rfl
    | false=>exact .inr (by rw [if_neg (by decide),if_neg (by decide),List.dropLast_concat,List.dropLast_concat]))
   exact zOz this
  ·have:=congrArg length h
   rw [length_dropLast] at this
   omega
 ·split at h
  ·have:=congrArg length h
   rw [length_dropLast] at this
   omega
  ·exact zTp hj hk h
theorem w_name (c:Int):∃ (e:Bool) (t:List Nat) (r:Int),t.length <= 7 /\ Lett t /\ ∀ k:Int,0 <= k->xW c k = some (nmS (nmK e t r k)):=by
 have c8:=Int.emod_lt_of_pos (c / 2) (show (0:Int) < 8 by decide)
 have c0:=Int.emod_nonneg (c / 2) (show (8:Int) ≠ 0 by decide)
 have tl:W (xQ (λ(s4:Str × Int) (x6:Int)=>(((modM s4.2 (26:Int)).bind λb10=>ixS ("abcdefghijklmnopqrstuvwxyz":Str) b10).bind λb11=>addS s4.1 b11).bind λtail9=>(divM s4.2 (26:Int)).bind λrest12=>some (tail9,rest12)) (rng (c / 2 % 8)) (("":Str),c / 16)) λs=>∃ t,s.1 = nmS t /\ t.length <= 7 /\ Lett t:=by
  refine uC (λi s=>∃ t,s.1 = nmS t /\ t.length = i /\ Lett t) ⟨[],by show ("":Str) = nmS []; rfl,rfl,λx hx=>by cases hx⟩ (λi x s hi hI=>?_) λs hI=>?_
  ·obtain ⟨_,i8⟩:=zDe hi
   obtain ⟨tx,rs⟩:=s
   obtain ⟨t,rfl,rfl,hl⟩:=hI
   rw [zB,zB,zB,vA]
   refine ⟨by decide,?_⟩
   show W (ixS _ (rs % 26)) _
   rw [zLf,W_some]
   show W (addS (nmS t) (nmS [97 + (rs % 26).toNat])) _
   rw [zKh (by rw [length_singleton]; omega),W_some,zB,zAd]
   refine ⟨⟨by decide,by decide⟩,?_⟩
   rw [W_some]
   refine ⟨_,rfl,by rw [length_append]; rfl,λx hx=>?_⟩
   rcases mem_append.mp hx with z | z
   ·exact hl x z
   ·rw [mem_singleton.mp z]
    exact ⟨_,by have:=Int.emod_lt_of_pos rs (show (0:Int) < 26 by decide); have:=Int.emod_nonneg rs (show (26:Int) ≠ 0 by decide); omega,rfl⟩
  ·obtain ⟨t,e,l,hl⟩:=hI
   exact ⟨t,e,by rw [l,wF]; omega,hl⟩
 obtain ⟨⟨tx,r⟩,ef,t,rfl,t7,hl⟩:=tl
 refine ⟨decide (c % 2 = 0),t,r,t7,hl,λk k0=>?_⟩
 apply W_eq
 unfold xW
 rw [zB,W_some,zB,W_some,zB,zAd]
 refine ⟨⟨by decide,by decide⟩,?_⟩
 rw [zB,zB,zB,zB,zAd]
 refine ⟨⟨by decide,by decide⟩,?_⟩
 rw [vA]
 refine ⟨by decide,?_⟩
 rw [vL]
 refine ⟨⟨by omega,by omega⟩,?_⟩
 rw [ef,W_some,zB,zB,vA]
 refine ⟨by decide,?_⟩
 show W (ixS _ ((r + k) % 26)) _
 rw [zLf,W_some]
 show W _ _
 rw [zB,zB,zB]
 show W (addS (nmS [97 + ((r + k) % 26).toNat]) (nmS t)) _
 rw [zKh (by rw [length_singleton]; omega),W_some,zB,zB]
 show W (addS (nmS t) (nmS [97 + ((r + k) % 26).toNat])) _
 rw [zKh (by rw [length_singleton]; omega),W_some,W_some,W_some,zB,vA]
 refine ⟨by decide,?_⟩
 have md:atI [nmS ([97 + ((r + k) % 26).toNat] ++ t),nmS (t ++ [97 + ((r + k) % 26).toNat])] (c % 2) = some (nmS (mdK (decide (c % 2 = 0)) t r k)):=by
  rw [wH (by omega)]
  unfold mdK
  by_cases z:c % 2 = 0
  ·rw [z,if_pos (decide_eq_true rfl)]; rfl
  ·rw [show c % 2 = 1 by omega,if_neg (by decide)]; rfl
 rw [md,W_some,zB,W_some,zB]
 unfold nmK
 by_cases z:nmS (mdK (decide (c % 2 = 0)) t r k) ∈ resv
 ·have z':=z
  unfold resv at z'
  rw [if_pos (decide_eq_true z'),zB,zRk _ z,W_some,W_some,W_some,if_pos z,zEh]
 ·have z':=z
  unfold resv at z'
  rw [if_neg (λy=>z' (of_decide_eq_true y)),W_some,W_some,if_neg z]
theorem zCl {α β:Type} {c:α->Option Bool} {f:α->Option β} {p:α->Bool} {g:α->β}:∀ {xs:List α},(∀ x ∈ xs,c x = some (p x))->(∀ x ∈ xs,f x = some (g x))->xR c f xs = some ((xs.filter p).map g)
 | [],_,_=>rfl
 | x :: xs,hc,hf=>by
  have ih:=zCl (λy hy=>hc y (mem_cons_of_mem _ hy)) (λy hy=>hf y (mem_cons_of_mem _ hy))
  show (c x).bind _ = _
  rw [hc x mem_cons_self]
  cases e:p x with
  | false =>
   rw [List.filter_cons_of_neg (by rw [e]; decide)]
   show xR c f xs = _
   exact ih
  | true =>
   rw [List.filter_cons_of_pos e]
   show (f x).bind _ = _
   rw [hf x mem_cons_self]
   show (xR c f xs).bind _ = _
   rw [ih]
   rfl
theorem zKv (n:Int):Rise n (rng n):=by
 refine ⟨?_,λx hx=>mem_rng.mp hx⟩
 unfold rng
 rw [pairwise_map]
 exact pairwise_lt_range.imp λh=>Int.ofNat_lt.mpr h
theorem zJi (p:Int->Bool) (h:Rise n xs):Rise n (xs.filter p):=⟨h.1.filter p,λx hx=>h.2 x (mem_filter.mp hx).1⟩
theorem zHx {xs:LI} (h:xs.Nodup):xs.reverse.Nodup:=List.pairwise_reverse.mpr (h.imp λq e=>q e.symm)
def Un (n:Int) (xs:LI):Prop:=xs.Nodup /\ ∀ x ∈ xs,0 <= x /\ x < n
theorem zFo (h:Un n xs) (h0:0 <= n):(xs.length:Int) <= n:=by
 have:=uW (n:=n.toNat) h.1 λx hx=>by have:=h.2 x hx; omega
 omega
theorem zKm (h:Un n xs) (h0:0 <= n) (h1:n <= 60):zHg n xs:=⟨h.1,by have:=zFo h h0; omega,h.2⟩
theorem zGb (h:Un n xs) (h0:0 <= x) (h1:x < n) (hx:x ∉ xs):Un n (xs ++ [x]):=by
 refine ⟨?_,λy hy=>?_⟩
 ·rw [nodup_append]
  refine ⟨h.1,by simp,λa ha b hb e=>hx ?_⟩
  rw [<- mem_singleton.mp hb,<- e]
  exact ha
 ·rcases mem_append.mp hy with z | z
  ·exact h.2 y z
  ·rw [mem_singleton.mp z]; exact ⟨h0,h1⟩
theorem zKj (q:Int) (h0:0 <= n) (h1:n <= 60):W (vG q n) (Un n):=by
 unfold vG
 rw [zB,W_some,zB,zB,vL]
 refine ⟨⟨by omega,by omega⟩,?_⟩
 refine uC (λi s=>Rise (i:Int) s.1) ⟨.nil,λx hx=>by cases hx⟩ (λi x s hi hI=>?_) λs hI=>?_
 ·obtain ⟨rfl,il⟩:=zDe hi
  have sl:s.1.length <= 1000:=by
   have:=uW (n:=i) hI.nodup hI.2
   omega
  rw [zB,zB,zB,vA]
  refine ⟨by decide,?_⟩
  rw [W_some,zB7]
  refine ⟨λ_=>?_,λ_=>?_⟩
  ·rw [zB,zBw]
   refine ⟨yT sl,?_⟩
   rw [W_some,zB,zAd]
   refine ⟨⟨by decide,by decide⟩,?_⟩
   rw [W_some]
   exact zOa hI (by omega) (by omega)
  ·rw [W_some,zB,zAd]
   refine ⟨⟨by decide,by decide⟩,?_⟩
   rw [W_some]
   exact rise_up hI (by omega)
 ·rw [wF] at hI
  have un:Un n s.1:=⟨hI.nodup,λx hx=>by have:=hI.2 x hx; omega⟩
  rw [zB,zB,zB,vA]
  refine ⟨by decide,?_⟩
  rw [W_some,zB7]
  refine ⟨λ_=>?_,λ_=>?_⟩
  ·rw [zB,W_some,W_some,W_some]
   exact ⟨zHx un.1,λx hx=>un.2 x (List.mem_reverse.mp hx)⟩
  ·rw [W_some,W_some]
   exact un
structure MapOk (n:Int) (maps:LI) (bases:Int):Prop where
 len:(maps.length:Int) = n
 pos:1 <= n
 few:n <= 20
 b1:1 <= bases
 bn:bases <= n
 at_:∀ i:Nat,(i:Int) < n->0 <= ng maps i /\ ng maps i < bases
 self:∀ i:Nat,(i:Int) < bases->ng maps i = i
theorem zTn (i:Nat):ng (xs ++ [y]) i = if i < xs.length then ng xs i else if i = xs.length then y else 0:=by
 unfold ng
 rw [getD_eq_getElem?_getD,getD_eq_getElem?_getD]
 by_cases h:i < xs.length
 ·rw [if_pos h,getElem?_append_left h]
 ·rw [if_neg h,getElem?_append_right (by omega)]
  by_cases e:i = xs.length
  ·subst e; rw [if_pos rfl,Nat.sub_self]; rfl
  ·rw [if_neg e,List.getElem?_eq_none (by rw [length_singleton]; omega)]; rfl
theorem w_maps (q:Scr):W (uQ q) λv=>∃ n,MapOk n v.1 v.2:=by
 unfold uQ
 obtain ⟨c0,e0,_⟩:=uD q (k:=0) (by decide)
 obtain ⟨c1,e1,_⟩:=uD q (k:=1) (by decide)
 rw [e0,e1,zB,zB,zB,W_some,vA]
 refine ⟨by decide,?_⟩
 rw [W_some,zB,zB,zB,zB,zB,W_some,zAd]
 refine ⟨⟨by decide,by decide⟩,?_⟩
 rw [vA]
 refine ⟨by decide,?_⟩
 rw [W_some]
 have many:W (if decide (c0 / 8 % 8 = 5) = true then (((((some c0).bind λa10=>divM a10 64).bind λa11=>modM a11 20).bind λb12=>some ((1:Int) + b12)).bind λmany9=>some many9) else some ((1:Int) + c0 % 8)) λn=>1 <= n /\ n <= 20:=by
  rw [zB7]
  refine ⟨λ_=>?_,λ_=>?_⟩
  ·rw [zB,zB,zB,zB,W_some,zAd]
   refine ⟨⟨by decide,by decide⟩,?_⟩
   rw [vA]
   refine ⟨by decide,?_⟩
   rw [W_some,W_some]
   omega
  ·rw [W_some]
   omega
 refine many.imp λn ⟨n1,n20⟩=>?_
 rw [zB,zB,zB,W_some,vA]
 refine ⟨by omega,?_⟩
 rw [W_some]
 have b0:=Int.emod_nonneg c1 (show n ≠ 0 by omega)
 have b1:=Int.emod_lt_of_pos c1 (show 0 < n by omega)
 generalize hb:(1:Int) + c1 % n = bs
 rw [zB,W_some,zB,zB,vL]
 refine ⟨⟨by omega,by omega⟩,?_⟩
 refine uC (λi s=>s.length = i /\ (∀ j:Nat,j < i->0 <= ng s j /\ ng s j < bs) /\ ∀ j:Nat,j < i->(j:Int) < bs->ng s j = j) ⟨rfl,λj h=>by omega,λj h=>by omega⟩ (λi x s hi hI=>?_) λs hI=>?_
 ·obtain ⟨rfl,il⟩:=zDe hi
  obtain ⟨sl,s1,s2⟩:=hI
  obtain ⟨z,ez,_⟩:=zDx c1 (i:Int)
  rw [zB,zB,zB,zB,zB,zB,zB,W_some,W_some]
  show W (xX c1 (i:Int)) _
  rw [ez,W_some,vA]
  refine ⟨by omega,?_⟩
  rw [zB,W_mul]
  refine ⟨.inl ⟨by omega,by omega⟩,?_⟩
  rw [W_some,W_some,zBw]
  refine ⟨yT (by omega),?_⟩
  rw [W_some]
  have z0:=Int.emod_nonneg z (show bs ≠ 0 by omega)
  have z1:=Int.emod_lt_of_pos z (show 0 < bs by omega)
  generalize z % bs = y at z0 z1
  have val:∀ w:Int,w = min (i:Int) (y + bs * (if decide ((i:Int) < bs) = true then (1:Int) else 0))->(0 <= w /\ w < bs) /\ ((i:Int) < bs->w = i):=λw hw=>by
   by_cases ib:(i:Int) < bs
   ·rw [if_pos (decide_eq_true ib)] at hw
    rw [hw]
    exact ⟨⟨by omega,by omega⟩,λ_=>by omega⟩
   ·rw [if_neg (λh=>ib (of_decide_eq_true h))] at hw
    rw [hw]
    exact ⟨⟨by omega,by omega⟩,λh=>absurd h ib⟩
  generalize hw:min (i:Int) (y + bs * (if decide ((i:Int) < bs) = true then (1:Int) else 0)) = w
  obtain ⟨v1,v2⟩:=val w hw.symm
  refine ⟨by rw [length_append,sl]; rfl,λj hj=>?_,λj hj jb=>?_⟩
  ·rw [zTn,sl]
   by_cases e:j < i
   ·rw [if_pos e]; exact s1 j e
   ·rw [if_neg e,if_pos (by omega)]; exact v1
  ·rw [zTn,sl]
   by_cases e:j < i
   ·rw [if_pos e]; exact s2 j e jb
   ·rw [if_neg e,if_pos (by omega),v2 (by omega)]; omega
 ·obtain ⟨sl,s1,s2⟩:=hI
  rw [wF] at sl s1 s2
  rw [W_some]
  exact ⟨n,by show (s.length:Int) = n; omega,n1,n20,by show (1:Int) <= bs; omega,by show bs <= n; omega,λi hi=>s1 i (by omega),λi hi=>s2 i (by omega) hi⟩
def plc (maps:LI) (n b:Int):LI:=(rng n).filter λx=>decide (ng maps x.toNat = b)
section
variable {n:Int} {maps:LI} {bases:Int}
theorem mem_plc:x ∈ plc maps n b ↔ (0 <= x /\ x < n) /\ ng maps x.toNat = b:=by
 unfold plc
 rw [mem_filter,mem_rng]
 exact ⟨λh=>⟨h.1,of_decide_eq_true h.2⟩,λh=>⟨h.1,decide_eq_true h.2⟩⟩
theorem plc_ne (h:MapOk n maps bases) (b0:0 <= b) (b1:b < bases):0 < (plc maps n b).length:=by
 refine length_pos_iff.mpr λe=>?_
 have bn:=h.bn
 have:b ∈ plc maps n b:=mem_plc.mpr ⟨⟨b0,by omega⟩,by rw [h.self b.toNat (by omega)]; omega⟩
 rw [e] at this
 cases this
theorem w_plc (h:MapOk n maps bases) (b:Int):((wJ (maps.length:Int)).bind λxs=>xM (λ(x7:Int)=>(atI maps x7).bind λa8=>some (decide (a8 = b))) (λ(x7:Int)=>some x7) xs) = some (plc maps n b):=by
 have l:=h.len
 have f:=h.few
 have p:=h.pos
 apply W_eq
 rw [zB,vL,l]
 refine ⟨⟨by omega,by omega⟩,?_⟩
 unfold xM
 rw [if_pos (yT (by rw [wF]; omega)),zCl (p:=λx=>decide (ng maps x.toNat = b)) (g:=λx=>x) (λx hx=>?_) (λ_ _=>rfl),W_some,map_id']
 ·rfl
 ·obtain ⟨x0,x1⟩:=mem_rng.mp hx
  rw [wH x0,zC0 (by omega)]; rfl
theorem w_pick (e:atI P g = some l) (hl:0 < l.length) (more:Int) {Q:Int->Prop} (k:∀ x ∈ l,Q x):W ((atI P g).bind λa34=>(((atI P g).bind λa32=>some (a32.length:Int)).bind λb33=>modM more b33).bind λb35=>atI a34 b35) Q:=by
 rw [e,zB,W_some,zB,zB,zB,W_some,W_some,vA]
 refine ⟨by omega,?_⟩
 have m0:=Int.emod_nonneg more (show (l.length:Int) ≠ 0 by omega)
 have m1:=Int.emod_lt_of_pos more (show (0:Int) < l.length by omega)
 rw [W_at m0]
 exact ⟨_,List.getElem?_eq_getElem (by omega),k _ (getElem_mem _)⟩
theorem w_row (h:MapOk n maps bases) (q:Scr) (s0:0 <= s) (hg:Un bases goals) (gn:goals ≠ []):W (xQ (λ(s25:LI) (x27:Int)=>(((zW q ((6:Int) + s)).bind λa30=>some ((a30,((100:Int) + x27,())))).bind λz29=>xX z29.1 z29.2.1).bind λmore28=>(((atI ((rng bases).map (plc maps n)) x27).bind λa34=>(((atI ((rng bases).map (plc maps n)) x27).bind λa32=>some (a32.length:Int)).bind λb33=>modM more28 b33).bind λb35=>atI a34 b35).bind λa36=>push s25 a36).bind λrow31=>((atI ((rng bases).map (plc maps n)) x27).bind λa41=>((divM more28 (64:Int)).bind λa39=>((atI ((rng bases).map (plc maps n)) x27).bind λa38=>some (a38.length:Int)).bind λb40=>modM a39 b40).bind λb42=>atI a41 b42).bind λsecond37=>(if (!decide (second37 ∈ row31)) = true then (push row31 second37).bind λrow45=>some row45 else some row31).bind λs43=>some s43) goals []) λrow=>row ≠ [] /\ Un n row:=by
 have hn:=h.few
 have hp:=h.pos
 have hb:=h.bn
 have gl:=zFo hg (by have:=h.b1; omega)
 refine uC (λi row=>Un n row /\ (∀ x ∈ row,ng maps x.toNat ∈ goals.take i) /\ (0 < i->row ≠ [])) ⟨⟨.nil,λx hx=>(by cases hx)⟩,λx hx=>(by cases hx),λz=>absurd z (by omega)⟩ (λi g row hi hI=>?_) λrow hI=>⟨hI.2.2 (length_pos_iff.mpr gn),hI.1⟩
 obtain ⟨un,hm,_⟩:=hI
 have il:=yA hi
 obtain ⟨g0,g1⟩:=hg.2 g (mem_of_getElem? hi)
 have ep:atI ((rng bases).map (plc maps n)) g = some (plc maps n g):=by
  rw [wH g0,getElem?_map,zJh (by omega)]
  show some _ = some _
  congr 2
  omega
 have tk:goals.take (i + 1) = goals.take i ++ [g]:=by rw [take_add_one,hi]; rfl
 have ng_not:g ∉ goals.take i:=zBo hg.1 hi
 have pl:=plc_ne h g0 g1
 have rl:=zFo un (by omega)
 rw [zB,zB,zB]
 refine (uD q (by omega)).imp λc _=>?_
 rw [W_some]
 refine (zDx c _).imp λmore _=>?_
 rw [zB,zB]
 refine w_pick ep pl more λx hx=>?_
 obtain ⟨⟨x0,x1⟩,xg⟩:=mem_plc.mp hx
 have xr:x ∉ row:=λz=>ng_not (by rw [<- xg]; exact hm x z)
 have un2:=zGb un x0 x1 xr
 rw [zBw]
 refine ⟨yT (by omega),?_⟩
 have m2:∀ z ∈ row ++ [x],ng maps z.toNat ∈ goals.take (i + 1):=λz hz=>by
  rw [tk]
  rcases mem_append.mp hz with w | w
  ·exact mem_append_left _ (hm z w)
  ·rw [mem_singleton.mp w,xg]; exact mem_append_right _ mem_cons_self
 have rl2:=zFo un2 (by omega)
 rw [ep,zB,zB,W_some,zB,zB,zAd]
 refine ⟨⟨by decide,by decide⟩,?_⟩
 rw [zB,zB,W_some,W_some,vA]
 refine ⟨by omega,?_⟩
 have m0:=Int.emod_nonneg (more / 64) (show ((plc maps n g).length:Int) ≠ 0 by omega)
 have m1:=Int.emod_lt_of_pos (more / 64) (show (0:Int) < (plc maps n g).length by omega)
 rw [W_at m0]
 refine ⟨_,List.getElem?_eq_getElem (by omega),?_⟩
 have hy:(plc maps n g)[(more / 64 % ((plc maps n g).length:Int)).toNat]'(by omega) ∈ plc maps n g:=getElem_mem _
 generalize (plc maps n g)[(more / 64 % ((plc maps n g).length:Int)).toNat]'(by omega) = y at hy
 obtain ⟨⟨y0,y1⟩,yg⟩:=mem_plc.mp hy
 rw [zB,zB7]
 refine ⟨λhn=>?_,λ_=>?_⟩
 ·have yr:y ∉ row ++ [x]:=by simpa using hn
  rw [zB,zBw]
  refine ⟨yT (by omega),?_⟩
  rw [W_some,W_some]
  refine ⟨zGb un2 y0 y1 yr,λz hz=>?_,λ_=>by simp⟩
  rcases mem_append.mp hz with w | w
  ·exact m2 z w
  ·rw [mem_singleton.mp w,yg,tk]; exact mem_append_right _ mem_cons_self
 ·rw [W_some,W_some]
  exact ⟨un2,m2,λ_=>by simp⟩
end
section
variable {n:Int} {maps:LI} {bases:Int}
theorem zQz (h:MapOk n maps bases) (q:Scr):W (vQ q maps bases) λxss=>(xss.length:Int) = n /\ ∀ xs ∈ xss,xs ≠ [] /\ Un n xs:=by
 have hl:=h.len
 have hn:=h.few
 have hp:=h.pos
 have hb:=h.bn
 have hb1:=h.b1
 unfold vQ
 rw [zB]
 refine (uD q (by decide)).imp λkept _=>?_
 rw [zB,W_some,zB,zB,vL]
 refine ⟨⟨by omega,by omega⟩,?_⟩
 have e:=zDv (f:=λb:Int=>(wJ (maps.length:Int)).bind λxs=>xM (λ(x7:Int)=>(atI maps x7).bind λa8=>some (decide (a8 = b))) (λ(x7:Int)=>some x7) xs) (k:=plc maps n) (xs:=rng bases) (λb _=>w_plc h b) (by rw [wF]; omega)
 rw [e,W_some,zB,W_some,zB,zB,hl,vL]
 refine ⟨⟨by omega,by omega⟩,?_⟩
 refine uC (λi s=>s.xss.length = i /\ ∀ xs ∈ s.xss,xs ≠ [] /\ Un n xs) ⟨rfl,λx hx=>(by cases hx)⟩ (λi x s hi hI=>?_) λs hI=>?_
 ·obtain ⟨rfl,il⟩:=zDe hi
  obtain ⟨sl,sm⟩:=hI
  rw [zB,zB,zB,zB,zB,wH (by omega),Int.toNat_natCast,zC0 (by omega),W_some,W_some,W_some,W_some]
  refine (zDx _ _).imp λrest _=>?_
  rw [zB]
  refine (zKj rest (by omega) (by omega)).imp λgoals hg=>?_
  have key:W (if (decide ((goals.length:Int) = (0:Int))) = true then ((modM rest bases).bind λa23=>some (a23 :: ([]))).bind λgoals22=>some goals22 else some goals) λs=>Un bases s /\ s ≠ []:=by
   rw [zB7]
   refine ⟨λ_=>?_,λz=>?_⟩
   ·rw [zB,zB,vA]
    refine ⟨by omega,?_⟩
    rw [W_some,W_some]
    refine ⟨⟨by simp,λx hx=>?_⟩,by simp⟩
    rw [mem_singleton.mp hx]
    exact ⟨Int.emod_nonneg _ (by omega),Int.emod_lt_of_pos _ (by omega)⟩
   ·rw [W_some]
    refine ⟨hg,λe=>z (by rw [e]; rfl)⟩
  rw [zB]
  refine key.imp λs20 ⟨u,ne⟩=>?_
  rw [zB,W_some,zB,zB,W_some]
  refine (w_row h q (by omega) u ne).imp λrow ⟨rn,ru⟩=>?_
  rw [zB]
  unfold zGj
  rw [if_pos (yT (by omega)),W_some,W_some]
  refine ⟨by show (s.xss ++ [row]).length = _; rw [length_append,sl]; rfl,λxs hx=>?_⟩
  rcases mem_append.mp (show xs ∈ s.xss ++ [row] from hx) with z | z
  ·exact sm xs z
  ·rw [mem_singleton.mp z]; exact ⟨rn,ru⟩
 ·obtain ⟨sl,sm⟩:=hI
  rw [wF] at sl
  rw [zB,zB,zB]
  refine (uD q (by decide)).imp λc3 _=>?_
  rw [W_some]
  refine (zDx _ _).imp λrest _=>?_
  have k0:=Int.emod_nonneg (rest / 3 / 64) (show n ≠ 0 by omega)
  have k1:=Int.emod_lt_of_pos (rest / 3 / 64) (show 0 < n by omega)
  have a0:=Int.emod_nonneg (rest / 3) (show n ≠ 0 by omega)
  have a1:=Int.emod_lt_of_pos (rest / 3) (show 0 < n by omega)
  have kl:(rest / 3 / 64 % n).toNat < s.xss.length:=by omega
  have ek:=List.getElem?_eq_getElem kl
  have rk:=sm _ (getElem_mem kl)
  generalize s.xss[(rest / 3 / 64 % n).toNat] = r at ek rk
  have key2:W (((modM rest (3:Int)).bind λa50=>some (decide (a50 = (0:Int)))).bind λc57=>if c57 = true then ((divM rest (3:Int)).bind λa54=>modM a54 n).bind λa55=>((((divM rest (3:Int)).bind λa51=>divM a51 (64:Int)).bind λa52=>modM a52 n).bind λb53=>atI s.xss b53).bind λb56=>some (!decide (a55 ∈ b56)) else some false) λb=>b = true->rest / 3 % n ∉ r:=by
   rw [zB,zB,vA]
   refine ⟨by decide,?_⟩
   rw [W_some,zB7]
   refine ⟨λ_=>?_,λ_=>W_some.mpr λz=>(by cases z)⟩
   rw [zB,zB,zAd]
   refine ⟨⟨by decide,by decide⟩,?_⟩
   rw [vA]
   refine ⟨by omega,?_⟩
   rw [zB,zB,zB,zB,zAd]
   refine ⟨⟨by decide,by decide⟩,?_⟩
   rw [zAd]
   refine ⟨⟨by decide,by decide⟩,?_⟩
   rw [vA]
   refine ⟨by omega,?_⟩
   rw [wH k0,ek,W_some,W_some]
   intro z
   simpa using z
  rw [zB,zB]
  refine key2.imp λb hb=>?_
  rw [zB7]
  refine ⟨λe=>?_,λ_=>by rw [W_some,W_some]; exact ⟨by omega,sm⟩⟩
  have ar:=hb e
  rw [zB,zB,zB,zB,zAd]
  refine ⟨⟨by decide,by decide⟩,?_⟩
  rw [zAd]
  refine ⟨⟨by decide,by decide⟩,?_⟩
  rw [vA]
  refine ⟨by omega,?_⟩
  rw [zB,zB,zAd]
  refine ⟨⟨by decide,by decide⟩,?_⟩
  rw [vA]
  refine ⟨by omega,?_⟩
  unfold zDd
  have rl:=zFo rk.2 (by omega)
  rw [if_pos k0,ek]
  show W (if r.length < cap then _ else _) _
  rw [if_pos (yT (by omega)),W_some,W_some,W_some]
  refine ⟨by show ((s.xss.set _ _).length:Int) = n; rw [List.length_set]; omega,λxs hx=>?_⟩
  rcases List.mem_or_eq_of_mem_set (show xs ∈ s.xss.set _ _ from hx) with z | z
  ·exact sm xs z
  ·rw [z]
   exact ⟨by simp,zGb rk.2 a0 a1 ar⟩
theorem zNf (h:MapOk n maps bases) (c:Int) (k0:0 <= k) (k1:k <= 100):W (vH c k maps bases) (Un n):=by
 have hl:=h.len
 have hn:=h.few
 have hp:=h.pos
 have hb:=h.bn
 have hb1:=h.b1
 unfold vH
 rw [zB,zB,zB,zB]
 refine (zDx _ _).imp λz _=>?_
 rw [zAd]
 refine ⟨⟨by omega,by omega⟩,?_⟩
 rw [W_some]
 refine (zKj _ (by show (0:Int) <= bases; omega) (by show bases <= 60; omega)).imp λgoals hg=>?_
 have ef:((wJ (maps.length:Int)).bind λxs=>xM (λ(x6:Int)=>(atI maps x6).bind λa7=>some (decide (a7 ∈ goals))) (λ(x6:Int)=>some x6) xs) = some ((rng n).filter λx=>decide (ng maps x.toNat ∈ goals)):=by
  apply W_eq
  rw [zB,vL,hl]
  refine ⟨⟨by omega,by omega⟩,?_⟩
  unfold xM
  rw [if_pos (yT (by rw [wF]; omega)),zCl (p:=λx=>decide (ng maps x.toNat ∈ goals)) (g:=λx=>x) (λx hx=>?_) (λ_ _=>rfl),W_some,map_id']
  obtain ⟨x0,x1⟩:=mem_rng.mp hx
  rw [wH x0,zC0 (by omega)]; rfl
 have rf:Rise n ((rng n).filter λx=>decide (ng maps x.toNat ∈ goals)):=zJi _ (zKv n)
 rw [zB,ef,W_some]
 generalize ((rng n).filter λx=>decide (ng maps x.toNat ∈ goals)) = found at rf
 have uf:Un n found:=⟨rf.nodup,rf.2⟩
 have key:W ((((divM c (7:Int)).bind λa8=>modM a8 (2:Int)).bind λa9=>some (decide (a9 = (1:Int)))).bind λb=>if b = true then (some found.reverse).bind λfound12=>some found12 else some found) (Un n):=by
  rw [zB,zB,zB,zAd]
  refine ⟨⟨by decide,by decide⟩,?_⟩
  rw [vA]
  refine ⟨by decide,?_⟩
  rw [W_some,zB7]
  refine ⟨λ_=>?_,λ_=>W_some.mpr uf⟩
  rw [zB,W_some,W_some]
  exact ⟨zHx uf.1,λx hx=>uf.2 x (List.mem_reverse.mp hx)⟩
 rw [zB]
 refine key.imp λs10 us=>?_
 have sl:=zFo us (by omega)
 have key2:W (((((divM c (14:Int)).bind λa13=>modM a13 (5:Int)).bind λa14=>(modM k (9:Int)).bind λb15=>some (decide (a14 = b15))).bind λc16=>if c16 = true then some (decide ((1:Int) < (maps.length:Int))) else some false).bind λb=>if b = true then ((divM c (70:Int)).bind λa20=>modM a20 (maps.length:Int)).bind λstand19=>(if (!decide (stand19 ∈ s10)) = true then (push s10 stand19).bind λfound23=>some found23 else some s10).bind λs21=>some s21 else some s10) (Un n):=by
  rw [zB,zB,zB,zB,zAd]
  refine ⟨⟨by decide,by decide⟩,?_⟩
  rw [vA]
  refine ⟨by decide,?_⟩
  rw [zB,vA]
  refine ⟨by decide,?_⟩
  rw [W_some]
  refine (show W (if decide (c / 14 % 5 = k % 9) = true then some (decide ((1:Int) < (maps.length:Int))) else some false) (λ_=>True) by rw [zB7]; exact ⟨λ_=>W_some.mpr trivial,λ_=>W_some.mpr trivial⟩).imp λb _=>?_
  rw [zB7]
  refine ⟨λ_=>?_,λ_=>W_some.mpr us⟩
  rw [zB,zB,zAd]
  refine ⟨⟨by decide,by decide⟩,?_⟩
  rw [vA]
  refine ⟨by omega,?_⟩
  rw [hl,zB,zB7]
  refine ⟨λz=>?_,λ_=>by rw [W_some,W_some]; exact us⟩
  rw [zB,zBw]
  refine ⟨yT (by omega),?_⟩
  rw [W_some,W_some]
  exact zGb us (Int.emod_nonneg _ (by omega)) (Int.emod_lt_of_pos _ (by omega)) (by simpa using z)
 rw [zB]
 refine key2.imp λs17 u17=>?_
 rw [W_some]
 exact u17
end
theorem zLb (h0:0 <= n) (h1:n <= 60) {t:List Nat} (t7:t.length <= 7) (tl:Lett t) {ms:List (Str × LI)} (hl:ms.length <= 4) (hm:∀ (j:Nat) (p:Str × LI),ms[j]? = some p->p.1 = nmS (nmK e t r (j:Int)) /\ Un n p.2):zFd n ms:=by
 refine ⟨?_,by omega,λp hp=>?_⟩
 ·rw [List.nodup_iff_pairwise_ne,pairwise_iff_getElem]
  intro i j hi hj ij q
  rw [length_map] at hi hj
  rw [List.getElem_map,List.getElem_map,(hm i _ (List.getElem?_eq_getElem hi)).1,(hm j _ (List.getElem?_eq_getElem hj)).1] at q
  have:=nmK_ne (by omega) (by omega) (zOz q)
  omega
 ·obtain ⟨j,hj⟩:=mem_iff_getElem?.mp hp
  obtain ⟨e1,e2⟩:=hm j p hj
  rw [e1]
  have l8:=(zO0 (e:=e) (r:=r) (k:=(j:Int)) t7).2
  exact ⟨zRz t7 tl,by rw [zGv]; omega,zKm e2 h0 h1⟩
theorem w_parts (q:Scr):W (wR q) λT=>∃ n,PtOk n T:=by
 unfold wR
 obtain ⟨c0,e0,_⟩:=uD q (k:=0) (by decide)
 obtain ⟨c1,e1,_⟩:=uD q (k:=1) (by decide)
 obtain ⟨c4,e4,_⟩:=uD q (k:=4) (by decide)
 obtain ⟨c5,e5,_⟩:=uD q (k:=5) (by decide)
 obtain ⟨e,t,r,t7,tl,nm⟩:=w_name c5
 rw [e0,e1,e4,e5,zB,zB,zB,zB,W_some,zAd]
 refine ⟨⟨by decide,by decide⟩,?_⟩
 rw [vA]
 refine ⟨by decide,?_⟩
 rw [W_some,zB7]
 refine ⟨λ_=>?_,λ_=>?_⟩
 ·rw [zB,zB,zB,W_some,vA]
  refine ⟨by decide,?_⟩
  rw [W_some]
  have b0:=Int.emod_nonneg c1 (show (29:Int) ≠ 0 by decide)
  have b1:=Int.emod_lt_of_pos c1 (show (0:Int) < 29 by decide)
  generalize hn:(12:Int) + c1 % 29 = n
  rw [zB,zB,vL]
  refine ⟨⟨by omega,by omega⟩,?_⟩
  rw [zKi (λx8:Int=>[min (x8 + (1:Int)) (n - (1:Int))])]
  refine ⟨yT (by rw [wF]; omega),?_⟩
  rw [zB,zB,zB,zB,zB,W_some,W_some]
  show W (xW c5 0) _
  rw [nm 0 (Int.le_refl _),W_some,W_some,W_some,W_some]
  refine ⟨n,⟨?_,by omega,by omega,λxs hx=>?_,zLb (e:=e) (t:=t) (r:=r) (by omega) (by omega) t7 tl (show 1 <= 4 by decide) λj p hp=>?_,by show 1 < 32; decide,by show 0 < 32; decide,λxs hx=>(by cases hx)⟩⟩
  ·show (((rng n).map _).length:Int) = n
   rw [length_map,wF]; omega
  ·obtain ⟨x,hxr,rfl⟩:=mem_map.mp (show xs ∈ (rng n).map _ from hx)
   obtain ⟨x0,x1⟩:=mem_rng.mp hxr
   refine ⟨by simp,zKm ⟨by simp,λz hz=>?_⟩ (by omega) (by omega)⟩
   rw [mem_singleton.mp hz]
   omega
  ·cases j with
   | zero =>
    cases (Option.some.inj (show some _ = some p from hp))
    exact ⟨rfl,by simp,λz hz=>by rw [mem_singleton.mp hz]; omega⟩
   | succ j=>cases j <;> cases hp
 ·rw [zB]
  refine (w_maps q).imp λv ⟨n,h⟩=>?_
  have hn:=h.few
  have hp:=h.pos
  rw [zB]
  refine (zQz h q).imp λsteps ⟨sl,sm⟩=>?_
  have m0:=Int.emod_nonneg c4 (show (4:Int) ≠ 0 by decide)
  have m1:=Int.emod_lt_of_pos c4 (show (0:Int) < 4 by decide)
  have f0:=Int.emod_nonneg (c5 / 5) (show (4:Int) ≠ 0 by decide)
  have f1:=Int.emod_lt_of_pos (c5 / 5) (show (0:Int) < 4 by decide)
  rw [zB,W_some,zB,zB,zB,zB,W_some,vA]
  refine ⟨by decide,?_⟩
  rw [vL]
  refine ⟨⟨by omega,by omega⟩,?_⟩
  refine uC (λi s=>s.length = i /\ ∀ (j:Nat) (p:Str × LI),s[j]? = some p->p.1 = nmS (nmK e t r (j:Int)) /\ Un n p.2) ⟨rfl,λj p h=>by simp at h⟩ (λi x s hi hI=>?_) λms hI=>?_
  ·obtain ⟨rfl,il⟩:=zDe hi
   obtain ⟨l1,l2⟩:=hI
   rw [zB,zB,zB,zB,zB,W_some,W_some]
   show W (xW c5 (i:Int)) _
   rw [nm (i:Int) (by omega),W_some,zB,zB,zB,W_some,W_some]
   refine (zNf h c4 (k:=(i:Int)) (by omega) (by omega)).imp λst us=>?_
   rw [W_some,zBw]
   refine ⟨yT (by omega),?_⟩
   rw [W_some]
   refine ⟨by rw [length_append,l1]; rfl,λj p hp=>?_⟩
   rcases Nat.lt_or_ge j s.length with z | z
   ·rw [getElem?_append_left z] at hp
    exact l2 j p hp
   ·rw [getElem?_append_right z] at hp
    have ej:j = i:=by
     have:=yA hp
     rw [length_singleton] at this
     omega
    rw [ej,l1,Nat.sub_self] at hp
    cases (Option.some.inj (show some _ = some p from hp))
    rw [ej]
    exact ⟨rfl,us⟩
  ·obtain ⟨l1,l2⟩:=hI
   rw [wF] at l1
   rw [zB,W_some,zB,zB,zB,zB,zB,W_some,zAd]
   refine ⟨⟨by decide,by decide⟩,?_⟩
   rw [vA]
   refine ⟨by decide,?_⟩
   rw [vL]
   refine ⟨⟨by omega,by omega⟩,?_⟩
   refine uC (λi s=>s.length = i /\ ∀ xs ∈ s,Un n xs) ⟨rfl,λx h=>(by cases h)⟩ (λi x s hi hI=>?_) λfs hI=>?_
   ·obtain ⟨rfl,il⟩:=zDe hi
    obtain ⟨k1,k2⟩:=hI
    rw [zB,zB,zB,zB,W_some,W_some]
    refine (zNf h c5 (k:=(9:Int) + i) (by omega) (by omega)).imp λst us=>?_
    rw [zBw]
    refine ⟨yT (by omega),?_⟩
    rw [W_some]
    refine ⟨by rw [length_append,k1]; rfl,λxs hx=>?_⟩
    rcases mem_append.mp hx with z | z
    ·exact k2 xs z
    ·rw [mem_singleton.mp z]; exact us
   ·obtain ⟨k1,k2⟩:=hI
    rw [wF] at k1
    rw [W_some]
    exact ⟨n,sl,hp,by omega,λxs hx=>⟨(sm xs hx).1,zKm (sm xs hx).2 (by omega) (by omega)⟩,zLb (by omega) (by omega) t7 tl (by show ms.length <= 4; omega) l2,by show ms.length < 32; omega,by show fs.length < 32; omega,λxs hx=>zKm (k2 xs hx) (by omega) (by omega)⟩
section
variable {S α β:Type}
theorem zQw {step:S->α->Option (Out S β)} {Q:Out S β->Prop} (I:Nat->S->Prop) (h0:I 0 s) (hs:∀ i x s,xs[i]? = some x->I i s->W (step s x) λo=>(∃ s',o = .nx s' /\ I (i + 1) s') \/ ∃ b,o = .rt b /\ Q (.rt b)) (hd:∀ s,I xs.length s->Q (.nx s)):W (vJ step xs s) Q:=by
 have key:∀ (ys:List α) (i:Nat) (s:S),(∀ j x,ys[j]? = some x->xs[i + j]? = some x)->i + ys.length = xs.length->I i s->W (vJ step ys s) Q:=by
  intro ys
  induction ys with
  | nil=>intro i s _ hl h; exact ⟨.nx s,rfl,hd s ((show i = xs.length from hl) ▸ h)⟩
  | cons y ys ih =>
   intro i s hy hl h
   rw [zF1,zB]
   refine (hs i y s (hy 0 y rfl) h).imp ?_
   rintro o (⟨s',rfl,h'⟩ | ⟨b,rfl,h'⟩)
   ·refine ih (i + 1) s' (λj x hx=>?_) (by rw [length_cons] at hl; omega) h'
    have:=hy (j + 1) x (by simpa using hx)
    rw [show i + 1 + j = i + (j + 1) by omega]
    exact this
   ·exact ⟨.rt b,rfl,h'⟩
 exact key xs 0 s (λj x h=>by rw [Nat.zero_add]; exact h) (Nat.zero_add _) h0
end
section
variable {C:Addr} {m:Mach C} {n:Int} {rows:List LI}
theorem zQi (g:Gr m n) (h:Chn m n rows):∀ {i:Nat} {a:LI},rows[i]? = some a->StOk m n a
 | 0,a,e=>by
  have:=h.1
  rw [List.head?_eq_getElem?,e] at this
  rw [Option.some.inj this]
  exact zLk g
 | i + 1,a,e=>by
  have il:=yA e
  have e0:=List.getElem?_eq_getElem (show i < rows.length by omega)
  rw [h.2 i _ a e0 e]
  exact zTw g (zQi g h e0)
theorem k2_eq (g:Gr m n) {x y:Int} (e:ng c x.toNat = ng c y.toNat) (h:∀ k,k ∈ (nxt m.steps x).map (λt=>ng c t.toNat) ↔ k ∈ (nxt m.steps y).map λt=>ng c t.toNat):k2 m c x = k2 m c y:=by
 unfold k2
 rw [e]
 have:zCu ((zCh (nxt m.steps x)).map λt=>ng c t.toNat) = zCu ((zCh (nxt m.steps y)).map λt=>ng c t.toNat):=zC2 (zCb _) (zCb _) λk=>by
  rw [vV,vV,((xS (nxt m.steps x)).map _).mem_iff,((xS (nxt m.steps y)).map _).mem_iff,h]
 rw [this]
def PrOk (m:Mach C) (rows:List LI) (i:Nat) (x y:Int) (r:Str × Key):Prop :=
 (i = 0 /\ ((∃ p ∈ m.marks,r = (("mark":Str),(Sum.inr p.1:Key)) /\ ¬ (x ∈ p.2 ↔ y ∈ p.2)) \/ ∃ (j:Nat) (s:LI),m.fair[j]? = some s /\ r = (("fair":Str),(Sum.inl (j:Int):Key)) /\ ¬ (x ∈ s ↔ y ∈ s))) \/
 ∃ (j:Nat) (a:LI) (s:Int),i = j + 1 /\ rows[j]? = some a /\ ((r = (("step":Str),(Sum.inl s:Key)) /\ s ∈ nxt m.steps x /\ ∀ t ∈ nxt m.steps y,ng a s.toNat ≠ ng a t.toNat) \/ (r = (("answer":Str),(Sum.inl s:Key)) /\ s ∈ nxt m.steps y /\ ∀ t ∈ nxt m.steps x,ng a t.toNat ≠ ng a s.toNat))
theorem zDu {α:Type} {xs:List α} (h:xs ≠ []):∃ a,a ∈ xs /\ atI xs (0:Int) = some a:=by
 obtain ⟨a,r,rfl⟩:=List.exists_cons_of_ne_nil h
 exact ⟨a,mem_cons_self,by rw [wH (Int.le_refl _)]; rfl⟩
theorem zK9 (nd:(m.marks.map (·.1)).Nodup) (x:Int):(ssort (zAt m x)).Nodup:=by
 rw [(ssort_perm _).nodup_iff]
 exact ((List.filter_sublist).map _).nodup nd
theorem zOy (x:Int):(ssort (zAt m x)).length <= m.marks.length:=by
 rw [(ssort_perm _).length_eq]
 unfold zAt
 rw [length_map]
 exact length_filter_le _ _
theorem zTv (x:Int):(frAt m x).length <= m.fair.length:=by
 unfold frAt
 rw [length_map]
 refine Nat.le_trans (length_filter_le _ _) ?_
 rw [zAo]
 exact Nat.le_refl _
theorem zPs (x:Int):(frAt m x).Pairwise (· < ·):=by
 unfold frAt
 rw [pairwise_map]
 refine Pairwise.filter _ ?_
 rw [pairwise_iff_getElem]
 intro i j hi hj hij
 obtain ⟨e1,_⟩:=uF (List.getElem?_eq_getElem hi)
 obtain ⟨e2,_⟩:=uF (List.getElem?_eq_getElem hj)
 rw [e1,e2]
 exact Int.ofNat_lt.mpr hij
theorem zTo (h:k ∈ frAt m x):∃ (j:Nat) (s:LI),k = (j:Int) /\ m.fair[j]? = some s:=by
 unfold frAt at h
 obtain ⟨q,hq,rfl⟩:=mem_map.mp h
 obtain ⟨j,hj⟩:=mem_iff_getElem?.mp (mem_filter.mp hq).1
 obtain ⟨e1,e2⟩:=uF hj
 exact ⟨j,_,e1,e2⟩
theorem zO7 (h:k ∈ zAt m x):∃ p ∈ m.marks,p.1 = k:=by
 unfold zAt at h
 obtain ⟨q,hq,rfl⟩:=mem_map.mp h
 exact ⟨q,(mem_filter.mp hq).1,rfl⟩
theorem w_sight (nd:(m.marks.map (·.1)).Nodup) (hm:m.marks.length < 32) (hf:m.fair.length < 32) (h:k1 m x ≠ k1 m y):W (wK m x y) λr=>PrOk m rows 0 x y r:=by
 unfold wK
 have lx:=zOy (m:=m) x
 have ly:=zOy (m:=m) y
 rw [zI8 (by omega) x,zI8 (by omega) y,zB,zB,zB,W_some,zB,zB,W_some,W_some,W_some]
 show W (uM (ssort (zAt m x)) (ssort (zAt m y))) _
 unfold uM zNw
 rw [if_pos ⟨by omega,zK9 nd x,zK9 nd y⟩,W_some]
 by_cases hn:sxor (ssort (zAt m x)) (ssort (zAt m y)) = []
 ·rw [hn,if_neg (by decide)]
  have same:∀ z,z ∈ zAt m x ↔ z ∈ zAt m y:=λz=>by
   have no:z ∉ sxor (ssort (zAt m x)) (ssort (zAt m y)):=by rw [hn]; exact λq=>by cases q
   unfold sxor at no
   rw [(ssort_perm _).mem_iff,zC1,(ssort_perm _).mem_iff,(ssort_perm _).mem_iff] at no
   constructor
   ·intro q; exact Classical.byContradiction λw=>no (.inl ⟨q,w⟩)
   ·intro q; exact Classical.byContradiction λw=>no (.inr ⟨w,q⟩)
  have en:ssort (zAt m x) = ssort (zAt m y):=perm_uniq (r:=λa b=>sleb a b = true) (λ_ _=>sleb_anti) ((perm_ext_iff_of_nodup (zK9 nd x) (zK9 nd y)).mpr λz=>by rw [(ssort_perm _).mem_iff,(ssort_perm _).mem_iff,same]) (ssort_pw _) (ssort_pw _)
  have nf:frAt m x ≠ frAt m y:=λq=>h (by unfold k1; rw [en,q])
  have fx:=zTv (m:=m) x
  have fy:=zTv (m:=m) y
  rw [zI9 (by omega) x,zI9 (by omega) y,zB,zB,zB,zB,zB,W_some,zB,zB,W_some,W_some,W_some]
  show W (uL (frAt m x) (frAt m y)) _
  unfold uL zNl
  rw [if_pos (by omega),W_some]
  have ne:uxor (frAt m x) (frAt m y) ≠ []:=λq=>nf (zC2 (zPs x) (zPs y) λz=>by
   have no:z ∉ uxor (frAt m x) (frAt m y):=by rw [q]; exact λq=>by cases q
   unfold uxor at no
   rw [vV,zC1] at no
   constructor
   ·intro q; exact Classical.byContradiction λw=>no (.inl ⟨q,w⟩)
   ·intro q; exact Classical.byContradiction λw=>no (.inr ⟨w,q⟩))
  obtain ⟨a,ha,ea⟩:=zDu ne
  rw [ea,W_some,W_some,W_some]
  unfold uxor at ha
  rw [vV,zC1] at ha
  have hj:∃ (j:Nat) (s:LI),a = (j:Int) /\ m.fair[j]? = some s:=ha.elim (λq=>zTo q.1) λq=>zTo q.2
  obtain ⟨j,s,rfl,hs⟩:=hj
  refine .inl ⟨rfl,.inr ⟨j,s,hs,rfl,λq=>?_⟩⟩
  rw [zTu hs x,zTu hs y] at ha
  rcases ha with w | w
  ·exact w.2 (q.mp w.1)
  ·exact w.1 (q.mpr w.2)
 ·obtain ⟨a,ha,ea⟩:=zDu hn
  rw [if_pos (decide_eq_true (by have:=length_pos_iff.mpr hn; omega)),ea,zB,zB,W_some,W_some,W_some]
  unfold sxor at ha
  rw [(ssort_perm _).mem_iff,zC1,(ssort_perm _).mem_iff,(ssort_perm _).mem_iff] at ha
  have hp:∃ p ∈ m.marks,p.1 = a:=ha.elim (λq=>zO7 q.1) λq=>zO7 q.2
  obtain ⟨p,hp,rfl⟩:=hp
  refine .inl ⟨rfl,.inl ⟨p,hp,rfl,λq=>?_⟩⟩
  rw [zOx nd hp x,zOx nd hp y] at ha
  rcases ha with w | w
  ·exact w.2 (q.mp w.1)
  ·exact w.1 (q.mpr w.2)
def zKg (m:Mach C) (a:LI) (x y:Int):LI:=(zCh (nxt m.steps x)).filter λs=>!decide (ng a s.toNat ∈ zCu ((zCh (nxt m.steps y)).map λt=>ng a t.toNat))
theorem mem_aside:s ∈ zKg m a x y ↔ s ∈ nxt m.steps x /\ ∀ t ∈ nxt m.steps y,ng a s.toNat ≠ ng a t.toNat:=by
 unfold zKg
 rw [mem_filter,(xS _).mem_iff]
 simp only [Bool.not_eq_true',decide_eq_false_iff_not,vV,mem_map,(xS _).mem_iff]
 constructor
 ·rintro ⟨h1,h2⟩
  exact ⟨h1,λt ht e=>h2 ⟨t,ht,e.symm⟩⟩
 ·rintro ⟨h1,h2⟩
  exact ⟨h1,λ⟨t,ht,e⟩=>h2 t ht e.symm⟩
theorem zNk (g:Gr m n) {a:LI} (ha:(a.length:Int) = n) (x0:0 <= x) (x1:x < n) (y0:0 <= y) (y1:y < n):wC m a x y = some (zKg m a x y):=by
 obtain ⟨_,rx,lx⟩:=zMo g x0 x1
 obtain ⟨_,ry,ly⟩:=zMo g y0 y1
 have px:=xS (nxt m.steps x)
 have py:=xS (nxt m.steps y)
 unfold wC
 rw [zNe g x0 x1,zNe g y0 y1]
 apply W_eq
 rw [zB,zB,zB,zB,W_some,W_some,W_some]
 show W (yY a (zCh (nxt m.steps y))) _
 rw [zDw ha (λt ht=>ry t (py.mem_iff.mp ht)) (by rw [py.length_eq]; omega),W_some,zB,W_some]
 unfold xM
 rw [if_pos (yT (by rw [px.length_eq]; omega)),zCl (p:=λs=>!decide (ng a s.toNat ∈ zCu ((zCh (nxt m.steps y)).map λt=>ng a t.toNat))) (g:=λs=>s) (λs hs=>?_) (λ_ _=>rfl),W_some,map_id']
 ·rfl
 ·obtain ⟨s0,s1⟩:=rx s (px.mem_iff.mp hs)
  rw [wH s0,zC0 (by omega)]; rfl
theorem w_step (g:Gr m n) (hr:rows[j]? = some a) (ha:(a.length:Int) = n) (x0:0 <= x) (x1:x < n) (y0:0 <= y) (y1:y < n) (e:ng a x.toNat = ng a y.toNat) (h:k2 m a x ≠ k2 m a y):W (wU m a x y) λr=>PrOk m rows (j + 1) x y r:=by
 unfold wU
 rw [zNk g ha x0 x1 y0 y1,zNk g ha y0 y1 x0 x1,zB,W_some]
 by_cases hn:zKg m a x y = []
 ·rw [hn,if_neg (by decide)]
  have ne:zKg m a y x ≠ []:=λq=>h (k2_eq g e λk=>by
   constructor
   ·intro hk
    obtain ⟨t,ht,rfl⟩:=mem_map.mp hk
    refine Classical.byContradiction λw=>?_
    have:t ∈ zKg m a x y:=mem_aside.mpr ⟨ht,λu hu e=>w (mem_map.mpr ⟨u,hu,e.symm⟩)⟩
    rw [hn] at this
    cases this
   ·intro hk
    obtain ⟨t,ht,rfl⟩:=mem_map.mp hk
    refine Classical.byContradiction λw=>?_
    have:t ∈ zKg m a y x:=mem_aside.mpr ⟨ht,λu hu e=>w (mem_map.mpr ⟨u,hu,e.symm⟩)⟩
    rw [q] at this
    cases this)
  obtain ⟨s,hs,es⟩:=zDu ne
  rw [zB,zB,zB,W_some,es,W_some,W_some,W_some]
  obtain ⟨s1,s2⟩:=mem_aside.mp hs
  exact .inr ⟨j,a,s,rfl,hr,.inr ⟨rfl,s1,λt ht e=>s2 t ht e.symm⟩⟩
 ·obtain ⟨s,hs,es⟩:=zDu hn
  rw [if_pos (decide_eq_true (by have:=length_pos_iff.mpr hn; omega)),es,zB,zB,W_some,W_some,W_some]
  obtain ⟨s1,s2⟩:=mem_aside.mp hs
  exact .inr ⟨j,a,s,rfl,hr,.inl ⟨rfl,s1,s2⟩⟩
def zFn (m:Mach C) (rows:List LI) (x y:Int):Option (Int × (Str × Key))->Prop
 | none=>∀ a ∈ rows,ng a x.toNat = ng a y.toNat
 | some (p,r)=>∃ (i:Nat) (a:LI),p = (i:Int) /\ rows[i]? = some a /\ ng a x.toNat ≠ ng a y.toNat /\ (∀ (j:Nat) (b:LI),j < i->rows[j]? = some b->ng b x.toNat = ng b y.toNat) /\ PrOk m rows i x y r
theorem zNd (g:Gr m n) (h:Chn m n rows) (nd:(m.marks.map (·.1)).Nodup) (hm:m.marks.length < 32) (hf:m.fair.length < 32) (x0:0 <= x) (x1:x < n) (y0:0 <= y) (y1:y < n):W (wV m rows x y) (zFn m rows x y):=by
 unfold wV
 rw [zB,zB,W_some]
 refine zQw (λi _=>∀ (j:Nat) (b:LI),j < i->rows[j]? = some b->ng b x.toNat = ng b y.toNat) (λj b hj=>by omega) (λi q s hi hI=>?_) λs hI=>?_
 ·obtain ⟨q1,q2⟩:=q
  have d:=uF hi
  have e1:q1 = (i:Int):=d.1
  have e2:rows[i]? = some q2:=d.2
  clear d
  subst e1
  have ok:=zQi g h e2
  have ql:=ok.len
  have a1:atI q2 x = some (ng q2 x.toNat):=by rw [wH x0]; exact zC0 (by omega)
  have a2:atI q2 y = some (ng q2 y.toNat):=by rw [wH y0]; exact zC0 (by omega)
  rw [zB,zB]
  show W (atI q2 x) _
  rw [a1,W_some,zB]
  show W (atI q2 y) _
  rw [a2,W_some,W_some]
  by_cases e:ng q2 x.toNat = ng q2 y.toNat
  ·rw [if_neg (by rw [decide_eq_true e]; decide),W_some]
   refine .inl ⟨_,rfl,λj b hj hb=>?_⟩
   rcases Nat.lt_or_ge j i with z | z
   ·exact hI j b z hb
   ·have:j = i:=by omega
    rw [this,e2] at hb
    cases hb
    exact e
  ·rw [if_pos (by rw [decide_eq_false e]; rfl),zB]
   have done:∀ r,PrOk m rows i x y r->zFn m rows x y (some ((i:Int),r)):=λr pr=>⟨i,q2,rfl,e2,e,hI,pr⟩
   cases i with
   | zero =>
    have h0:=h.1
    rw [List.head?_eq_getElem?,e2] at h0
    have ne:k1 m x ≠ k1 m y:=λq=>e (by
     rw [Option.some.inj h0]
     refine (zJu (key_at (i:=x.toNat) (n:=n) (by omega)) (key_at (i:=y.toNat) (by omega))).mpr ?_
     rw [show ((x.toNat:Nat):Int) = x by omega,show ((y.toNat:Nat):Int) = y by omega]
     exact q)
    rw [if_pos (decide_eq_true (show ((0:Nat):Int) = 0 from rfl)),zB,zB]
    refine (w_sight (rows:=rows) nd hm hf ne).imp λr pr=>?_
    rw [W_some,W_some,W_some]
    exact .inr ⟨_,rfl,W_some.mpr (done r pr)⟩
   | succ j =>
    have jl:=yA e2
    have ea:=List.getElem?_eq_getElem (show j < rows.length by omega)
    have eb:=h.2 j _ _ ea e2
    have oka:=zQi g h ea
    have al:=oka.len
    have ex:=hI j _ (by omega) ea
    have ne:k2 m rows[j] x ≠ k2 m rows[j] y:=λq=>e (by
     rw [eb]
     refine (zTx (m:=m) (n:=n) _ (i:=x.toNat) (j:=y.toNat) (by omega) (by omega)).mpr ?_
     rw [show ((x.toNat:Nat):Int) = x by omega,show ((y.toNat:Nat):Int) = y by omega]
     exact q)
    have at_:atI rows (((j + 1:Nat):Int) - 1) = some rows[j]:=by rw [show (((j + 1:Nat):Int) - 1) = (j:Int) by omega,wH (by omega),Int.toNat_natCast]; exact ea
    rw [if_neg (by simp; omega),zB,zB,zB,zB,zB]
    show W (atI rows (((j + 1:Nat):Int) - 1)) _
    rw [at_,W_some,W_some,W_some]
    refine (w_step g ea al x0 x1 y0 y1 ex ne).imp λr pr=>?_
    rw [W_some,W_some,W_some]
    exact .inr ⟨_,rfl,W_some.mpr (done r pr)⟩
 ·rw [W_els,W_some]
  intro a ha
  obtain ⟨j,hj⟩:=mem_iff_getElem?.mp ha
  exact hI j a (by rw [zAo]; exact yA hj) hj
theorem zL3 (g:Gr m n) (h:Chn m n rows) (nd:(m.marks.map (·.1)).Nodup) (hm:m.marks.length < 32) (hf:m.fair.length < 32) (er:xV m = some rows):W (uG m) λP=>(P.length:Int) = n /\ ∀ (i:Nat) (r:List (Option (Int × (Str × Key)))),P[i]? = some r->(r.length:Int) = n /\ ∀ (j:Nat) (o:Option (Int × (Str × Key))),r[j]? = some o->zFn m rows (i:Int) (j:Int) o:=by
 have gp:=g.pos
 have g60:=g.few
 unfold uG
 rw [er,zB,W_some,zB,W_some,zB,zJa g,zB,W_some]
 refine uC (λk P=>P.length = k /\ ∀ (i:Nat) (r:List (Option (Int × (Str × Key)))),P[i]? = some r->(r.length:Int) = n /\ ∀ (j:Nat) (o:Option (Int × (Str × Key))),r[j]? = some o->zFn m rows (i:Int) (j:Int) o) ⟨rfl,λi r h=>by simp at h⟩ (λk x P hk hI=>?_) λP hI=>?_
 ·obtain ⟨rfl,kn⟩:=zDe hk
  obtain ⟨pl,hP⟩:=hI
  have row:W (xM (λ(_:Int)=>some true) (λ(x7:Int)=>wV m rows (k:Int) x7) (rng n)) λr=>(r.length:Int) = n /\ ∀ (j:Nat) (o:Option (Int × (Str × Key))),r[j]? = some o->zFn m rows (k:Int) (j:Int) o:=by
   have each:∀ x ∈ rng n,∃ o,wV m rows (k:Int) x = some o /\ zFn m rows (k:Int) x o:=λx hx=>by
    obtain ⟨x0,x1⟩:=mem_rng.mp hx
    exact zNd g h nd hm hf (by omega) kn x0 x1
   have key:∀ (xs:LI),(∀ x ∈ xs,x ∈ rng n)->∃ r,xR (λ(_:Int)=>some true) (λ(x7:Int)=>wV m rows (k:Int) x7) xs = some r /\ r.length = xs.length /\ ∀ (j:Nat) (o:Option (Int × (Str × Key))) (x:Int),r[j]? = some o->xs[j]? = some x->zFn m rows (k:Int) x o:=by
    intro xs
    induction xs with
    | nil=>intro _; exact ⟨[],rfl,rfl,λj o x h=>by simp at h⟩
    | cons y ys ih =>
     intro hs
     obtain ⟨o,eo,po⟩:=each y (hs y mem_cons_self)
     obtain ⟨r,er,lr,pr⟩:=ih λx hx=>hs x (mem_cons_of_mem _ hx)
     refine ⟨o :: r,?_,by rw [length_cons,length_cons,lr],λj o' x' h1 h2=>?_⟩
     ·show ((some true).bind λb=>if b = true then (wV m rows (k:Int) y).bind λz=>(xR _ _ ys).bind λzs=>some (z :: zs) else xR _ _ ys) = _
      rw [eo,er]
      rfl
     ·cases j with
      | zero=>cases h1; cases h2; exact po
      | succ j=>exact pr j o' x' (by simpa using h1) (by simpa using h2)
   obtain ⟨r,er,lr,pr⟩:=key (rng n) λx hx=>hx
   refine ⟨r,?_,by rw [lr,wF]; omega,λj o ho=>pr j o (j:Int) ho (zJh ?_)⟩
   ·unfold xM
    rw [if_pos (yT (by rw [wF]; omega)),er]
   ·have:=yA ho
    rw [lr,wF] at this
    omega
  rw [zB,zB,zB,W_some]
  refine row.imp λr ⟨rl,hr⟩=>?_
  rw [zBw]
  refine ⟨yT (by omega),?_⟩
  rw [W_some]
  refine ⟨by rw [length_append,pl]; rfl,λi r' h'=>?_⟩
  rcases Nat.lt_or_ge i P.length with z | z
  ·rw [getElem?_append_left z] at h'
   exact hP i r' h'
  ·rw [getElem?_append_right z] at h'
   have ei:i = k:=by
    have:=yA h'
    rw [length_singleton] at this
    omega
   rw [ei,pl,Nat.sub_self] at h'
   cases (Option.some.inj (show some r = some r' from h'))
   rw [ei]
   exact ⟨rl,hr⟩
 ·obtain ⟨pl,hP⟩:=hI
  rw [wF] at pl
  rw [W_some]
  exact ⟨by omega,hP⟩
end
section
variable {c:LI}
def gk (c:LI) (x:Int):Key × Int:=(Sum.inl x,ng c x.toNat)
theorem dg_L (x:Int):∀ L:LI,dget (L.map (gk c)) x = if x ∈ L then some (ng c x.toNat) else none
 | []=>rfl
 | y :: L=>by
  have ih:=dg_L x L
  unfold dget gK at ih ⊢
  rw [map_cons,find?_cons]
  by_cases e:y = x
  ·subst e
   rw [show (decide ((gk c y).1 = (Sum.inl y:Key))) = true from decide_eq_true rfl,if_pos mem_cons_self]
   rfl
  ·rw [show (decide ((gk c y).1 = (Sum.inl x:Key))) = false from decide_eq_false λz=>e (Sum.inl.inj z)]
   show Option.map _ _ = _
   rw [ih]
   by_cases z:x ∈ L
   ·rw [if_pos z,if_pos (mem_cons_of_mem _ z)]
   ·rw [if_neg z,if_neg λw=>(mem_cons.mp w).elim (λq=>e q.symm) z]
theorem W_dputI:W (dput kvs k v) Q ↔ kvs.length < cap /\ Q (pK kvs (Sum.inl k) v):=by
 unfold dput
 split
 ·rename_i h; rw [W_some]; exact ⟨λq=>⟨h,q⟩,λq=>q.2⟩
 ·rename_i h; rw [zBg]; exact ⟨False.elim,λq=>h q.1⟩
theorem pK_new (h:x ∉ L):pK (L.map (gk c)) (Sum.inl x) (ng c x.toNat) = (L ++ [x]).map (gk c):=by
 unfold pK
 rw [if_neg,map_append]
 ·rfl
 ·intro z
  obtain ⟨p,hp,e⟩:=List.any_eq_true.mp z
  obtain ⟨y,hy,rfl⟩:=mem_map.mp hp
  exact h (by have:=Sum.inl.inj (of_decide_eq_true e); rw [<- this]; exact hy)
end
abbrev Ptg:=Option (Int × (Str × Key))
section
variable {C:Addr} {m:Mach C} {n:Int} {c:LI} {M:Nat} {rows:List LI}
theorem zLd:∀ L:LI,zFk (L.map (gk c)) = some L
 | []=>rfl
 | x :: L=>by show ((zFk (L.map (gk c))).bind λns=>some (x :: ns)) = _; rw [zLd L]; rfl
theorem w_lcls (g:Gr m n) (h:ClsOk m n c M):W (yV (vD M n.toNat c) n) λo=>∃ d:Dz Int,o = some d /\ ∀ x,0 <= x->x < n->dget d.kv x = some (ng c x.toNat):=by
 have gp:=g.pos
 have g60:=g.few
 have hM:=h.few
 unfold yV
 rw [zB,W_some,zB,zB,zRi,vL]
 refine ⟨⟨by omega,by omega⟩,?_⟩
 refine uC (λk kvs=>∃ L:LI,kvs = L.map (gk c) /\ L.Nodup /\ ∀ x,x ∈ L ↔ 0 <= x /\ x < n /\ ng c x.toNat < (k:Int)) ⟨[],rfl,.nil,λx=>⟨λz=>(by cases z),λ⟨x0,x1,x2⟩=>by have:=(h.st.can x.toNat (by have:=h.st.len; omega)).1; omega⟩⟩ (λk x4 kvs hi hI=>?_) λkvs hI=>?_
 ·obtain ⟨rfl,kM⟩:=zDe hi
  have kM:k < M:=by omega
  obtain ⟨L,rfl,nd,mL⟩:=hI
  have mr:∀ y,y ∈ zA3 n.toNat c k ↔ 0 <= y /\ y < n /\ ng c y.toNat = (k:Int):=λy=>by
   rw [zO6]
   constructor
   ·rintro ⟨h0,h1,h2⟩; exact ⟨h0,by omega,h2⟩
   ·rintro ⟨h0,h1,h2⟩; exact ⟨h0,by omega,h2⟩
  have pw:=zRj n.toNat c k
  rw [zB,zB,rows_at kM,W_some]
  generalize zA3 n.toNat c k = row at mr pw
  refine uC (λi s=>s = (L ++ row.take i).map (gk c)) (by simp) (λi x s hi hJ=>?_) λs hJ=>?_
  ·subst hJ
   have xr:=mem_of_getElem? hi
   obtain ⟨x0,x1,x2⟩:=(mr x).mp xr
   have nx:x ∉ L ++ row.take i:=λz=>by
    rcases mem_append.mp z with z | z
    ·have:=((mL x).mp z).2.2; omega
    ·exact zBo (pw.imp λq=>Int.ne_of_lt q) hi z
   rw [zB,W_dputI,<- x2,pK_new nx]
   have nl:((L ++ row.take i).map (gk c)).length <= 1000:=by
    rw [length_map,length_append]
    have n1:=uW (n:=n.toNat) nd λz hz=>by have:=(mL z).mp hz; omega
    have n2:=uW (n:=n.toNat) (pw.imp λq=>Int.ne_of_lt q) λz hz=>by have:=(mr z).mp hz; omega
    have n3:(row.take i).length <= row.length:=by rw [length_take]; omega
    omega
   refine ⟨yT nl,?_⟩
   rw [W_some,take_add_one,hi,<- append_assoc]
   rfl
  ·subst hJ
   rw [take_length,W_some]
   refine ⟨_,rfl,?_,λx=>?_⟩
   ·rw [nodup_append]
    refine ⟨nd,pw.imp λq=>Int.ne_of_lt q,λa ha b hb e=>?_⟩
    have h1:=(mL a).mp ha
    have h2:=(mr b).mp hb
    rw [e] at h1
    omega
   ·rw [mem_append,mL,mr]
    constructor
    ·rintro (⟨h0,h1,h2⟩ | ⟨h0,h1,h2⟩) <;> exact ⟨h0,h1,by omega⟩
    ·rintro ⟨h0,h1,h2⟩
     rcases Int.lt_or_le (ng c x.toNat) (k:Int) with z | z
     ·exact .inl ⟨h0,h1,z⟩
     ·exact .inr ⟨h0,h1,by omega⟩
 ·obtain ⟨L,rfl,nd,mL⟩:=hI
  rw [wF] at mL
  have mem:∀ x,x ∈ L ↔ x ∈ rng n:=λx=>by
   rw [mL,mem_rng]
   constructor
   ·rintro ⟨h0,h1,_⟩; exact ⟨h0,h1⟩
   ·rintro ⟨h0,h1⟩; exact ⟨h0,h1,by have:=h.lt x.toNat (by omega); omega⟩
  have ll:=uW (n:=n.toNat) nd λz hz=>by have:=(mL z).mp hz; omega
  have es:zCh L = rng n:=zC2 (zAu (zDh L) ((xS L).nodup_iff.mpr nd)) (zKv n).1 λx=>by rw [(xS L).mem_iff,mem]
  show W (((((zFk (L.map (gk c))).bind λxs=>xM (λ(x9:Int)=>some true) (λ(x9:Int)=>some x9) xs).bind λa10=>zHp a10).bind λa11=>(lrM n).bind λb12=>some (!decide (a11 = b12))).bind _) _
  rw [zLd,zB,zB,zB,zB,W_some,zKi (λx:Int=>x)]
  refine ⟨yT (by omega),?_⟩
  rw [map_id',W_sort]
  refine ⟨by omega,?_⟩
  rw [w_lr (by omega) g60,zB,W_some,W_some,es,if_neg (by simp),W_some]
  refine ⟨_,rfl,λx x0 x1=>?_⟩
  show dget (L.map (gk c)) x = _
  rw [dg_L,if_pos ((mem x).mpr (mem_rng.mpr ⟨x0,x1⟩))]
structure PsOk (m:Mach C) (n:Int) (rows:List LI) (P:List (List Ptg)):Prop where
 len:(P.length:Int) = n
 row:∀ (i:Nat) (r:List Ptg),P[i]? = some r->(r.length:Int) = n
 at_:∀ (i:Nat) (r:List Ptg),P[i]? = some r->∀ (j:Nat) (o:Ptg),r[j]? = some o->zFn m rows (i:Int) (j:Int) o
theorem zK0 (h:PsOk m n rows P) (x0:0 <= x) (x1:x < n) (y0:0 <= y) (y1:y < n):∃ r o,atI P x = some r /\ atI r y = some o /\ zFn m rows x y o:=by
 have l:=h.len
 have hr:=List.getElem?_eq_getElem (show x.toNat < P.length by omega)
 have rl:=h.row _ _ hr
 have ho:=List.getElem?_eq_getElem (show y.toNat < P[x.toNat].length by omega)
 have:=h.at_ _ _ hr _ _ ho
 rw [show ((x.toNat:Nat):Int) = x by omega,show ((y.toNat:Nat):Int) = y by omega] at this
 exact ⟨_,_,by rw [wH x0]; exact hr,by rw [wH y0]; exact ho,this⟩
theorem zQ0 (h:PsOk m n rows P):zAj P n = some true:=by
 unfold zAj
 apply W_eq
 rw [zB,if_neg (by decide),W_some,h.len,if_neg (by simp),zB,zB,W_some]
 refine zHf (λ_ _=>True) trivial (λi r s hi _=>?_) λs _=>by rw [W_els,W_some]
 rw [zB,if_neg (by decide),W_some,h.row i r hi,if_neg (by simp),zB,zB,W_some]
 refine zHf (λ_ _=>True) trivial (λj o s hj _=>?_) λs _=>by rw [W_thn,W_some]; exact ⟨_,rfl,trivial⟩
 have po:=h.at_ i r hi j o hj
 cases o with
 | none =>
  rw [zB,if_neg (by decide),W_some,W_thn,W_some]
  exact ⟨_,rfl,trivial⟩
 | some q =>
  obtain ⟨p,w,k⟩:=q
  obtain ⟨i',_,rfl,_⟩:=po
  refine ⟨Out.nx (),?_,(),rfl,trivial⟩
  rw [Option.isSome_some,if_pos rfl,if_neg (by decide)]
  show ((((if decide ((i':Int) < (0:Int)) = true then (some false).bind λb=>some (.rt b) else some (.nx ())):Option (Out Unit Bool))).bind λo=>o.thn λs7=>some (.nx ())) = _
  rw [if_neg (by simp)]
  rfl
theorem zNi {i j:Nat} {a:LI} (hr:rows[j]? = some a) (hij:j < i) {x y:Int} {o:Ptg} (po:zFn m rows x y o) (ne:ng a x.toNat ≠ ng a y.toNat):yZ o (i:Int) = some true:=by
 unfold yZ
 cases o with
 | none=>exact absurd (po a (mem_of_getElem? hr)) ne
 | some q =>
  obtain ⟨p,w⟩:=q
  obtain ⟨i',b,rfl,hb,_,bef,_⟩:=po
  have:i' <= j:=Nat.le_of_not_lt λz=>ne (bef j a z hr)
  rw [Option.isSome_some,if_pos rfl]
  show some (decide ((i':Int) < (i:Int))) = some true
  rw [decide_eq_true (by omega)]
theorem zLy {xs:LI} {f:Int->Option Bool} (hl:xs.length <= 1000) (h:∀ x ∈ xs,f x = some true):((xM (λ(_:Int)=>some true) f xs).bind λb=>some (!decide (false ∈ b))) = some true:=by
 have:xM (λ(_:Int)=>some true) f xs = some (xs.map λ_=>true):=by
  unfold xM
  rw [if_pos (yT hl),zCm (λ_ _=>rfl) h]
 rw [this]
 show some (!decide (false ∈ xs.map λ_=>true)) = some true
 rw [decide_eq_false]
 ·rfl
 ·intro z
  obtain ⟨_,_,e⟩:=mem_map.mp z
  cases e
theorem w_holds (g:Gr m n) (nd:(m.marks.map (·.1)).Nodup) {T:TriT} (e1:m.steps = T.a) (e2:m.marks = T.b) (e3:m.fair = T.c) {P:List (List Ptg)} (h:PsOk m n rows P) {x y:Int} (x0:0 <= x) (x1:x < n) (y0:0 <= y) (y1:y < n) {r:List Ptg} {i:Nat} {w:Str × Key} (hr:atI P x = some r) (ho:atI r y = some (some ((i:Int),w))) (pr:PrOk m rows i x y w):zA6 T P x y = some true:=by
 obtain ⟨sx,rx,lx⟩:=zMo g x0 x1
 obtain ⟨sy,ry,ly⟩:=zMo g y0 y1
 have ax:atI T.a x = some (nxt m.steps x):=by rw [wH x0,<- e1]; exact sx
 have ay:atI T.a y = some (nxt m.steps y):=by rw [wH y0,<- e1]; exact sy
 unfold zA6
 rw [hr]
 show (((atI r y).bind λa4=>a4).bind _) = _
 rw [ho]
 rcases pr with ⟨rfl,⟨p,hp,rfl,ne⟩ | ⟨j,s,hs,rfl,ne⟩⟩ | ⟨j,a,s,rfl,ha,⟨rfl,hs,dif⟩ | ⟨rfl,hs,dif⟩⟩
 ·apply W_eq
  rw [zB,zB,W_some,W_some,if_pos (show decide (("mark":Str) = "mark") = true from decide_eq_true rfl),zB,zB,W_some]
  rw [e2] at hp nd
  refine zQw (λi _=>∀ (j:Nat) (q:Str × LI),j < i->T.b[j]? = some q->q ≠ p) (λj q z=>by omega) (λi q s hi hI=>?_) λs hI=>?_
  ·show W (((some p.1).bind λb8=>some (decide (q.1 = b8))).bind _) _
   rw [zB,zB,W_some,W_some]
   by_cases e:q.1 = p.1
   ·have eq:q = p:=nd_of nd (mem_of_getElem? hi) hp e
    rw [eq,if_pos (decide_eq_true rfl)]
    refine ⟨_,rfl,.inr ⟨_,rfl,?_⟩⟩
    show W (some (!decide (decide (x ∈ p.2) = decide (y ∈ p.2)))) _
    rw [W_some,decide_eq_false λz=>ne (decide_eq_decide.mp z)]
    rfl
   ·rw [if_neg λz=>e (of_decide_eq_true z),W_some]
    refine .inl ⟨_,rfl,λj q' hj hq'=>?_⟩
    rcases Nat.lt_or_ge j i with z | z
    ·exact hI j q' z hq'
    ·have:j = i:=by omega
     rw [this,hi] at hq'
     cases hq'
     exact λz=>e (by rw [z])
  ·obtain ⟨j,hj⟩:=mem_iff_getElem?.mp hp
   exact absurd rfl (hI j p (yA hj) hj)
 ·have jl:=yA hs
  rw [e3] at hs jl
  have aj:atI T.c (j:Int) = some s:=by rw [wH (by omega),Int.toNat_natCast]; exact hs
  apply W_eq
  rw [zB,zB,W_some,W_some]
  dsimp only [keyI,keyS]
  rw [if_neg (show ¬ decide (("fair":Str) = "mark") = true by decide),zB,zB,zB,zB,zB,W_some,W_some,show uP (j:Int) = some true from rfl,W_some,W_some,if_neg (by decide),zB,W_some,W_some,if_neg (by simp)]
  rw [if_pos (decide_eq_true rfl),zB,zB,W_some,W_some,if_pos (decide_eq_true (by omega)),zB,zB,zB,W_some,aj,W_some,W_some,zB,zB,zB,W_some,aj,W_some,W_some,W_some,decide_eq_false λz=>ne (decide_eq_decide.mp z)]
  rfl
 ·obtain ⟨s0,s1⟩:=rx s hs
  apply W_eq
  rw [zB,zB,W_some,W_some]
  dsimp only [keyI,keyS]
  rw [if_neg (show ¬ decide (("step":Str) = "mark") = true by decide),zB,zB,zB,zB,zB,W_some,W_some,show uP s = some true from rfl,W_some,W_some,if_neg (by decide),zB,W_some,W_some,if_neg (by simp; omega)]
  rw [if_neg (show ¬ decide (("step":Str) = "fair") = true by decide),zB,if_pos (decide_eq_true rfl),zB,W_some,zB,ax,W_some,W_some,if_pos (decide_eq_true hs),zB,zB,ay,W_some,<- zB]
  refine ⟨_,zLy (by omega) λt ht=>?_,rfl⟩
  obtain ⟨t0,t1⟩:=ry t ht
  obtain ⟨r',o',h1,h2,po⟩:=zK0 h s0 s1 t0 t1
  show ((((atI P s).bind λa31=>atI a31 t).bind λa33=>some ((a33,(((j + 1:Nat):Int),())))).bind λz32=>yZ z32.1 z32.2.1) = _
  rw [h1]
  show (((atI r' t).bind λa33=>some ((a33,(((j + 1:Nat):Int),())))).bind λz32=>yZ z32.1 z32.2.1) = _
  rw [h2]
  exact zNi ha (Nat.lt_succ_self j) po (dif t ht)
 ·obtain ⟨s0,s1⟩:=ry s hs
  apply W_eq
  rw [zB,zB,W_some,W_some]
  dsimp only [keyI,keyS]
  rw [if_neg (show ¬ decide (("answer":Str) = "mark") = true by decide),zB,zB,zB,zB,zB,W_some,W_some,show uP s = some true from rfl,W_some,W_some,if_neg (by decide),zB,W_some,W_some,if_neg (by simp; omega)]
  rw [if_neg (show ¬ decide (("answer":Str) = "fair") = true by decide),zB,if_neg (show ¬ decide (("answer":Str) = "step") = true by decide),W_some,if_neg (by decide),zB,if_pos (decide_eq_true rfl),zB,W_some,zB,ay,W_some,W_some,if_pos (decide_eq_true hs),zB,zB,ax,W_some,<- zB]
  refine ⟨_,zLy (by omega) λt ht=>?_,rfl⟩
  obtain ⟨t0,t1⟩:=rx t ht
  obtain ⟨r',o',h1,h2,po⟩:=zK0 h t0 t1 s0 s1
  show ((((atI P t).bind λa42=>atI a42 s).bind λa45=>some ((a45,(((j + 1:Nat):Int),())))).bind λz44=>yZ z44.1 z44.2.1) = _
  rw [h1]
  show (((atI r' s).bind λa45=>some ((a45,(((j + 1:Nat):Int),())))).bind λz44=>yZ z44.1 z44.2.1) = _
  rw [h2]
  exact zNi ha (Nat.lt_succ_self j) po (dif t ht)
theorem zLu (h:Chn m n rows) (x0:0 <= x) (x1:x < n) (y0:0 <= y) (y1:y < n):∀ (d i:Nat) {a b:LI},rows[i]? = some a->rows[i + d]? = some b->ng b x.toNat = ng b y.toNat->ng a x.toNat = ng a y.toNat
 | 0,i,a,b,ha,hb,e=>by
  rw [Nat.add_zero,ha] at hb
  cases hb
  exact e
 | d + 1,i,a,b,ha,hb,e=>by
  have il:=yA hb
  have hc:=List.getElem?_eq_getElem (show i + d < rows.length by omega)
  have eb:=h.2 (i + d) _ b hc (by rw [show i + d + 1 = i + (d + 1) by omega]; exact hb)
  rw [eb] at e
  exact zLu h x0 x1 y0 y1 d i ha hc (zJ5 _ (by omega) (by omega) e)
theorem w_right (g:Gr m n) (hc:Chn m n (t ++ [c])) (nd:(m.marks.map (·.1)).Nodup) {T:TriT} (e1:m.steps = T.a) (e2:m.marks = T.b) (e3:m.fair = T.c) (h:PsOk m n (t ++ [c]) P) {d:Dz Int} (hd:∀ x,0 <= x->x < n->dget d.kv x = some (ng c x.toNat)):vR T d P n = some true:=by
 have gp:=g.pos
 have g60:=g.few
 unfold vR
 apply W_eq
 rw [zQ0 h,zB,zB,W_some,W_some,if_neg (by decide),zB,zB,vL]
 refine ⟨⟨by omega,by omega⟩,?_⟩
 refine zHf (λ_ _=>True) trivial (λi x s hi _=>?_) λs _=>by rw [W_els,W_some]
 obtain ⟨x0,x1⟩:=mem_rng.mp (mem_of_getElem? hi)
 rw [zB,zB,vL]
 refine ⟨⟨by omega,by omega⟩,?_⟩
 refine zHf (λ_ _=>True) trivial (λj y s hj _=>?_) λs _=>by rw [W_thn,W_some]; exact ⟨_,rfl,trivial⟩
 obtain ⟨y0,y1⟩:=mem_rng.mp (mem_of_getElem? hj)
 obtain ⟨r,o,hr,ho,po⟩:=zK0 h x0 x1 y0 y1
 have last:(t ++ [c])[t.length]? = some c:=by rw [getElem?_append_right (Nat.le_refl _),Nat.sub_self]; rfl
 have iff:o.isNone = decide (ng c x.toNat = ng c y.toNat):=by
  cases o with
  | none=>rw [decide_eq_true (po c (mem_of_getElem? last))]; rfl
  | some q =>
   obtain ⟨p,w⟩:=q
   obtain ⟨k,a,_,ha,ne,_⟩:=po
   have kl:=yA ha
   rw [length_append,length_singleton] at kl
   rw [decide_eq_false λz=>ne (zLu hc x0 x1 y0 y1 (t.length - k) k ha (by rw [show k + (t.length - k) = t.length by omega]; exact last) z)]; rfl
 rw [hr,hd x x0 x1,hd y y0 y1,zB,zB,zB,zB,W_some,ho,W_some,W_some,zB,zB,W_some,zB,W_some,W_some,W_some,iff,if_neg (by simp),zB,zB,zB,zB,W_some,ho,W_some,W_some]
 cases o with
 | none =>
  rw [if_neg (by decide),W_some,if_neg (by decide),W_some]
  exact ⟨_,rfl,trivial⟩
 | some q =>
  obtain ⟨p,w⟩:=q
  obtain ⟨k,a,rfl,ha,ne,bef,pr⟩:=po
  rw [Option.isSome_some,if_pos rfl,w_holds g nd e1 e2 e3 h x0 x1 y0 y1 hr ho pr,zB,W_some,W_some,if_neg (by decide),W_some]
  exact ⟨_,rfl,trivial⟩
theorem law_of (hT:wR scr = some T) (h:PtOk n T):W (zOo C scr) (· = true):=by
 unfold zOo
 rw [hT,zB,W_some,zB,W_some,zB,h.len]
 refine (zL4 (C:=C) h).imp λm ⟨g,e1,e2,e3⟩=>?_
 have mf:=h.mfew
 have ff:=h.ffew
 have hM:zFd n m.marks:=by rw [e2]; exact h.marks
 obtain ⟨told,en,t,c,rfl,st,fx,ch,tl⟩:=zHj g (by rw [e2]; omega) (by rw [e3]; omega)
 have gp:=g.pos
 have g60:=g.few
 have cl:=st.len
 obtain ⟨M,h1,h2,h3,h4,h5⟩:=zQy (N:=n.toNat) st.can (by omega) (by omega) (by omega)
 have ok:ClsOk m n c M:=⟨st,fx,h1,h2,h3,h4⟩
 have ecl:zA7 m = some (vD M n.toNat c):=by
  unfold zA7 wW
  rw [en]
  show (((atI (t ++ [c]) (-(1:Int))).bind λa2=>some ((a2,()))).bind λz1=>yO z1.1) = _
  rw [show atI (t ++ [c]) (-(1:Int)) = some c from zLx t c]
  exact h5
 obtain ⟨_,ed,d,rfl,hd⟩:=w_lcls g ok
 obtain ⟨P,eP,pl,hP⟩:=zL3 g ch hM.1 (by rw [e2]; exact mf) (by rw [e3]; exact ff) en
 have ps:PsOk m n (t ++ [c]) P:=⟨pl,λi r hr=>(hP i r hr).1,λi r hr=>(hP i r hr).2⟩
 have right:=w_right g ch hM.1 e1 e2 e3 ps hd
 obtain ⟨r0,_,hr0,_,_⟩:=zK0 ps (Int.le_refl 0) (by omega) (Int.le_refl 0) (by omega)
 have l0:(r0.length:Int) = n:=by
  rw [wH (Int.le_refl 0)] at hr0
  exact ps.row _ _ hr0
 rw [ecl,zB,zB,zB,W_some,W_some]
 show W (yV (vD M n.toNat c) n) _
 rw [ed,W_some,zB,eP,W_some,zB,e1,e2,e3,if_neg (by simp),if_neg (by simp),W_some,if_neg (by simp),zB,Option.isNone_some,if_neg (by decide),zB,zB,zB,zB,W_some,W_some,W_some]
 show W (vR T d P n) _
 rw [right,W_some,W_some,if_neg (by decide),zB,zB,hr0,W_some,if_pos (yT (by omega)),W_some,zB,W_some,zB,zB,zB,W_some,zB,zB,W_some,W_some,W_some,W_some]
 show W (vR T d P n) _
 rw [right,W_some]
end
theorem zR7 (C:Addr) (scr:Scr):W (zOo C scr) (· = true):=by
 obtain ⟨T,e,n,h⟩:=w_parts scr
 exact law_of e h
def spLaw (K:PySem.W.Frag):Sp:=λvs H Q _=>∃ (a:Addr) (ns:LI),vs = [.ref a] /\ SqL K H a (ns.map V.int) /\ ns.length <= 63 /\ ∀ H',Q (.bl true) H'
section
variable {P:Program} {w:World} {K:PySem.W.Frag} {mg:Str->Option Value} {base h:Heap} {j k:Nat} {f C:Addr} {fd:FuncData} {ps:List Str} {sp:Sp} {x y:Str} {st:Stmt}
abbrev FP (K:PySem.W.Frag) (x:Str) (st:Stmt):Prop:=∃ f fd,nsIn K mainGlobals x = some (some (.ref f)) /\ Fun K x x st f fd
abbrev MP (K:PySem.W.Frag) (C:Addr) (x y:Str) (st:Stmt):Prop:=∃ f fd,Meth K C x f /\ Fun K x y st f fd
def nbAll (K:PySem.W.Frag):List Str->Prop
 | []=>True
 | x :: r=>nsIn K mainGlobals x = some none /\ nbAll K r
theorem fP_mk (a:nsIn K mainGlobals x = some (some (.ref f))) (F:Fun K x x st f fd):FP K x st:=⟨f,fd,a,F⟩
theorem mP_mk (a:Meth K C x f) (F:Fun K x y st f fd):MP K C x y st:=⟨f,fd,a,F⟩
theorem funD_mk {dV oc kV doc pm cdv ct:Value} {od an:Option Addr} {osl:Array (Option Value)} (l:K.lookup f = some ⟨oc,od,.func (fnOf x y (vY st) (wI st) (zK st) dV kV doc pm an cdv ct),osl⟩) (c:codeIn K cdv y = true) (k:keepIn K (.ref f) = true):FunD K x y st dV f (fnOf x y (vY st) (wI st) (zK st) dV kV doc pm an cdv ct):=⟨⟨oc,od,kV,doc,pm,an,cdv,ct,osl,rfl,l,c⟩,k⟩
theorem cal_of (X:K.In h) (G:h.Ns mainGlobals mg) (p:FP K x st) (t:∀ f fd,Fun K x x st f fd->FnOk P w K mg base CX0 k f fd ps sp /\ Binds K fd ps []):Cal P w K mg base k x ps sp:=by
 obtain ⟨f,fd,a,F⟩:=p
 exact ⟨f,fd,(t f fd F).1,(t f fd F).2,F.kp,mg_of X G a⟩
theorem calM_of (c:Cls K C) (p:MP K C x y st) (t:∀ f fd,Fun K x y st f fd->FnOk P w K mg base CX0 k f fd ps sp /\ Binds K fd ps []):CalM P w K mg base k C x ps sp:=by
 obtain ⟨f,fd,a,F⟩:=p
 exact ⟨⟨f,fd,(t f fd F).1,(t f fd F).2,a⟩,c⟩
theorem Cal.m (c:Cal P w K mg base j x ps sp) (h:j <= k:=by decide):Cal P w K mg base k x ps sp:=c.mono h
theorem CalM.m (c:CalM P w K mg base j C x ps sp) (h:j <= k:=by decide):CalM P w K mg base k C x ps sp:=c.mono h
end
set_option maxHeartbeats 8000000 in
theorem all_mk {l:PySem.W.OpenLaw} {K:PySem.W.Frag} (X:K.In h) (G:h.Ns mainGlobals mg) (hfa:mg "law" = some (.ref fa))
  (h1:FP K "sources_of" zDt)
  (h2:FP K "is_stand" s_is_stand)
  (h3:FP K "check_stands" s_check_stands)
  (h4:FP K "check_steps" s_check_steps)
  (h5:FP K "is_name" s_is_name)
  (h6:FP K "check_marks" s_check_marks)
  (h7:FP K "check_fair" s_check_fair)
  (h8:FP K "copied" s_copied)
  (h9:FP K "everywhere" s_everywhere)
  (h10:FP K "fair_numbers" s_fair_numbers)
  (h11:FP K "numbered" s_numbered)
  (h12:FP K "first_numbers" s_first_numbers)
  (h13:FP K "numbers_of" s_numbers_of)
  (h14:FP K "finer_numbers" s_finer_numbers)
  (h15:FP K "numberings" s_numberings)
  (h16:FP K "class_numbers" s_class_numbers)
  (h17:FP K "stands_of_numbers" s_stands_of_numbers)
  (h18:FP K "classes" s_classes)
  (h19:FP K "unshared" s_unshared)
  (h20:FP K "sight_reason" s_sight_reason)
  (h21:FP K "steps_aside" s_steps_aside)
  (h22:FP K "step_reason" s_step_reason)
  (h23:FP K "parting" s_parting)
  (h24:FP K "partings" s_partings)
  (h25:FP K "_law_cell_at" s_l_cell_at)
  (h26:FP K "_law_mixed" s_l_mixed)
  (h27:FP K "_law_name_by" s_l_name_by)
  (h28:FP K "_law_some_of" s_l_some_of)
  (h29:FP K "_law_steps_by" s_l_steps_by)
  (h30:FP K "_law_sets_by" s_l_sets_by)
  (h31:FP K "_law_maps_by" s_l_maps_by)
  (h32:FP K "_law_parts_by" s_l_parts_by)
  (h33:FP K "_law_machine" s_l_machine)
  (h34:FP K "_law_whole" s_l_whole)
  (h35:FP K "_law_class_numbers" s_l_class_numbers)
  (h36:FP K "_law_formed" s_l_formed)
  (h37:FP K "_law_earlier" s_l_earlier)
  (h38:FP K "_law_holds" s_l_holds)
  (h39:FP K "_law_right" s_l_right)
  (h40:FP K "law" s_law)
  (aC:nsIn K mainGlobals "Machine" = some (some (.ref C)))
  (mk:Mk K C fI) (FI:FunD K "__init__" "Machine.__init__" sInit (.ref TD) fI fdI) (lT:K.lookup TD = some ⟨ocT,odT,.seq #[.none,.none] nT,slT⟩)
  (m0:MP K C "many" "Machine.many" s_Machine_many)
  (m1:MP K C "next_of" "Machine.next_of" s_Machine_next_of)
  (m2:MP K C "names_at" "Machine.names_at" s_Machine_names_at)
  (cC:Cls K C) (nC:findIn K (.ref C) "steps" = some none /\ findIn K (.ref C) "marks" = some none /\ findIn K (.ref C) "fair" = some none /\ findIn K (.ref C) "sources" = some none)
  (vLETTERS:nsIn K mainGlobals "LETTERS" = some (some (.str "abcdefghijklmnopqrstuvwxyz" t_LETTERS))) (vLONGEST_NAME:nsIn K mainGlobals "LONGEST_NAME" = some (some (.int 8 t_LONGEST_NAME))) (vMOST_STANDS:nsIn K mainGlobals "MOST_STANDS" = some (some (.int 60 t_MOST_STANDS))) (vSAYING_WORDS:nsIn K mainGlobals "SAYING_WORDS" = some (some (.ref a_SAYING_WORDS))) (uSAYING_WORDS:K.lookup a_SAYING_WORDS = some ⟨.type "tuple",none,.seq #[.str "all" k_SAYING_WORDS_0,.str "not" k_SAYING_WORDS_1,.str "both" k_SAYING_WORDS_2,.str "either" k_SAYING_WORDS_3,.str "somenext" k_SAYING_WORDS_4,.str "eachnext" k_SAYING_WORDS_5,.str "sometill" k_SAYING_WORDS_6,.str "eachtill" k_SAYING_WORDS_7,.str "someever" k_SAYING_WORDS_8,.str "eachever" k_SAYING_WORDS_9] n_SAYING_WORDS,sl_SAYING_WORDS⟩) (z:nbAll K ["len","range","isinstance","int","bool","list","enumerate","max","min","all","sorted","str","set","tuple"]) :
  ∃ fd:FuncData,(∀ (s:Shared) (v:Value),BindsTo s fd ⟨[v],[]⟩ [("_law_script",v)]) /\ ∀ base:Heap,K.In base->base.Ns mainGlobals mg->FnOk l.prog w K mg base CX0 7 fa fd ["_law_script"] (spLaw K):=by
 obtain ⟨f,fd,a,⟨oc,od,kV,dc,pm,an,cd,ct,sl,rfl,lk,ck⟩,kp⟩:=h40
 have e:=hfa.symm.trans (mg_of X G a)
 cases e
 obtain ⟨zlen,zrange,zisinstance,zint,zbool,zlist,zenumerate,zmax,zmin,zall,zsorted,zstr,zset,ztuple,_⟩:=z
 obtain ⟨nS,nM,nF,nB⟩:=nC
 have N:∀ {x:Str},nsIn K mainGlobals x = some none->mg x = none:=λe=>PySem.W.mg_none_of X G e
 have B:Bl K mg:=⟨N zlen,N zrange,N zisinstance,N zint,N zbool,N zlist,N zenumerate,ki_ii,ki_ib,ki_ll⟩
 have ymax:=N zmax
 have ymin:=N zmin
 have yall:=N zall
 have ysorted:=N zsorted
 have ystr:=N zstr
 have yset:=N zset
 have ytuple:=N ztuple
 have vLETTERS:=mg_of X G vLETTERS
 have vLONGEST_NAME:=mg_of X G vLONGEST_NAME
 have vMOST_STANDS:=mg_of X G vMOST_STANDS
 have vSAYING_WORDS:=mg_of X G vSAYING_WORDS
 have T:Cl K mg C:=⟨cC,nS,nM,nF,nB,mg_of X G aC⟩
 have bI0:Binds K fdI ["self","steps","marks","fair"] []:=λs us KX hl=>by
  obtain ⟨_,_,_,_,_,_,_,_,_,rfl,_⟩:=FI.ex
  have h2:us.length = 4:=by
   rw [length_append] at hl
   have:([]:List Value).length = 0:=rfl
   have h4:(["self","steps","marks","fair"]:List Str).length = 4:=rfl
   omega
  match us,h2 with
  | [u0,u1,u2,u3],_=>exact BindsTo.of_defaults rfl (KX _ _ lT) rfl rfl rfl
 refine ⟨fnOf "law" "law" (vY s_law) (wI s_law) (zK s_law) .none kV dc pm an cd ct,λs v=>.of_eq rfl,λbase _ _=>?_⟩
 have cal:∀ {k:Nat} {x:Str} {st:Stmt} {ps:List Str} {sp:Sp},FP K x st->(∀ f fd,Fun K x x st f fd->FnOk l.prog w K mg base CX0 k f fd ps sp /\ Binds K fd ps [])->Cal l.prog w K mg base k x ps sp:=λh t=>cal_of X G h t
 have calM:∀ {k:Nat} {x y:Str} {st:Stmt} {ps:List Str} {sp:Sp},MP K C x y st->(∀ f fd,Fun K x y st f fd->FnOk l.prog w K mg base CX0 k f fd ps sp /\ Binds K fd ps [])->CalM l.prog w K mg base k C x ps sp:=λh t=>calM_of cC h t
 have h_SAYING_WORDS:∀ H:Hp,SqT K H a_SAYING_WORDS ((["all","not","both","either","somenext","eachnext","sometill","eachtill","someever","eachever"]:List Str).map V.str):=λH=>.inr ⟨_,_,_,uSAYING_WORDS,rfl,rfl,(by show 10 <= sizeLine; decide),by repeat (first | exact Paired.nil | refine Paired.cons ⟨_,rfl⟩ ?_)⟩
 have C_is_stand:=cal h2 λ_ _ F=>⟨zJs (k:=0) F B,bi2 F⟩
 have C_check_stands:=cal h3 λ_ _ F=>⟨zEf (k:=1) F B C_is_stand.m,bi3 F⟩
 have C_check_steps:=cal h4 λ_ _ F=>⟨zFi (k:=2) F B vMOST_STANDS C_check_stands.m,bi1 F⟩
 have C_is_name:=cal h5 λ_ _ F=>⟨zMm (k:=0) F B vLETTERS vLONGEST_NAME vSAYING_WORDS h_SAYING_WORDS yall ystr,bi1 F⟩
 have C_check_marks:=cal h6 λ_ _ F=>⟨zFj (k:=2) F B C_check_stands.m C_is_name.m,bi2 F⟩
 have C_check_fair:=cal h7 λ_ _ F=>⟨zGu (k:=2) F B C_check_stands.m,bi2 F⟩
 have C_copied:=cal h8 λ_ _ F=>⟨zOu (k:=0) F B,bi1 F⟩
 have C_so:=cal h1 λ_ _ F=>⟨ok_soG F B,bi1 F⟩
 have OI:FnOk l.prog w K mg base CX0 4 fI fdI ["self","steps","marks","fair"] (zNz K C (mkK C)):=ok_inG (k:=3) FI T B C_check_steps.m C_check_marks.m C_check_fair.m C_copied.m C_so.m
 have C_Machine_many:=calM m0 λ_ _ F=>⟨zEg (k:=0) (C:=C) F B T,bi1 F⟩
 have C_Machine_next_of:=calM m1 λ_ _ F=>⟨zCd (k:=0) (C:=C) F B T ysorted,bi2 F⟩
 have C_Machine_names_at:=calM m2 λ_ _ F=>⟨zB1 (k:=0) (C:=C) F B T ysorted,bi2 F⟩
 have C_everywhere:=cal h9 λ_ _ F=>⟨zGt (k:=1) (C:=C) F B C_Machine_many.m,bi1 F⟩
 have C_fair_numbers:=cal h10 λ_ _ F=>⟨zEe (k:=0) (C:=C) F B T,bi2 F⟩
 have C_numbered1:Cal l.prog w K mg base 1 "numbered" ["keys"] (zB9 K):=by
  obtain ⟨f,fd,a,F⟩:=h11
  exact ⟨f,fd,zH6 F B,bi1 F,F.kp,mg_of X G a⟩
 have C_numbered2:Cal l.prog w K mg base 1 "numbered" ["keys"] (zB8 K):=by
  obtain ⟨f,fd,a,F⟩:=h11
  exact ⟨f,fd,zH5 F B,bi1 F,F.kp,mg_of X G a⟩
 have C_first_numbers:=cal h12 λ_ _ F=>⟨zDn (k:=2) (C:=C) F B ytuple C_Machine_names_at.m C_everywhere.m C_fair_numbers.m C_numbered1.m,bi1 F⟩
 have C_numbers_of:=cal h13 λ_ _ F=>⟨zGp (k:=0) F B ysorted yset,bi2 F⟩
 have C_finer_numbers:=cal h14 λ_ _ F=>⟨zDo (k:=2) (C:=C) F B ytuple C_Machine_next_of.m C_everywhere.m C_numbered2.m C_numbers_of.m,bi2 F⟩
 have C_numberings:=cal h15 λ_ _ F=>⟨zGq (k:=3) (C:=C) F B C_finer_numbers.m C_first_numbers.m,bi1 F⟩
 have C_class_numbers:=cal h16 λ_ _ F=>⟨zDp (k:=4) (C:=C) F B C_numberings.m,bi1 F⟩
 have C_stands_of_numbers:=cal h17 λ_ _ F=>⟨zBt (k:=0) F B ymax,bi1 F⟩
 have C_classes:=cal h18 λ_ _ F=>⟨zMn (k:=5) (C:=C) F B C_class_numbers.m C_stands_of_numbers.m,bi1 F⟩
 have C_unshared1:=cal h19 λ_ _ F=>⟨zH4 (k:=0) F B ysorted yset,bi2 F⟩
 have C_unshared2:=cal h19 λ_ _ F=>⟨zH3 (k:=0) F B ysorted yset,bi2 F⟩
 have C_sight_reason:=cal h20 λ_ _ F=>⟨zEc (k:=1) (C:=C) F B C_Machine_names_at.m C_fair_numbers.m C_unshared1.m C_unshared2.m,bi3 F⟩
 have C_steps_aside:=cal h21 λ_ _ F=>⟨zFg (k:=1) (C:=C) F B C_Machine_next_of.m C_numbers_of.m,bi4 F⟩
 have C_step_reason:=cal h22 λ_ _ F=>⟨zFh (k:=2) (C:=C) F B C_steps_aside.m,bi4 F⟩
 have C_parting:=cal h23 λ_ _ F=>⟨zMh (k:=3) (C:=C) F B C_sight_reason.m C_step_reason.m,bi4 F⟩
 have C_partings:=cal h24 λ_ _ F=>⟨zJq (k:=4) (C:=C) F B C_everywhere.m C_numberings.m C_parting.m,bi1 F⟩
 have C_l_cell_at:=cal h25 λ_ _ F=>⟨zId (k:=0) F B,bi2 F⟩
 have C_l_mixed:=cal h26 λ_ _ F=>⟨zMk (k:=0) F B,bi2 F⟩
 have C_l_name_by:=cal h27 λ_ _ F=>⟨zH9 (k:=0) F B,bi2 F⟩
 have C_l_some_of:=cal h28 λ_ _ F=>⟨zH7 (k:=0) F B,bi2 F⟩
 have C_l_steps_by:=cal h29 λ_ _ F=>⟨zGr (k:=1) F B C_l_cell_at.m C_l_mixed.m C_l_some_of.m,bi3 F⟩
 have C_l_sets_by:=cal h30 λ_ _ F=>⟨zH8 (k:=1) F B C_l_mixed.m C_l_some_of.m,bi4 F⟩
 have C_l_maps_by:=cal h31 λ_ _ F=>⟨zIa (k:=1) F B ymin C_l_cell_at.m C_l_mixed.m,bi1 F⟩
 have C_l_parts_by:=cal h32 λ_ _ F=>⟨zGs (k:=2) F B ymin C_l_cell_at.m C_l_maps_by.m C_l_name_by.m C_l_sets_by.m C_l_steps_by.m,bi1 F⟩
 have C_l_machine:=cal h33 λ_ _ F=>⟨zIb (k0:=4) (C:=C) F B T mk (OI.mono (by decide)) bI0,bi1 F⟩
 have C_l_whole:=cal h34 λ_ _ F=>⟨zMi (k:=0) F B,bi1 F⟩
 have C_l_class_numbers:=cal h35 λ_ _ F=>⟨zCc (k:=0) F B ysorted,bi2 F⟩
 have C_l_formed:=cal h36 λ_ _ F=>⟨zJr (k:=1) F B ystr ytuple C_l_whole.m,bi2 F⟩
 have C_l_earlier:=cal h37 λ_ _ F=>⟨zIc (k:=0) F B,bi2 F⟩
 have C_l_holds:=cal h38 λ_ _ F=>⟨zMl (k:=1) F B ystr C_l_earlier.m C_l_whole.m,bi4 F⟩
 have C_l_right:=cal h39 λ_ _ F=>⟨zMj (k:=2) F B C_l_formed.m C_l_holds.m,bi4 F⟩
 refine FnOk.imp (ok_law (k:=6) (C:=C) (fun_mk lk ck kp) B T C_l_class_numbers.m C_l_machine.m C_l_parts_by.m C_l_right.m C_classes.m C_partings.m) λvs H Q E h=>?_
 obtain ⟨a,ns,rfl,hS,h63,hQ⟩:=h
 obtain ⟨b,e1,e2⟩:=zR7 C ⟨ns⟩
 subst e2
 exact ⟨(⟨ns⟩,()),true,H,.refl _,e1,.cons ⟨a,rfl,hS⟩ .nil,λv H' _ r=>by cases r; exact hQ H'⟩
theorem walk {l:PySem.W.OpenLaw} {YP:World->Heap->Prop} {d:DefRec} {K:Params->PySem.W.Frag} (hn:l.most = some 63) (hdf:d.params.defaults = [])
  (hY:∀ (w:World) (h:Heap),YP w h->(K w.params).In h)
  (F:∀ (w:World) (mg:Str->Option Value) (fa:Addr) (h:Heap),(K w.params).In h->h.Ns mainGlobals mg->mg d.name = some (.ref fa) ->
   ∃ fd:FuncData,(∀ (s:Shared) (u:Value),BindsTo s fd ⟨[u],[]⟩ [("_law_script",u)]) /\ ∀ base:Heap,(K w.params).In base->base.Ns mainGlobals mg->FnOk l.prog w (K w.params) mg base CX0 7 fa fd ["_law_script"] (spLaw (K w.params))) :
  PySem.W.WalkO q loose XP YP l.row.toRowW d [] (λf vs=>PySem.call f vs) :=
 L2.walk_of (n:=63) (k:=7) (x:="_law_script") (CX:=λ_=>CX0) (sp:=λw=>spLaw (K w.params)) hn (by decide) hdf ⟨rfl,by decide,by decide⟩ hY F (λ_ _ a ns hl _ hS=>⟨a,ns,rfl,hS,hl,λ_=>rfl⟩) λ_ _ _ _ _ z=>z
end Ts
namespace PySem.W.Fast
def tw10241218448236788422:=0
def tw3200054968782127730:=0
def tw17584332343650429242:=0
def tw5654908641114572215:=0
def tw14764022523211172787:=0
def tw7988426455816511196:=0
def tw100289336771007663:=0
def tw3927358518946573377:=0
def tw1849042976195129837:=0
def tw4068816297893071728:=0
def tw14153624468549718216:=0
def tw17022823513734596993:=0
def tw9618747142346159887:=0
def tw457801567681212583:=0
def tw16425614224315341888:=0
def tw6075605602108575511:=0
def tw17500063541040460388:=0
def tw13514470388248497537:=0
def tw9961311044272138927:=0
def tw16216686771394490250:=0
def tw2946249722010238268:=0
def tw10287496674458176954:=0
def tw419317814112582586:=0
def tw11872111192629986585:=0
def tw13060498938325466207:=0
def tw6436855049427233287:=0
def tw2943731468431856141:=0
def tw8358655335350845195:=0
def tw5225241763231125984:=0
def tw11322644530276126213:=0
def tw15167290728998352974:=0
def tw4435542290604809012:=0
def tw748569293443151693:=0
def tw635635168402470841:=0
def tw16985752525390967832:=0
def tw5633903417290312664:=0
def tw4766457841962286574:=0
def tw14019659914512383983:=0
def tw16778242216490239708:=0
def tw15503659917126371380:=0
end PySem.W.Fast
open PySem PySem.W PyProof.Rows
set_option maxRecDepth 100000 in
set_option maxHeartbeats 0 in
theorem PySem.Challenge.cw_treesay_k62_partings_fall_holds : PySem.Challenge.rw_treesay_k62_partings_fall.Holds := by
 w_on; o_law; k_head; (case hw=>w_witness2)
 k_fill
 refine Ts.walk (l:=PySem.Challenge.rw_treesay_k62_partings_fall) rfl rfl (fun w h Y=>by first | exact PySem.W.kIn_of Y | exact PySem.W.km_in_of Y) ?F
 case F =>
  intro w mg fa h KX G hmg
  refine' Ts.all_mk KX G hmg ?_ ?_ ?_ ?_ ?_ ?_ ?_ ?_ ?_ ?_ ?_ ?_ ?_ ?_ ?_ ?_ ?_ ?_ ?_ ?_ ?_ ?_ ?_ ?_ ?_ ?_ ?_ ?_ ?_ ?_ ?_ ?_ ?_ ?_ ?_ ?_ ?_ ?_ ?_ ?_ ?_ ?_ ?_ ?_ ?_ ?_ ?_ ?_ ?_ ?_ ?_ ?_ ?_ ?_ ?_
  all_goals first | refine' Ts.mP_mk ⟨?_,?_,?_⟩ (L2.fun_mk ?_ ?_ ?_) | refine' Ts.fP_mk ?_ (L2.fun_mk ?_ ?_ ?_) | refine' Ts.funD_mk ?_ ?_ ?_ | refine' ⟨?_,?_,?_,?_⟩ | skip
  all_goals repeat' first | refine' And.intro ?_ ?_ | exact True.intro
  all_goals first | k_is | skip
  all_goals first | k_is | skip
