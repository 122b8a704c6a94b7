import PyProof.Rows.All
import Wide.All
import OpenK.AllK
import Wide.FinOn
import Lean
import PyProof.EqAt
import PyProof.EqKinds
import PyProof.TupleCall
import PyProof.NeKinds
import PyProof.EnumStmt
import PyProof.EnumMake
import PyProof.CompFree
import PyProof.Rows.FStr
import PySem.Challenge.RW_treesay_k72_failings_fall
open PySem.W (instObj methodObj lookIn plainGet hasDictIn findIn plainGet_of isFn takerIn emptyDict specialIn keepIn kitOne kia_one callWith_K cellsFrom_some fnOf codeIn kitCls nsIn mg_of)
open List (mem_filter mem_range filterMap_cons mem_cons_self mem_cons_of_mem mem_cons mem_append mem_append_left getElem_inj getElem?_set_self getElem?_set_ne mem_append_right size_toArray length_cons map_cons length_map append_nil nodup_cons of_mem_zip replicate length length_take getElem?_append_right getElem?_replicate getElem?_append_left getElem?_map getElem?_take_of_lt mem_of_getElem? length_append length_replicate find?_cons any_cons length_drop length_set all_cons reverse_cons length_singleton Pairwise lookup_cons all_eq_true lookup_append getD_eq_getElem?_getD toArray getElem?_cons_zero append_assoc map_append mem_map any_append take_append_drop take_add_one Sublist any_eq_true take_length getElem?_range length_range nil_append range_succ_eq_map range_succ filter_cons length_filter_le mem_iff_getElem? mem_singleton nodup_append filter_eq_self Nodup getElem_mem Perm pairwise_cons getElem?_toArray pairwise_map length_eq_zero_iff length_eraseIdx ext_getElem? filterMap set_set not_lt rel_of_pairwise_cons perm_ext_iff_of_nodup map_map map_id' length_dropLast filter_cons_of_neg filter_cons_of_pos mem_reverse mem_of_mem_take nodup_range)
open PySem.Heap (lt_size SameBut get?_push_of_some get?_push_size size_push get?_update_self get?_update_other)
open Array (length_toList toArray_toList getElem?_toList forIn_toList size_map)
open PySem.SetTable (below insertAt probe grown fits eraseAt)
set_option Elab.async false
set_option linter.all false
set_option maxRecDepth 100000
abbrev LI:=List Int
namespace L2
open PySem PySem.Spec PyProof.Rows
abbrev Key:=Sum Int Str
def zKy:Key->Value->Bool
 | .inl k,v=>Value.isInt k v
 | .inr x,v=>Value.isStrOf x v
def keyH (w:World):Key->Int
 | .inl k=>hashInt k
 | .inr x=>hashStr w x
theorem xL:∀ {k:Key} {v:Value},zKy k v = true->(∃ i t,k = Sum.inl i /\ v = Value.int i t) \/ (∃ x t,k = Sum.inr x /\ v = Value.str x t)
 | .inl i,v,h=>by
  obtain ⟨t,e⟩:=Value.isInt_shape (k:=i) (v:=v) h
  exact .inl ⟨i,t,rfl,e⟩
 | .inr x,v,h=>by
  obtain ⟨t,e⟩:=Value.isStrOf_shape (x:=x) (v:=v) h
  exact .inr ⟨x,t,rfl,e⟩
theorem zNf (i:Int) (t:Tok):zKy (.inl i) (.int i t) = true:=by simp [zKy,Value.isInt]
theorem zNe (x:Str) (t:Tok):zKy (.inr x) (.str x t) = true:=by simp [zKy,Value.isStrOf]
theorem key_ll (a b:Int):decide ((Sum.inl a:Key) = Sum.inl b) = (a == b):=by
 by_cases e:a = b
 ·subst e; simp
 ·have h:¬ (Sum.inl a:Key) = Sum.inl b:=λq=>e (Sum.inl.inj q)
  rw [decide_eq_false h]
  exact (beq_eq_false_iff_ne.mpr e).symm
theorem key_rr (a b:Str):decide ((Sum.inr a:Key) = Sum.inr b) = decide (a = b):=by
 by_cases e:a = b
 ·subst e; simp
 ·have h:¬ (Sum.inr a:Key) = Sum.inr b:=λq=>e (Sum.inr.inj q)
  rw [decide_eq_false h,decide_eq_false e]
theorem key_lr (a:Int) (b:Str):decide ((Sum.inl a:Key) = Sum.inr b) = false:=decide_eq_false (λq=>nomatch q)
theorem key_rl (a:Str) (b:Int):decide ((Sum.inr a:Key) = Sum.inl b) = false:=decide_eq_false (λq=>nomatch q)
def vC (prog:Program) (w:World):PySem.KeyKind prog w Key where
 is:=zKy
 hash:=keyH w
 inj:=λv a b ha hb=>by
  rcases xL ha with ⟨i,t,rfl,rfl⟩ | ⟨x,t,rfl,rfl⟩
  ·rcases xL hb with ⟨j,u,rfl,e⟩ | ⟨y,u,rfl,e⟩
   ·injection e with e1 _; rw [e1]
   ·exact nomatch e
  ·rcases xL hb with ⟨j,u,rfl,e⟩ | ⟨y,u,rfl,e⟩
   ·exact nomatch e
   ·injection e with e1 _; rw [e1]
 byValue:=λk v h=>by
  rcases xL h with ⟨i,t,rfl,rfl⟩ | ⟨x,t,rfl,rfl⟩ <;> rfl
 pyHash:=λhv h=>by
  rcases xL hv with ⟨i,t,rfl,rfl⟩ | ⟨x,t,rfl,rfl⟩
  ·exact wpAny_pyHash_int h
  ·exact wpAny_pyHash_str h
 eqBool:=λhu hv h=>by
  rcases xL hu with ⟨i,t,rfl,rfl⟩ | ⟨x,t,rfl,rfl⟩
  ·rcases xL hv with ⟨j,u,rfl,rfl⟩ | ⟨y,u,rfl,rfl⟩
   ·rw [key_ll] at h; exact wpAny_eqBool_int h
   ·rw [key_lr] at h; exact SeqAt.EqAt.int_str i t y u _ _ _ _ h
  ·rcases xL hv with ⟨j,u,rfl,rfl⟩ | ⟨y,u,rfl,rfl⟩
   ·rw [key_rl] at h; exact SeqAt.EqAt.str_int x t j u _ _ _ _ h
   ·rw [key_rr] at h; exact wpAny_eqBool_str h
 «strs»:=λk x t v h=>by
  rcases xL h with ⟨i,u,rfl,e⟩ | ⟨y,u,rfl,e⟩
  ·exact nomatch e
  ·injection e with e1 _
   subst e1
   cases v <;> rfl
theorem zIl (prog:Program) (w:World) (i:Int) (t:Tok):(vC prog w).is (.inl i) (.int i t) = true:=zNf i t
theorem zIk (prog:Program) (w:World) (x:Str) (t:Tok):(vC prog w).is (.inr x) (.str x t) = true:=zNe x t
inductive V where
 | non | bl (b:Bool) | int (i:Int) | str (x:Str) | byt (b:Array UInt8) | flt (b:UInt64) | ref (a:Addr) | ty (n:String)
 deriving DecidableEq
def RelV:V->Value->Prop
 | .non,u=>u = Value.none
 | .bl b,u=>u = Value.bool b
 | .int i,u=>∃ t,u = Value.int i t
 | .str x,u=>∃ t,u = Value.str x t
 | .byt b,u=>∃ t,u = Value.bytes b t
 | .flt b,u=>∃ t,u = Value.float b t
 | .ref a,u=>u = Value.ref a
 | .ty n,u=>u = Value.type n
abbrev Vals:List V->List Value->Prop:=Paired RelV
theorem Vals.length (r:Vals xs us):xs.length = us.length:=Paired.length r
theorem Vals.get:∀ {xs:List V} {us:List Value} {i:Nat} {x:V},Vals xs us->xs[i]? = some x->∃ u,us[i]? = some u /\ RelV x u
 | _,_,_,_,.nil,e=>by simp at e
 | _,_,0,_,.cons r _,e=>by simp at e; subst e; exact ⟨_,rfl,r⟩
 | _,_,i + 1,x,.cons _ t,e=>by
  obtain ⟨u,h1,h2⟩:=Vals.get (i:=i) (x:=x) t (by simpa using e)
  exact ⟨u,by simpa using h1,h2⟩
theorem Vals.set (r:RelV x u):∀ {xs:List V} {us:List Value} (i:Nat),Vals xs us->Vals (xs.set i x) (us.set i u)
 | _,_,_,.nil=>.nil
 | _,_,0,.cons _ t=>.cons r t
 | _,_,i + 1,.cons q t=>.cons q (Vals.set r i t)
theorem Vals.append:∀ {xs ys:List V} {us ws:List Value},Vals xs us->Vals ys ws->Vals (xs ++ ys) (us ++ ws)
 | _,_,_,_,.nil,s=>s
 | _,_,_,_,.cons r t,s=>.cons r (Vals.append t s)
theorem Vals.take:∀ {xs:List V} {us:List Value} (n:Nat),Vals xs us->Vals (xs.take n) (us.take n)
 | _,_,0,_=>.nil
 | _,_,_ + 1,.nil=>.nil
 | _,_,n + 1,.cons r t=>.cons r (Vals.take n t)
theorem Vals.drop:∀ {xs:List V} {us:List Value} (n:Nat),Vals xs us->Vals (xs.drop n) (us.drop n)
 | _,_,0,r=>r
 | _,_,_ + 1,.nil=>.nil
 | _,_,n + 1,.cons _ t=>Vals.drop n t
theorem Vals.none_of:∀ {xs:List V} {us:List Value} {i:Nat},Vals xs us->xs[i]? = none->us[i]? = none:=λ{xs us i} r e=>by
 have h1:=r.length
 have h2:xs.length <= i:=List.getElem?_eq_none_iff.mp e
 exact List.getElem?_eq_none_iff.mpr (by omega)
def RelO:Option V->Option Value->Prop
 | some v,some u=>RelV v u
 | none,none=>True
 | _,_=>False
def KV {κ:Type}:List (κ × V)->List (κ × Value)->Prop:=Paired λ(p:κ × V) (q:κ × Value)=>p.1 = q.1 /\ RelV p.2 q.2
def kV:Key->V
 | .inl i=>.int i
 | .inr x=>.str x
inductive HO where
 | lst (xs:List V)
 | tup (xs:List V)
 | dK (kvs:List (Key × V)) | dT (kvs:List (List Key × V))
 | set (S:Int->Bool) (n:Nat)
 | ins (C dx:Addr) (fs:List (Str × V))
 | own (x:Addr)
 | xd (fs:List (Str × V))
 | met (f x:Addr)
 | rng (lo hi:Int)
 | frz (o:Obj) (u:HO)
 | tbl (ps:Array Value)
 | ext (φ:Heap->Prop)
abbrev Hp:=Addr->Option HO
def upd (H:Hp) (a:Addr) (o:HO):Hp:=λb=>if b = a then some o else H b
theorem zR:upd H a o a = some o:=by unfold upd; rw [if_pos rfl]
theorem zO (h:b ≠ a):upd H a o b = H b:=by unfold upd; rw [if_neg h]
theorem ne_of {H:Hp} {a b:Addr} {o u:HO} (h:H a = some o) (h':H b = some u) (d:o ≠ u):a ≠ b:=by
 intro e; subst e; rw [h] at h'; exact d (Option.some.inj h')
theorem zS {H:Hp} {a b:Addr} {o:HO} (h:H a = some o) (h':H b = none):a ≠ b:=by
 intro e; subst e; rw [h] at h'; cases h'
section
variable (P:Program) (w:World)
def ObjOk (H:Hp) (h:Heap) (a:Addr):HO->Prop
 | .lst xs=>xs.length <= sizeLine /\ ∃ (its:List Value) (n:Nat),Vals xs its /\ h.get? a = some { cls:=.type "list",data:=.seq its.toArray n }
 | .tup xs=>xs.length <= sizeLine /\ ∃ its:List Value,Vals xs its /\ IsTup h a its.toArray
 | .dK kvs=>kvs.length <= sizeLine /\ (a == sysModules) = false /\ ∃ vs,KV kvs vs /\ h.DictOf (vC P w) a vs
 | .dT kvs=>kvs.length <= sizeLine /\ (a == sysModules) = false /\ ∃ xs:List (List Key × Addr × Value),
   Paired (λ(p:List Key × V) (q:List Key × Addr × Value)=>p.1 = q.1 /\ H q.2.1 = some (.tup (p.1.map kV)) /\ RelV p.2 q.2.2) kvs xs /\
   ∃ o es ep,h.get? a = some o /\ o.ExactDict /\ o.data = .dict es ep /\ es.toList = xs.map (entryOfKey (tupleKind (vC P w))) /\ (xs.map (·.1)).Nodup
 | .set S n=>h.SetOf (intKind P w) a S n
 | .ins C dx fs=>H dx = some (.own a) /\ fs.length <= 1000 /\ dx ≠ a /\ h.get? a = some (instObj C dx) /\
   ∃ mA,h.Ns1 dx mA /\ (∀ f,RelO (fs.lookup f) (mA f)) /\ PySem.Within mA (fs.map (·.1))
 | .own _=>∃ o,h.get? a = some o
 | .xd fs=>∃ mA,h.Ns1 a mA /\ ∀ f,RelO (fs.lookup f) (mA f)
 | .rng lo hi=>∃ t u v,h.get? a = some { cls:=.type "range",data:=.fields #[.int lo t,.int hi u,.int 1 v] }
 | .frz o u=>h.get? a = some o /\ ObjOk H h a u
 | .tbl ps=>h.get? a = some { cls:=.none,data:=.fields ps }
 | .met f x=>h.get? a = some (methodObj (.ref f) (.ref x))
 | .ext φ=>φ h /\ (∃ o,h.get? a = some o) /\ ∀ h1 h2:Heap,φ h1->(∀ o,h1.get? a = some o->h2.get? a = some o)->φ h2
def HOk (H:Hp) (h:Heap):Prop:=∀ a o,H a = some o->ObjOk P w H h a o
end
section
variable {P:Program} {w:World} {H H':Hp} {h h':Heap} {a:Addr} {o:HO}
theorem ObjOk.lt (x:ObjOk P w H h a o):a < h.objs.size:=by
 cases o with
 | lst xs=>obtain ⟨_,_,_,_,e⟩:=x; exact lt_size e
 | tup xs=>obtain ⟨_,_,_,p⟩:=x; exact p.lt
 | dK kvs=>obtain ⟨_,_,_,_,o,_,_,e,_⟩:=x; exact lt_size e
 | dT kvs=>obtain ⟨_,_,_,_,o,_,_,e,_⟩:=x; exact lt_size e
 | set S n=>obtain ⟨o,_,_,_,e,_⟩:=x; exact lt_size e
 | ins C dx fs=>obtain ⟨_,_,_,e,_⟩:=x; exact lt_size e
 | own y=>obtain ⟨_,e⟩:=x; exact lt_size e
 | xd fs=>obtain ⟨_,⟨_,_,_,e,_⟩,_⟩:=x; exact lt_size e
 | rng lo hi=>obtain ⟨_,_,_,e⟩:=x; exact lt_size e
 | frz ob u=>obtain ⟨e,_⟩:=x; exact lt_size e
 | tbl ps=>exact lt_size (show h.get? a = some _ from x)
 | met f y=>exact lt_size (show h.get? a = some _ from x)
 | ext φ=>obtain ⟨_,⟨_,e⟩,_⟩:=x; exact lt_size e
theorem Paired.mapP {α β:Type} {F G:α->β->Prop}:∀ {l₁:List α} {l₂:List β},Paired F l₁ l₂->(∀ a b,F a b->G a b)->Paired G l₁ l₂
 | _,_,.nil,_=>.nil
 | _,_,.cons r t,f=>.cons (f _ _ r) (Paired.mapP t f)
theorem ObjOk.stay (x:ObjOk P w H h a o) (k:∀ b u,(b = a \/ H b = some (.own a))->h.get? b = some u->h'.get? b = some u)
  (ho:∀ b,H b = some (.own a)->H' b = some (.own a)) (ht:∀ b xs,H b = some (.tup xs)->H' b = some (.tup xs)):ObjOk P w H' h' a o:=by
 induction o with
 | lst xs=>obtain ⟨z,its,n,r,e⟩:=x; exact ⟨z,its,n,r,k _ _ (.inl rfl) e⟩
 | tup xs=>obtain ⟨z,its,r,ob,e,c⟩:=x; exact ⟨z,its,r,ob,k _ _ (.inl rfl) e,c⟩
 | dK kvs=>obtain ⟨z,y,vs,r,ob,es,ep,e,c⟩:=x; exact ⟨z,y,vs,r,ob,es,ep,k _ _ (.inl rfl) e,c⟩
 | dT kvs =>
  obtain ⟨z,y,xs,r,ob,es,ep,e,c⟩:=x
  exact ⟨z,y,xs,Paired.mapP r λp q z=>⟨z.1,ht _ _ z.2.1,z.2.2⟩,ob,es,ep,k _ _ (.inl rfl) e,c⟩
 | set S n=>obtain ⟨ob,es,ep,t,e,c⟩:=x; exact ⟨ob,es,ep,t,k _ _ (.inl rfl) e,c⟩
 | ins C dx fs =>
  obtain ⟨d,z,ne,e,mA,⟨od,es,ep,e2,c⟩,r⟩:=x
  exact ⟨ho _ d,z,ne,k _ _ (.inl rfl) e,mA,⟨od,es,ep,k _ _ (.inr d) e2,c⟩,r⟩
 | own y=>obtain ⟨ob,e⟩:=x; exact ⟨ob,k _ _ (.inl rfl) e⟩
 | xd fs=>obtain ⟨mA,⟨od,es,ep,e,c⟩,r⟩:=x; exact ⟨mA,⟨od,es,ep,k _ _ (.inl rfl) e,c⟩,r⟩
 | rng lo hi=>obtain ⟨t,u,v,e⟩:=x; exact ⟨t,u,v,k _ _ (.inl rfl) e⟩
 | frz ob u ih=>obtain ⟨e,q⟩:=x; exact ⟨k _ _ (.inl rfl) e,ih q⟩
 | tbl ps =>
  have e:h.get? a = some { cls:=.none,data:=.fields ps }:=x
  show h'.get? a = some { cls:=.none,data:=.fields ps }
  exact k a _ (.inl rfl) e
 | met f y =>
  have e:h.get? a = some (methodObj (.ref f) (.ref y)):=x
  show h'.get? a = some (methodObj (.ref f) (.ref y))
  exact k a _ (.inl rfl) e
 | ext φ=>obtain ⟨p,⟨o,e⟩,st⟩:=x; exact ⟨st _ _ p λo q=>k _ _ (.inl rfl) q,⟨o,k _ _ (.inl rfl) e⟩,st⟩
theorem HOk.lt (x:HOk P w H h) (e:H a = some o):a < h.objs.size:=(x a o e).lt
theorem HOk.fresh (x:HOk P w H h) (e:h.objs.size <= a):H a = none:=by
 cases q:H a with
 | none=>rfl
 | some u=>exact absurd (Nat.lt_of_lt_of_le (x.lt q) e) (Nat.lt_irrefl _)
theorem HOk.kept (x:HOk P w H h) (k:∀ b u,h.get? b = some u->h'.get? b = some u):HOk P w H h':=λa o e =>
 (x a o e).stay (λb u _ q=>k b u q) (λ_ q=>q) λ_ _ q=>q
theorem HOk.laid (x:HOk P w H h) (k:∀ b u,h.get? b = some u->h'.get? b = some u) (hp:h.objs.size <= a) (new:ObjOk P w (upd H a o) h' a o):HOk P w (upd H a o) h':=λb u e=>by
 have hn:=x.fresh hp
 by_cases hb:b = a
 ·subst hb; rw [zR] at e; cases e; exact new
 ·rw [zO hb] at e
  exact (x b u e).stay (λc v _ q=>k c v q) (λc q=>by rw [zO (zS q hn)]; exact q) λc xs q=>by rw [zO (zS q hn)]; exact q
end
def Rd (H:Hp) (a:Addr) (u:HO):Prop:=H a = some u \/ ∃ o,H a = some (.frz o u)
theorem Rd.ok (r:Rd H a u) (x:HOk P w H h):ObjOk P w H h a u:=by
 rcases r with r | ⟨o,r⟩
 ·exact x a u r
 ·obtain ⟨_,q⟩:=x a _ r
  exact q
def Mut:Option HO->Prop
 | some (.lst _)=>True
 | some (.dK _)=>True
 | some (.dT _)=>True
 | some (.set _ _)=>True
 | some (.ins _ _ _)=>True
 | some (.ext _)=>True
 | _=>False
section
variable {P:Program} {w:World} {H:Hp} {h h':Heap} {x e:Addr} {o':HO}
theorem HOk.write (ok:HOk P w H h) (mu:Mut (H x)) (he:e = x \/ H e = some (.own x)) (k:∀ b u,b ≠ e->h.get? b = some u->h'.get? b = some u) (heo:∃ u,h'.get? e = some u)
  (new:ObjOk P w (upd H x o') h' x o'):HOk P w (upd H x o') h':=λb u q=>by
 have nown:∀ c y,H c = some (.own y)->c ≠ x:=λc y r z=>by subst z; rw [r] at mu; exact mu
 have ntup:∀ c xs,H c = some (.tup xs)->c ≠ x:=λc xs r z=>by subst z; rw [r] at mu; exact mu
 by_cases hb:b = x
 ·subst hb; rw [zR] at q; cases q; exact new
 ·rw [zO hb] at q
  by_cases hbe:b = e
  ·have q':H b = some (.own x):=by
    rcases he with z | z
    ·exact absurd (hbe.trans z) hb
    ·rw [hbe]; exact z
   rw [q] at q'; cases q'
   obtain ⟨v,hv⟩:=heo
   exact ⟨v,by rw [hbe]; exact hv⟩
  ·refine (ok b u q).stay (λc v hc r=>k c v ?_ r) (λc r=>by rw [zO (nown c b r)]; exact r) λc xs r=>by rw [zO (ntup c xs r)]; exact r
   rcases hc with rfl | hc
   ·exact hbe
   ·rintro rfl
    rcases he with z | z
    ·exact nown c b hc z
    ·rw [hc] at z; cases z; exact hb rfl
end
structure Un (fs ex:List Addr) (H H':Hp) (h h':Heap):Prop where
 keep:∀ b o,h.get? b = some o->H b = none->b ∉ fs->b ∉ ex->h'.get? b = some o
 slot:∀ b o,h.get? b = some o->H b = none->b ∈ fs->b ∉ ex->∃ sl,h'.get? b = some { o with slots:=sl }
 free:∀ b o,h.get? b = some o->H b = none->b ∉ ex->H' b = none
 there:∀ b o,h.get? b = some o->b ∉ ex->∃ o',h'.get? b = some o'
 tups:∀ b xs,H b = some (.tup xs)->H' b = some (.tup xs)
 frzs:∀ b o u,H b = some (.frz o u)->H' b = some (.frz o u)
 tbls:∀ b ps,H b = some (.tbl ps)->∃ more,H' b = some (.tbl (ps ++ more))
section
variable {fs fs' ex ex':List Addr} {H H1 H2:Hp} {h h1 h2 h':Heap} {a x e:Addr} {o:HO}
theorem Un.any (u:Un fs ex H H1 h h1) (q:h.get? b = some ob) (n:H b = none) (hx:b ∉ ex):∃ sl,h1.get? b = some { ob with slots:=sl }:=by
 by_cases hb:b ∈ fs
 ·exact u.slot b ob q n hb hx
 ·exact ⟨ob.slots,u.keep b ob q n hb hx⟩
theorem Un.kept (k:∀ b u,h.get? b = some u->h'.get? b = some u):Un fs ex H H h h' :=
 ⟨λb ob q _ _ _=>k b ob q,λb ob q _ _ _=>⟨ob.slots,k b ob q⟩,λ_ _ _ n _=>n,λb ob q _=>⟨ob,k b ob q⟩,λ_ _ q=>q,λ_ _ _ q=>q,λ_ ps q=>⟨#[],by rw [q]; simp⟩⟩
theorem Un.refl:Un fs ex H H h h:=Un.kept λ_ _ q=>q
theorem Un.laid (k:∀ b u,h.get? b = some u->h'.get? b = some u) (hp:h.objs.size <= a) (hn:H a = none):Un fs ex H (upd H a o) h h' where
 keep:=λb u q _ _ _=>k b u q
 slot:=λb u q _ _ _=>⟨u.slots,k b u q⟩
 free:=λb u q n _=>by rw [zO (Nat.ne_of_lt (Nat.lt_of_lt_of_le (lt_size q) hp))]; exact n
 there:=λb u q _=>⟨u,k b u q⟩
 tups:=λb xs q=>by rw [zO (zS q hn)]; exact q
 frzs:=λb u xs q=>by rw [zO (zS q hn)]; exact q
 tbls:=λb ps q=>⟨#[],by rw [zO (zS q hn),q]; simp⟩
theorem Un.write (mu:Mut (H x)) (he:e = x \/ H e = some (.own x)) (k:∀ b u,b ≠ e->h.get? b = some u->h'.get? b = some u) (heo:∃ u,h'.get? e = some u):Un fs ex H (upd H x o) h h':=by
 have hx:∀ b,H b = none->b ≠ x:=λb n z=>by subst z; rw [n] at mu; exact mu
 have hb:∀ b,H b = none->b ≠ e:=λb n z=>by
  subst z
  rcases he with r | r
  ·exact hx b n r
  ·rw [n] at r; cases r
 have hm:∀ b u,H b = some u->¬ Mut (some u)->b ≠ x:=λb u q nm z=>by subst z; rw [q] at mu; exact nm mu
 refine ⟨λb u q n _ _=>k b u (hb b n) q,λb u q n _ _=>⟨u.slots,k b u (hb b n) q⟩,λb u q n _=>by rw [zO (hx b n)]; exact n,λb u q _=>?_,
  λb xs q=>by rw [zO (hm b _ q λz=>z)]; exact q,λb u xs q=>by rw [zO (hm b _ q λz=>z)]; exact q,λb ps q=>⟨#[],by rw [zO (hm b _ q λz=>z),q]; simp⟩⟩
 by_cases hbe:b = e
 ·subst hbe; exact heo
 ·exact ⟨u,k b u hbe q⟩
end
def trk (h:Heap) (H:Hp):List Addr:=(List.range h.objs.size).filter λa=>(H a).isSome
def hidT (h:Heap) (H:Hp):Heap:=PySem.W.hideAll h (trk h H)
theorem zNm (h:Heap) (H:Hp):(hidT h H).objs.size = h.objs.size:=PySem.W.hideAll_size _ _
theorem zPz {h:Heap} (e:h.get? b = some o) (n:H b = none):(hidT h H).get? b = some o :=
 PySem.W.hideAll_get _ e λhm=>by
  have q:(H b).isSome = true:=(mem_filter.mp hm).2
  rw [n] at q; simp at q
theorem of_hidT (e:(hidT h H).get? b = some o):h.get? b = some o /\ H b = none:=by
 have e':h.get? b = some o:=PySem.W.of_hideAll (trk h H) e
 refine ⟨e',?_⟩
 cases q:H b with
 | none=>rfl
 | some x =>
  have hm:b ∈ trk h H:=mem_filter.mpr ⟨mem_range.mpr (lt_size e'),by simp [q]⟩
  have z:(hidT h H).get? b = none:=PySem.W.hideAll_none (trk h H) hm
  rw [z] at e; cases e
def allNews (g h:Heap) (L:Addr):List (Addr × Obj):=(List.range h.objs.size).filterMap λa=>if a = L \/ (g.get? a).isSome = true then none else (h.get? a).map λo=>(a,o)
def rest (g h:Heap) (L d:Addr):List (Addr × Obj):=(allNews g h L).filter λp=>decide (p.1 ≠ d)
structure Mod (K:PySem.W.Frag) (mg:Str->Option Value) (base:Heap):Prop where
 kin:K.In base
 glob:base.Ns mainGlobals mg
 blt:∃ mb,base.Ns builtinsNs mb /\ ∀ x:Str,x ≠ "__name__"->mb x = bootBuiltins x
 nolimit:base.NoLimit
structure Cx where
 prog:Program
 w:World
 K:PySem.W.Frag
 mg:Str->Option Value
 base:Heap
 A:Around
 N:List Str
 s₀:Shared
 H₀:Hp
 env:Env
 outer:List Env
 stack:List Env
 ex:List Addr
 fn:Str->Bool
 calm:Bool
 pn:List (Addr × Obj)
 xe:Value->Shared->Prop
def frs (l:List Env):List Addr:=l.filterMap (·.frame)
abbrev Cx.fs (X:Cx):List Addr:=frs X.outer
def Vis (sc:Scope) (x:Str):Prop:=sc.names.lookup x = some .local \/ sc.names.lookup x = some .cell \/ sc.names.lookup x = some .free
def Loc (sc:Scope) (x:Str):Prop:=sc.names.lookup x = some .local \/ sc.names.lookup x = some .cell
def Look (env:Env) (h:Heap) (m:Str->Option Value) (x:Str) (u:Value):Prop :=
 (env.kindOf x = some .local /\ m x = some u) \/ ((env.kindOf x = some .cell \/ env.kindOf x = some .free) /\ ∃ c,env.cells.lookup x = some c /\ h.IsCell c (some u))
structure Cx.Ok (X:Cx):Prop where
 mod:Mod X.K X.mg X.base
 kind:X.env.scope.kind = .function
 glob:X.env.globals = mainGlobals
 blt:X.env.builtins = builtinsNs
 above:X.s₀.heap.objs.size <= X.env.locals
 inj:∀ x y c,X.env.cells.lookup x = some c->X.env.cells.lookup y = some c->x = y
 has:∀ x,(X.env.kindOf x = some .cell \/ X.env.kindOf x = some .free)->∃ c,X.env.cells.lookup x = some c
 cab:∀ x c,X.fn x = true->X.env.cells.lookup x = some c->X.s₀.heap.objs.size <= c
 hd:X.calm = true->X.A.handled = none
 frames:X.A.frames = some X.stack
 stk:X.stack = X.outer \/ (X.stack = X.env :: X.outer /\ X.env.frame = some X.env.locals)
 exf:∀ b ∈ X.ex,b ≠ X.env.locals /\ ∀ x c,X.env.cells.lookup x = some c->c ≠ b
 bs:∀ b o,X.base.get? b = some o->X.s₀.heap.get? b = some o /\ X.H₀ b = none
 bsz:X.base.objs.size <= X.s₀.heap.objs.size
 noex:∀ b o,X.base.get? b = some o->b ∉ X.ex
 exfs:∀ b ∈ X.ex,b ∉ X.fs
 funs:X.s₀.heap.FunFrames X.base X.outer
 frf:∀ b ∈ X.fs,X.H₀ b = none
structure Inv (X:Cx) (pins:List (Addr × Obj)) (σ:List (Option V)) (H:Hp) (s:Shared):Prop where
 ok:X.Ok
 os:s.os = X.s₀.os
 bare:AllBare s.gens
 base:Un X.fs X.ex X.H₀ H X.s₀.heap s.heap
 loc:∃ m,s.heap.Ns X.env.locals m /\ ∀ (i:Nat) (x:Str) (v:V),X.N[i]? = some x->σ[i]? = some (some v)->Vis X.env.scope x->∃ u,RelV v u /\ Look X.env s.heap m x u
 cell:∀ x c,X.env.cells.lookup x = some c->∃ v,s.heap.IsCell c v
 free:H X.env.locals = none
 freeC:∀ x c,X.env.cells.lookup x = some c->H c = none
 pin:∀ p ∈ X.pn ++ pins,s.heap.get? p.1 = some p.2 /\ H p.1 = none /\ p.1 ≠ X.env.locals /\ p.1 ∉ X.fs /\ ∀ v,p.2.data ≠ .cell v
 hok:HOk X.prog X.w H s.heap
 len:σ.length = X.N.length
section
variable {X:Cx} {pins:List (Addr × Obj)} {σ:List (Option V)} {H H':Hp} {s:Shared} {h':Heap}
theorem Cx.Ok.nofr (ok:X.Ok) (e:X.base.get? b = some o):b ∉ X.fs:=λhb=>by
 have:=(ok.funs.mem hb).1
 rw [e] at this; cases this
theorem Inv.bs (I:Inv X pins σ H s):∀ b o,X.base.get? b = some o->s.heap.get? b = some o /\ H b = none:=λb o e =>
 ⟨I.base.keep b o (I.ok.bs b o e).1 (I.ok.bs b o e).2 (I.ok.nofr e) (I.ok.noex b o e),I.base.free b o (I.ok.bs b o e).1 (I.ok.bs b o e).2 (I.ok.noex b o e)⟩
theorem Inv.bk (I:Inv X pins σ H s):∀ b o,X.base.get? b = some o->s.heap.get? b = some o:=λb o e=>(I.bs b o e).1
theorem Inv.mod (I:Inv X pins σ H s):Mod X.K X.mg X.base:=I.ok.mod
theorem Inv.kIn (I:Inv X pins σ H s):X.K.In s.heap:=I.ok.mod.kin.keeps I.bk
theorem Inv.nolimit (I:Inv X pins σ H s):s.heap.NoLimit:=I.ok.mod.nolimit.keeps I.bk
theorem Inv.lt (I:Inv X pins σ H s):X.env.locals < s.heap.objs.size:=let ⟨_,hn,_⟩:=I.loc; hn.lt
theorem Inv.sz (I:Inv X pins σ H s):X.s₀.heap.objs.size <= s.heap.objs.size:=Nat.le_trans I.ok.above (Nat.le_of_lt I.lt)
theorem Inv.nofs (I:Inv X pins σ H s) (h:s.heap.objs.size <= a):a ∉ X.fs:=λhb=>by
 obtain ⟨_,o,ho,_⟩:=I.ok.funs.mem hb
 exact absurd (Nat.lt_of_lt_of_le (lt_size ho) (Nat.le_trans I.sz h)) (Nat.lt_irrefl _)
theorem Inv.cne (I:Inv X pins σ H s):∀ x c,X.env.cells.lookup x = some c->c ≠ X.env.locals:=λx c e z=>by
 obtain ⟨v,o,ho,hd⟩:=I.cell x c e
 obtain ⟨m,⟨o',es,ep,ho',hd',_⟩,_⟩:=I.loc
 rw [z,ho'] at ho; cases ho; rw [hd'] at hd; cases hd
theorem Inv.funs (I:Inv X pins σ H s):s.heap.FunFrames X.base X.outer:=by
 have all:∀ (l:List Env),(∀ b ∈ frs l,b ∈ X.fs)->X.s₀.heap.FunFrames X.base l->s.heap.FunFrames X.base l:=by
  intro l
  induction l with
  | nil=>intro _ _; trivial
  | cons env r ih =>
   intro hs hl
   obtain ⟨hk,⟨L,o,hf,hn,ho,hd⟩,hr⟩:=hl
   have hL:L ∈ X.fs:=hs L (by unfold frs; rw [filterMap_cons,hf]; exact mem_cons_self)
   obtain ⟨sl,e⟩:=I.base.slot L o ho (I.ok.frf L hL) hL λz=>I.ok.exfs L z hL
   exact ⟨hk,⟨L,_,hf,hn,e,hd⟩,ih (λb hb=>hs b (by unfold frs; rw [filterMap_cons,hf]; exact mem_cons_of_mem _ hb)) hr⟩
 exact all X.outer (λ_ hb=>hb) I.ok.funs
theorem Inv.stack (I:Inv X pins σ H s):s.heap.FunFrames X.base X.stack:=by
 rcases I.ok.stk with e | ⟨e,hf⟩
 ·rw [e]; exact I.funs
 ·rw [e]
  obtain ⟨m,hn,_⟩:=I.loc
  refine .cons (by rw [I.ok.kind]; decide) hf hn ?_ I.funs
  exact Heap.get?_none_of_le (Nat.le_trans I.ok.bsz I.ok.above)
theorem Inv.stkSub (I:Inv X pins σ H s):∀ b ∈ frs X.stack,b ∈ X.env.locals :: X.fs:=λb hb=>by
 rcases I.ok.stk with e | ⟨e,hf⟩
 ·rw [e] at hb; exact mem_cons_of_mem _ hb
 ·rw [e] at hb
  unfold frs at hb
  rw [filterMap_cons,hf] at hb
  exact hb
theorem Inv.stkFree (I:Inv X pins σ H s):∀ b ∈ frs X.stack,H b = none:=λb hb=>by
 rcases mem_cons.mp (I.stkSub b hb) with e | hb
 ·rw [e]; exact I.free
 ·obtain ⟨_,o,ho,_⟩:=I.ok.funs.mem hb
  exact I.base.free b o ho (I.ok.frf b hb) λz=>I.ok.exfs b z hb
theorem Inv.step {g':Array GenState} {t':Nat} {d':Drawn} {ch:List Addr} (I:Inv X pins σ H s)
  (hch:∀ b ∈ ch,(b ∈ X.ex \/ X.s₀.heap.objs.size <= b) /\ b ≠ X.env.locals /\ (∀ x c,X.env.cells.lookup x = some c->c ≠ b) /\ ∀ p ∈ X.pn ++ pins,p.1 ≠ b)
  (keep:∀ b o,b ≠ X.env.locals->b ∉ X.fs->b ∉ ch->s.heap.get? b = some o->H b = none->h'.get? b = some o)
  (slot:∀ b o,b ≠ X.env.locals->b ∈ X.fs->b ∉ ch->s.heap.get? b = some o->H b = none->∃ sl,h'.get? b = some { o with slots:=sl }) (free:∀ b o,b ∉ ch->s.heap.get? b = some o->H b = none->H' b = none)
  (there:∀ b o,b ∉ ch->s.heap.get? b = some o->∃ o',h'.get? b = some o')
  (tups:∀ b xs,H b = some (.tup xs)->H' b = some (.tup xs)) (frzs:∀ b o u,H b = some (.frz o u)->H' b = some (.frz o u)) (tbls:∀ b ps,H b = some (.tbl ps)->∃ more,H' b = some (.tbl (ps ++ more)))
  (ns:∀ m,s.heap.Ns X.env.locals m->h'.Ns X.env.locals m) (hok:HOk X.prog X.w H' h') (hg:AllBare g') :
  Inv X pins σ H' { s with heap:=h',gens:=g',drawn:=d',toks:=t' }:=by
 have neL:∀ b o,X.s₀.heap.get? b = some o->b ≠ X.env.locals:=λb o e=>Nat.ne_of_lt (Nat.lt_of_lt_of_le (lt_size e) I.ok.above)
 have neC:∀ b o,X.s₀.heap.get? b = some o->b ∉ X.ex->b ∉ ch:=λb o e hx hb=>by
  rcases (hch b hb).1 with z | z
  ·exact hx z
  ·exact absurd (Nat.lt_of_lt_of_le (lt_size e) z) (Nat.lt_irrefl _)
 have cellK:∀ x c,X.env.cells.lookup x = some c->∀ v,s.heap.IsCell c v->h'.IsCell c v:=λx c e v ⟨o,ho,hd⟩=>by
  have nch:c ∉ ch:=λz=>(hch c z).2.2.1 x c e rfl
  by_cases hc:c ∈ X.fs
  ·obtain ⟨sl,q⟩:=slot c o (I.cne x c e) hc nch ho (I.freeC x c e)
   exact ⟨_,q,hd⟩
  ·exact ⟨o,keep c o (I.cne x c e) hc nch ho (I.freeC x c e),hd⟩
 refine ⟨I.ok,I.os,hg,⟨λb o e n hb hx=>?_,λb o e n hb hx=>?_,λb o e n hx=>?_,λb o e hx=>?_,λb xs e=>tups b xs (I.base.tups b xs e),λb o xs e=>frzs b o xs (I.base.frzs b o xs e),λb ps e=>?_⟩,?_,λx c e=>?_,?_,λx c e=>?_,λp hp=>?_,hok,I.len⟩
 ·exact keep b o (neL b o e) hb (neC b o e hx) (I.base.keep b o e n hb hx) (I.base.free b o e n hx)
 ·obtain ⟨sl,e1⟩:=I.base.slot b o e n hb hx
  obtain ⟨sl',e2⟩:=slot b _ (neL b o e) hb (neC b o e hx) e1 (I.base.free b o e n hx)
  exact ⟨sl',e2⟩
 ·obtain ⟨o',e1⟩:=I.base.there b o e hx
  exact free b o' (neC b o e hx) e1 (I.base.free b o e n hx)
 ·obtain ⟨o',e1⟩:=I.base.there b o e hx
  exact there b o' (neC b o e hx) e1
 ·obtain ⟨m1,e1⟩:=I.base.tbls b ps e
  obtain ⟨m2,e2⟩:=tbls b _ e1
  exact ⟨m1 ++ m2,by rw [e2,Array.append_assoc]⟩
 ·obtain ⟨m,hn,hl⟩:=I.loc
  refine ⟨m,ns m hn,λi x v e1 e2 e3=>?_⟩
  obtain ⟨u,r,l⟩:=hl i x v e1 e2 e3
  refine ⟨u,r,?_⟩
  rcases l with l | ⟨k,c,e,z⟩
  ·exact .inl l
  ·exact .inr ⟨k,c,e,cellK x c e _ z⟩
 ·obtain ⟨v,z⟩:=I.cell x c e
  exact ⟨v,cellK x c e v z⟩
 ·obtain ⟨m,⟨o,_,_,ho,_⟩,_⟩:=I.loc
  exact free _ o (λz=>(hch _ z).2.1 rfl) ho I.free
 ·obtain ⟨v,o,ho,hd⟩:=I.cell x c e
  exact free c o (λz=>(hch c z).2.2.1 x c e rfl) ho (I.freeC x c e)
 ·obtain ⟨e,n,ne,nf,d⟩:=I.pin p hp
  have nch:p.1 ∉ ch:=λz=>(hch p.1 z).2.2.2 p hp rfl
  exact ⟨keep p.1 p.2 ne nf nch e n,free p.1 p.2 nch e n,ne,nf,d⟩
theorem Inv.un (I:Inv X pins σ H s) (u:Un X.fs [] H H' s.heap h') (hok:HOk X.prog X.w H' h'):Inv X pins σ H' { s with heap:=h',toks:=t' }:=by
 obtain ⟨m,⟨o,es,ep,ho,r⟩,_⟩:=id I.loc
 obtain ⟨sl,hL⟩:=u.any ho I.free (by simp)
 exact I.step (g':=s.gens) (d':=s.drawn) (ch:=[]) (λ_ z=>nomatch z) (λb o _ hb _ e n=>u.keep b o e n hb (by simp)) (λb o _ hb _ e n=>u.slot b o e n hb (by simp)) (λb o _ e n=>u.free b o e n (by simp)) (λb o _ e=>u.there b o e (by simp)) u.tups u.frzs u.tbls (λm' hm=>by
  obtain ⟨o',es',ep',ho',r'⟩:=hm
  rw [ho] at ho'; cases ho'
  exact ⟨_,es',ep',hL,r'⟩) hok I.bare
theorem Inv.call (I:Inv X pins σ H s) (u:Un (frs X.stack) ch H H' s.heap h') (hok:HOk X.prog X.w H' h') (hg:AllBare g')
  (hch:∀ b ∈ ch,(b ∈ X.ex \/ X.s₀.heap.objs.size <= b) /\ b ≠ X.env.locals /\ (∀ x c,X.env.cells.lookup x = some c->c ≠ b) /\ ∀ p ∈ X.pn ++ pins,p.1 ≠ b) :
  Inv X pins σ H' { s with heap:=h',gens:=g',drawn:=d',toks:=t' }:=by
 obtain ⟨m,⟨o,es,ep,ho,r⟩,_⟩:=id I.loc
 obtain ⟨sl,hL⟩:=u.any ho I.free λz=>(hch _ z).2.1 rfl
 exact I.step (ch:=ch) hch (λb o hL hb hc e n=>u.keep b o e n (λz=>(mem_cons.mp (I.stkSub b z)).elim hL hb) hc) (λb o _ _ hc e n=>u.any e n hc) (λb o hc e n=>u.free b o e n hc) (λb o hc e=>u.there b o e hc) u.tups u.frzs u.tbls (λm' hm=>by
  obtain ⟨o',es',ep',ho',r'⟩:=hm
  rw [ho] at ho'; cases ho'
  exact ⟨_,es',ep',hL,r'⟩) hok hg
theorem Inv.turned (I:Inv X pins σ H s) (k:∀ b o,b ≠ it->s.heap.get? b = some o->h'.get? b = some o) (hn:H it = none) (hL:it ≠ X.env.locals)
  (h1:it ∈ X.ex \/ X.s₀.heap.objs.size <= it) (h2:∀ x c,X.env.cells.lookup x = some c->c ≠ it) (h3:∀ p ∈ X.pn ++ pins,p.1 ≠ it):Inv X pins σ H { s with heap:=h',toks:=t' }:=by
 have nit:∀ b u,H b = some u->b ≠ it:=λb u e z=>by rw [z,hn] at e; cases e
 refine I.step (g':=s.gens) (d':=s.drawn) (ch:=[it]) (λb hb=>?_) (λb o _ _ hc e _=>k b o (λz=>hc (by simp [z])) e) (λb o _ _ hc e _=>⟨o.slots,k b o (λz=>hc (by simp [z])) e⟩) (λ_ _ _ _ n=>n)
  (λb o hc e=>⟨o,k b o (λz=>hc (by simp [z])) e⟩) (λ_ _ e=>e) (λ_ _ _ e=>e) (λb ps e=>⟨#[],by rw [e]; simp⟩) (λm hm=>?_) (λb u e=>?_) I.bare
 ·have e:b = it:=by simpa using hb
  subst e
  exact ⟨h1,hL,h2,h3⟩
 ·obtain ⟨o,es,ep,ho,r⟩:=hm
  exact ⟨o,es,ep,k _ o (Ne.symm hL) ho,r⟩
 ·refine (I.hok b u e).stay (λc v hc q=>k c v ?_ q) (λ_ q=>q) λ_ _ q=>q
  rcases hc with z | z
  ·rw [z]; exact nit b u e
  ·exact nit c _ z
theorem Inv.tok (I:Inv X pins σ H s) (t:Nat):Inv X pins σ H { s with toks:=t }:=I.un (h':=s.heap) (t':=t) Un.refl I.hok
theorem Inv.kept (I:Inv X pins σ H s) (k:∀ b u,s.heap.get? b = some u->h'.get? b = some u):Inv X pins σ H { s with heap:=h',toks:=t' }:=I.un (Un.kept k) (I.hok.kept k)
theorem Inv.laid (I:Inv X pins σ H s) (k:∀ b u,s.heap.get? b = some u->h'.get? b = some u) (hp:s.heap.objs.size <= a) (new:ObjOk X.prog X.w (upd H a o) h' a o) :
  Inv X pins σ (upd H a o) { s with heap:=h',toks:=t' }:=I.un (Un.laid k hp (I.hok.fresh hp)) (I.hok.laid k hp new)
theorem Inv.write (I:Inv X pins σ H s) (mu:Mut (H x)) (he:e = x \/ H e = some (.own x)) (k:∀ b u,b ≠ e->s.heap.get? b = some u->h'.get? b = some u) (heo:∃ u,h'.get? e = some u)
  (new:ObjOk X.prog X.w (upd H x o) h' x o):Inv X pins σ (upd H x o) { s with heap:=h',toks:=t' }:=I.un (Un.write mu he k heo) (I.hok.write mu he k heo new)
theorem Inv.pins_of (I:Inv X pins σ H s) (h:∀ p ∈ pins',s.heap.get? p.1 = some p.2 /\ H p.1 = none /\ p.1 ≠ X.env.locals /\ p.1 ∉ X.fs /\ ∀ v,p.2.data ≠ .cell v):Inv X pins' σ H s :=
 ⟨I.ok,I.os,I.bare,I.base,I.loc,I.cell,I.free,I.freeC,λp hp=>(mem_append.mp hp).elim (λz=>I.pin p (mem_append_left _ z)) (h p),I.hok,I.len⟩
theorem zJp {N:List Str} (hN:N.Nodup) {i j:Nat} {x:Str} (a:N[i]? = some x) (b:N[j]? = some x):i = j:=by
 obtain ⟨h1,e1⟩:=List.getElem?_eq_some_iff.mp a
 obtain ⟨h2,e2⟩:=List.getElem?_eq_some_iff.mp b
 exact (getElem_inj hN).mp (e1.trans e2.symm)
theorem zGl {Q:Unit->Shared->Prop} (I:Inv X pins σ H s) (hN:X.N.Nodup) (hi:X.N[i]? = some x) (hx:Loc X.env.scope x) (r:RelV v u)
  (h:∀ s',Inv X pins (σ.set i (some v)) H s'->(∃ a,SameBut a s.heap s'.heap /\ (a = X.env.locals \/ X.env.cells.lookup x = some a))->Q () s') (hf:X.fn x = true \/ X.env.scope.names.lookup x = some .local:=by first | exact .inl rfl | exact .inr rfl | assumption):wpAny M A (storeName X.env x u) Q E s:=by
 obtain ⟨m,hn,hl⟩:=id I.loc
 have hcls:(X.env.scope.kind == .class || (X.env.scope.kind == .module && X.env.locals != X.env.globals)) = false:=by rw [I.ok.kind]; rfl
 have hiσ:i < σ.length:=by rw [I.len]; exact (List.getElem?_eq_some_iff.mp hi).1
 have cne:=I.cne
 have tracked:∀ {a:Addr} {h':Heap},(∃ o,s.heap.get? a = some o /\ H a = none)->SameBut a s.heap h'->HOk X.prog X.w H h':=λ{a h'} ha hs b ob e=>by
  obtain ⟨_,_,hfree⟩:=ha
  refine (I.hok b ob e).stay (λc w' hc q=>(hs.2 c ?_).trans q) (λ_ q=>q) λ_ _ q=>q
  rintro rfl
  rcases hc with rfl | hc
  ·rw [hfree] at e; cases e
  ·rw [hfree] at hc; cases hc
 rcases hx with hk | hk
 ·refine wpAny_storeName_local hk hn (λh' hn' hs=>?_) hcls
  obtain ⟨oL,_,_,hoL,_⟩:=id hn
  refine h _ ⟨I.ok,I.os,I.bare,⟨λb o e n hb hx=>?_,λb o e n hb hx=>?_,I.base.free,λb o e hx=>?_,I.base.tups,I.base.frzs,I.base.tbls⟩,⟨_,hn',λj y v' e1 e2 e3=>?_⟩,λy c e=>?_,I.free,I.freeC,λp hp=>?_,tracked ⟨oL,hoL,I.free⟩ hs,by simpa using I.len⟩ ⟨_,hs,.inl rfl⟩
  ·exact (hs.2 b (Nat.ne_of_lt (Nat.lt_of_lt_of_le (lt_size e) I.ok.above))).trans (I.base.keep b o e n hb hx)
  ·obtain ⟨sl,e1⟩:=I.base.slot b o e n hb hx
   exact ⟨sl,(hs.2 b (Nat.ne_of_lt (Nat.lt_of_lt_of_le (lt_size e) I.ok.above))).trans e1⟩
  ·obtain ⟨o',e1⟩:=I.base.there b o e hx
   exact ⟨o',(hs.2 b (Nat.ne_of_lt (Nat.lt_of_lt_of_le (lt_size e) I.ok.above))).trans e1⟩
  ·by_cases hj:j = i
   ·subst hj
    rw [hi] at e1; cases e1
    rw [getElem?_set_self hiσ] at e2
    cases e2
    exact ⟨u,r,.inl ⟨hk,by simp⟩⟩
   ·rw [getElem?_set_ne (Ne.symm hj)] at e2
    obtain ⟨u',r',q⟩:=hl j y v' e1 e2 e3
    refine ⟨u',r',?_⟩
    rcases q with ⟨k,e⟩ | ⟨k,c,e,z⟩
    ·refine .inl ⟨k,?_⟩
     have:y ≠ x:=λe=>hj (zJp hN e1 (e ▸ hi))
     simp [this,e]
    ·exact .inr ⟨k,c,e,z.sameBut hs (cne y c e)⟩
  ·obtain ⟨w',z⟩:=I.cell y c e
   exact ⟨w',z.sameBut hs (cne y c e)⟩
  ·obtain ⟨e,n,ne,nf,d⟩:=I.pin p hp
   exact ⟨(hs.2 p.1 ne).trans e,n,ne,nf,d⟩
 ·have hfn:X.fn x = true:=by
   rcases hf with z | z
   ·exact z
   ·rw [z] at hk; cases hk
  obtain ⟨c,hc⟩:=I.ok.has x (.inl hk)
  obtain ⟨w',z⟩:=I.cell x c hc
  refine wpAny_storeName_cell I.ok.kind hk hc z (λh' hc' hs=>?_)
  obtain ⟨oc,hoc,hocd⟩:=id z
  refine h { s with heap:=h' } ⟨I.ok,I.os,I.bare,⟨λb o e n hb hx=>?_,λb o e n hb hx=>?_,I.base.free,λb o e hx=>?_,I.base.tups,I.base.frzs,I.base.tbls⟩,⟨m,hn.sameBut hs (Ne.symm (cne x c hc)),λj y v' e1 e2 e3=>?_⟩,λy c' e=>?_,I.free,I.freeC,λp hp=>?_,tracked ⟨oc,hoc,I.freeC x c hc⟩ hs,by simpa using I.len⟩ ⟨c,hs,.inr hc⟩
  ·exact (hs.2 b (Nat.ne_of_lt (Nat.lt_of_lt_of_le (lt_size e) (I.ok.cab x c hfn hc)))).trans (I.base.keep b o e n hb hx)
  ·obtain ⟨sl,e1⟩:=I.base.slot b o e n hb hx
   exact ⟨sl,(hs.2 b (Nat.ne_of_lt (Nat.lt_of_lt_of_le (lt_size e) (I.ok.cab x c hfn hc)))).trans e1⟩
  ·obtain ⟨o',e1⟩:=I.base.there b o e hx
   exact ⟨o',(hs.2 b (Nat.ne_of_lt (Nat.lt_of_lt_of_le (lt_size e) (I.ok.cab x c hfn hc)))).trans e1⟩
  ·by_cases hj:j = i
   ·subst hj
    rw [hi] at e1; cases e1
    rw [getElem?_set_self hiσ] at e2
    cases e2
    exact ⟨u,r,.inr ⟨.inl hk,c,hc,hc'⟩⟩
   ·rw [getElem?_set_ne (Ne.symm hj)] at e2
    obtain ⟨u',r',q⟩:=hl j y v' e1 e2 e3
    refine ⟨u',r',?_⟩
    rcases q with q | ⟨k,c',e,z'⟩
    ·exact .inl q
    ·refine .inr ⟨k,c',e,z'.sameBut hs ?_⟩
     rintro rfl
     exact hj (zJp hN e1 (I.ok.inj _ _ _ e hc ▸ hi))
  ·by_cases hcc:c' = c
   ·subst hcc; exact ⟨_,hc'⟩
   ·obtain ⟨w2,z2⟩:=I.cell y c' e
    exact ⟨w2,z2.sameBut hs hcc⟩
  ·obtain ⟨e,n,ne,nf,d⟩:=I.pin p hp
   refine ⟨(hs.2 p.1 ?_).trans e,n,ne,nf,d⟩
   intro q
   rw [q,hoc] at e
   have q':oc = p.2:=Option.some.inj e
   exact d w' (by rw [<- q']; exact hocd)
theorem zFe {Q:Unit->Shared->Prop} (I:Inv X pins σ H s) (hN:X.N.Nodup) (hi:X.N[i]? = some x) (hx:Loc X.env.scope x) (r:RelV v u)
  (h:∀ s',Inv X pins (σ.set i (some v)) H s'->Q () s') (hf:X.fn x = true \/ X.env.scope.names.lookup x = some .local:=by first | exact .inl rfl | exact .inr rfl | assumption):wpAny M A (storeName X.env x u) Q E s :=
 zGl I hN hi hx r (λs' I' _=>h s' I') hf
theorem Inv.call' {s':Shared} (I:Inv X pins σ H s) (ho:s'.os = s.os) (u:Un (frs X.stack) ch H H' s.heap s'.heap) (hok:HOk X.prog X.w H' s'.heap) (hg:AllBare s'.gens)
  (hch:∀ b ∈ ch,(b ∈ X.ex \/ X.s₀.heap.objs.size <= b) /\ b ≠ X.env.locals /\ (∀ x c,X.env.cells.lookup x = some c->c ≠ b) /\ ∀ p ∈ X.pn ++ pins,p.1 ≠ b):Inv X pins σ H' s':=by
 obtain ⟨h',g',d',t',o'⟩:=s'
 have e:o' = s.os:=ho
 subst e
 exact I.call (g':=g') (t':=t') (d':=d') u hok hg hch
end
abbrev XK:=Value->Option Addr->Hp->Prop
abbrev St:=List (Option V)
abbrev VK:=V->Hp->Prop
abbrev TE:=St->Hp->VK->Prop
abbrev TT:=St->Hp->(Bool->Hp->Prop)->Prop
abbrev TA:=St->Hp->(List V->Hp->Prop)->Prop
structure Ends where
 nx:St->Hp->Prop
 rt:VK
 bk:St->Hp->Prop:=λ_ _=>False
 ct:St->Hp->Prop:=λ_ _=>False
abbrev TS:=Ends->St->Hp->Prop
def EP (X:Cx) (pins:List (Addr × Obj)) (σ:St) (Q:VK) (u:Value) (s':Shared):Prop:=∃ v H',Inv X pins σ H' s' /\ RelV v u /\ Q v H'
def TP (X:Cx) (pins:List (Addr × Obj)) (σ:St) (Q:Bool->Hp->Prop) (b:Bool) (s':Shared):Prop:=∃ H',Inv X pins σ H' s' /\ Q b H'
def AP (X:Cx) (pins:List (Addr × Obj)) (σ:St) (Q:List V->Hp->Prop) (us:List Value) (s':Shared):Prop:=∃ vs H',Inv X pins σ H' s' /\ Vals vs us /\ Q vs H'
def SP (X:Cx) (pins:List (Addr × Obj)) (D:Ends) (f:Flow) (s':Shared):Prop :=
 match f with
 | .next=>∃ σ' H',Inv X pins σ' H' s' /\ D.nx σ' H'
 | .brk=>∃ σ' H',Inv X pins σ' H' s' /\ D.bk σ' H'
 | .cont=>∃ σ' H',Inv X pins σ' H' s' /\ D.ct σ' H'
 | .ret u=>∃ v σ' H',Inv X pins σ' H' s' /\ RelV v u /\ D.rt v H'
def PE (X:Cx) (e:Expr) (t:TE):Prop :=
 ∀ (pins:List (Addr × Obj)) (s:Shared) (σ:St) (H:Hp) (Q:VK),Inv X pins σ H s->t σ H Q->wpAny (model X.prog X.w) X.A (eval e X.env) (EP X pins σ Q) X.xe s
def PT (X:Cx) (e:Expr) (t:TT):Prop :=
 ∀ (pins:List (Addr × Obj)) (s:Shared) (σ:St) (H:Hp) (Q:Bool->Hp->Prop),Inv X pins σ H s->t σ H Q->wpAny (model X.prog X.w) X.A (isTrue e X.env (eval e X.env)) (TP X pins σ Q) X.xe s
def PW (X:Cx) (e:Expr) (t:TT):Prop :=
 ∀ (whole:Sem Value) (pins:List (Addr × Obj)) (s:Shared) (σ:St) (H:Hp) (Q:Bool->Hp->Prop),Inv X pins σ H s->t σ H Q->wpAny (model X.prog X.w) X.A (isTrue e X.env whole) (TP X pins σ Q) X.xe s
theorem PW.pt (h:PW X e t):PT X e t:=h _
def PA (X:Cx) (es:List Expr) (t:TA):Prop :=
 ∀ (pos:Pos) (pins:List (Addr × Obj)) (s:Shared) (σ:St) (H:Hp) (Q:List V->Hp->Prop),Inv X pins σ H s->t σ H Q->wpAny (model X.prog X.w) X.A (spliced (backTo pos (starEach es X.env))) (AP X pins σ Q) X.xe s
def PS (X:Cx) (st:Stmt) (t:TS):Prop :=
 ∀ (pins:List (Addr × Obj)) (s:Shared) (σ:St) (H:Hp) (D:Ends),Inv X pins σ H s->t D σ H->wpAny (model X.prog X.w) X.A (exec st X.env) (SP X pins D) X.xe s
def PSs (X:Cx) (st:List Stmt) (t:TS):Prop :=
 ∀ (pins:List (Addr × Obj)) (s:Shared) (σ:St) (H:Hp) (D:Ends),Inv X pins σ H s->t D σ H->wpAny (model X.prog X.w) X.A (execs st X.env) (SP X pins D) X.xe s
theorem thn {α:Type} {t:Sem α} {Q Q':α->Shared->Prop} (h:wpAny M A t Q E s) (hQ:∀ a s,Q a s->Q' a s):wpAny M A t Q' E s:=wpAny_mono h hQ λ_ _ x=>x
section
variable {X:Cx}
def tVar (i:Nat):TE:=λσ H Q=>∃ v,σ[i]? = some (some v) /\ Q v H
def tC (v:V):TE:=λ_ H Q=>Q v H
theorem pe_var (hN:X.N[i]? = some x) (hv:Vis X.env.scope x) (hd:(x == ("__debug__":Str)) = false:=by decide) (hcd:(x == ("__classdict__":Str)) = false:=by decide):PE X (.Name x pos) (tVar i):=by
 intro pins s σ H Q I h
 obtain ⟨v,e,h⟩:=h
 obtain ⟨m,hn,hl⟩:=I.loc
 obtain ⟨u,r,l⟩:=hl i x v hN e hv
 have fin:EP X pins σ Q u s:=⟨v,H,I,r,h⟩
 rcases l with ⟨hk,hm⟩ | ⟨hk,c,hc,hcell⟩
 ·exact wpAny_Name (wpAny_loadName_local I.ok.kind hk hn hm fin) hd
 ·rcases hk with hk | hk
  ·exact wpAny_Name (wpAny_loadName_cell I.ok.kind hk hc hcell fin) hd
  ·exact wpAny_Name (wpAny_loadName_free I.ok.kind hk hc hcell fin hcd) hd
theorem zJ {i j pos}:PE X (.Constant (.int i) j pos) (tC (.int i)):=λ_ _ _ H _ I h=>wpAny_Constant_int ⟨.int i,H,I.tok _,⟨_,rfl⟩,h⟩
theorem zCf {b j pos}:PE X (.Constant (.bool b) j pos) (tC (.bl b)):=λ_ _ _ H _ I h=>Constant_bool ⟨.bl b,H,I,rfl,h⟩
theorem pe_non {j pos}:PE X (.Constant .none j pos) (tC .non):=λ_ _ _ H _ I h=>Constant_none ⟨.non,H,I,rfl,h⟩
theorem vR {x j pos}:PE X (.Constant (.str x) j pos) (tC (.str x)):=λ_ _ _ H _ I h=>Calls.Constant_str ⟨.str x,H,I.tok _,⟨_,rfl⟩,h⟩
def Gl (X:Cx) (x:Str):Prop:=X.env.kindOf x = some .globalImplicit
theorem zIp {Q:Value->Shared->Prop} (I:Inv X pins σ H s) (hg:Gl X x) (hm:X.mg x = some u) (h:Q u s)
  (hd:(x == ("__debug__":Str)) = false:=by decide):wpAny (model X.prog X.w) X.A (eval (.Name x pos) X.env) Q E s :=
 Calls.Name_function_global I.ok.kind hg (Calls.loadGlobal_global (by rw [I.ok.glob]; exact I.mod.glob.keeps I.bk) hm h) hd
theorem zB0 {Q:Value->Shared->Prop} (I:Inv X pins σ H s) (hg:Gl X x) (hm:X.mg x = none) (hv:bootBuiltins x = some u) (h:Q u s)
  (hn:x ≠ "__name__":=by decide) (hd:(x == ("__debug__":Str)) = false:=by decide):wpAny (model X.prog X.w) X.A (eval (.Name x pos) X.env) Q E s:=by
 obtain ⟨mb,h1,h2⟩:=I.mod.blt
 exact Calls.Name_function_global I.ok.kind hg (Calls.loadGlobal_builtin (by rw [I.ok.glob]; exact I.mod.glob.keeps I.bk) hm (by rw [I.ok.blt]; exact h1.keeps I.bk) ((h2 x hn).trans hv) h) hd
theorem zFt (hg:Gl X x) (hm:X.mg x = some u) (r:RelV v u) (hd:(x == ("__debug__":Str)) = false:=by decide):PE X (.Name x pos) (tC v) :=
 λ_ _ _ H _ I h=>zIp I hg hm ⟨v,H,I,r,h⟩ hd
theorem vY (hg:Gl X x) (hm:X.mg x = none) (hv:bootBuiltins x = some u) (r:RelV v u) (hn:x ≠ "__name__":=by decide) (hd:(x == ("__debug__":Str)) = false:=by decide):PE X (.Name x pos) (tC v) :=
 λ_ _ _ H _ I h=>zB0 I hg hm hv ⟨v,H,I,r,h⟩ hn hd
variable {a b:Expr} {ta tb:TE} {pos:Pos}
def PC (X:Cx) (op:CmpOp) (a b:Expr) (t:TE):Prop :=
 ∀ (pins:List (Addr × Obj)) (s:Shared) (σ:St) (H:Hp) (Q:VK),Inv X pins σ H s->t σ H Q ->
  wpAny (model X.prog X.w) X.A (eval a X.env) (λv s₁=>wpAny (model X.prog X.w) X.A (eval b X.env) (λu s₂=>wpAny (model X.prog X.w) X.A (compareOp op v u) (EP X pins σ Q) X.xe s₂) X.xe s₁) X.xe s
theorem zJq (b:Expr) (h:op ≠ .In) (h2:op ≠ .NotIn):behindInMarks op b = false:=by
 have e1:(op == CmpOp.In) = false:=by cases op <;> first | rfl | exact absurd rfl h
 have e2:(op == CmpOp.NotIn) = false:=by cases op <;> first | rfl | exact absurd rfl h2
 cases b <;> simp [behindInMarks,e1,e2]
def tIsN (ta:TE):TE:=λσ H Q=>ta σ H λx H1=>Q (.bl (decide (x = .non))) H1
def tNotN (ta:TE):TE:=λσ H Q=>ta σ H λx H1=>Q (.bl (!decide (x = .non))) H1
theorem RelV.none_iff (r:RelV x v):(v == Value.none) = decide (x = .non):=by
 cases x with
 | non=>cases r; rfl
 | bl _=>cases r; rfl
 | int _=>obtain ⟨t,rfl⟩:=r; rfl
 | str _=>obtain ⟨t,rfl⟩:=r; rfl
 | byt _=>obtain ⟨t,rfl⟩:=r; rfl
 | flt _=>obtain ⟨t,rfl⟩:=r; rfl
 | ref _=>cases r; rfl
 | ty _=>cases r; rfl
theorem zG1 {j pos'} (ha:PE X a ta):PC X .Is a (.Constant .none j pos') (tIsN ta):=by
 intro pins s σ H Q I h
 refine thn (ha pins s σ H _ I h) λv s1 ⟨x,H1,I1,r1,q1⟩=>?_
 exact Constant_none (is_none_gen ⟨.bl _,H1,I1,by rw [r1.none_iff]; rfl,q1⟩)
theorem zFu {j pos'} (ha:PE X a ta):PC X .IsNot a (.Constant .none j pos') (tNotN ta):=by
 intro pins s σ H Q I h
 refine thn (ha pins s σ H _ I h) λv s1 ⟨x,H1,I1,r1,q1⟩=>?_
 exact Constant_none (isnot_none_gen ⟨.bl _,H1,I1,by rw [r1.none_iff]; rfl,q1⟩)
def tB (t:TE):TT:=λσ H Q=>t σ H λx H1=>∃ c,x = .bl c /\ Q c H1
theorem zQ4 (h:PC X op a b t) (h1:behindInMarks op b = false:=by first | exact zJq _ (by decide) (by decide) | rfl):PE X (.Compare a [op] [b] pos) t:=λpins s σ H Q I hw=>wpAny_Compare1 (h pins s σ H Q I hw) h1
theorem zBw (h:PC X op a b t) (h1:behindInMarks op b = false:=by first | exact zJq _ (by decide) (by decide) | rfl):PT X (.Compare a [op] [b] pos) (tB t):=by
 intro pins s σ H Q I hw
 refine wpAny_isTrue_Compare1 (thn (h pins s σ H _ I hw) λv s1 h1=>thn h1 λu s2 h2=>thn h2 λc s3 ⟨x,H1,I1,r1,q1⟩=>?_) h1
 obtain ⟨d,rfl,q⟩:=q1
 cases r1
 exact wpAny_truthy_bool ⟨H1,I1,q⟩
theorem zAh (h:PE X e t) (he:∀ whole,isTrue e X.env whole = (do let v <- whole; standAt e.pos; holding [v] (truthy v)):=by intro _; rfl):PT X e (tB t):=by
 intro pins s σ H Q I hw
 refine isTrue_plain (thn (h pins s σ H _ I hw) λv s1 ⟨x,H1,I1,r1,q1⟩=>?_) (he _)
 obtain ⟨d,rfl,q⟩:=q1
 cases r1
 exact wpAny_truthy_bool ⟨H1,I1,q⟩
variable {tA tB':TT} {rest:List Expr}
def tAnd (t u:TT):TT:=λσ H Q=>t σ H λc H1=>if c = true then u σ H1 Q else Q false H1
def tOr (t u:TT):TT:=λσ H Q=>t σ H λc H1=>if c = true then Q true H1 else u σ H1 Q
def tNot (t:TT):TT:=λσ H Q=>t σ H λc H1=>Q (!c) H1
theorem pw_and1 (ha:PT X a tA):PW X (.BoolOp .And [a] pos) tA:=by
 intro wh pins s σ H Q I h
 refine isTrue_and (thn (ha pins s σ H Q I h) λc s1 e=>?_)
 cases c with
 | true=>exact isTrue_and_nil e
 | false=>exact e
theorem pw_or1 (ha:PT X a tA):PW X (.BoolOp .Or [a] pos) tA:=by
 intro wh pins s σ H Q I h
 refine isTrue_or (thn (ha pins s σ H Q I h) λc s1 e=>?_)
 cases c with
 | false=>exact isTrue_or_nil e
 | true=>exact e
theorem pw_and (ha:PT X a tA) (hb:PW X (.BoolOp .And (b :: rest) pos) tB'):PW X (.BoolOp .And (a :: b :: rest) pos) (tAnd tA tB'):=by
 intro wh pins s σ H Q I h
 refine isTrue_and (thn (ha pins s σ H _ I h) λc s1 ⟨H1,I1,q1⟩=>?_)
 cases c with
 | true=>exact hb wh pins s1 σ H1 Q I1 q1
 | false=>exact ⟨H1,I1,q1⟩
theorem pw_or (ha:PT X a tA) (hb:PW X (.BoolOp .Or (b :: rest) pos) tB'):PW X (.BoolOp .Or (a :: b :: rest) pos) (tOr tA tB'):=by
 intro wh pins s σ H Q I h
 refine isTrue_or (thn (ha pins s σ H _ I h) λc s1 ⟨H1,I1,q1⟩=>?_)
 cases c with
 | true=>exact ⟨H1,I1,q1⟩
 | false=>exact hb wh pins s1 σ H1 Q I1 q1
theorem zAi (ha:PT X a tA):PT X (.UnaryOp .Not a pos) (tNot tA):=by
 intro pins s σ H Q I h
 exact isTrue_not (ha pins s σ H (λc H1=>Q (!c) H1) I h)
def tAndV (ta tb:TE):TE:=λσ H Q=>ta σ H λx H1=>∃ c,x = .bl c /\ if c = true then tb σ H1 Q else Q (.bl false) H1
def tNotV (ta:TE):TE:=λσ H Q=>ta σ H λx H1=>∃ c,x = .bl c /\ Q (.bl (!c)) H1
theorem zEq {op} (h:PE X a t):PE X (.BoolOp op [a] pos) t:=λpins s σ H Q I hw=>BoolOp_one (h pins s σ H Q I hw)
theorem zDm (ha:PE X a ta) (hb:PE X (.BoolOp .And (b :: rest) pos) tb):PE X (.BoolOp .And (a :: b :: rest) pos) (tAndV ta tb):=by
 intro pins s σ H Q I h
 refine BoolOp_and (thn (ha pins s σ H _ I h) λv s1 ⟨x,H1,I1,r1,q1⟩=>?_)
 obtain ⟨c,rfl,q1⟩:=q1
 cases r1
 refine wpAny_truthy_bool ?_
 cases c with
 | true=>exact hb pins s1 σ H1 Q I1 q1
 | false=>exact ⟨.bl false,H1,I1,rfl,q1⟩
theorem zQ1 (ha:PE X a ta):PE X (.UnaryOp .Not a pos) (tNotV ta):=by
 intro pins s σ H Q I h
 refine UnaryOp_ (thn (ha pins s σ H _ I h) λv s1 ⟨x,H1,I1,r1,q1⟩=>?_)
 obtain ⟨c,rfl,q1⟩:=q1
 cases r1
 exact not_of (wpAny_truthy_bool ⟨.bl (!c),H1,I1,rfl,q1⟩)
def tIf (t:TT) (ta tb:TE):TE:=λσ H Q=>t σ H λc H1=>if c = true then ta σ H1 Q else tb σ H1 Q
theorem zJl (hc:PT X c tA) (ha:PE X a ta) (hb:PE X b tb):PE X (.IfExp c a b pos) (tIf tA ta tb):=by
 intro pins s σ H Q I h
 refine wpAny_IfExp (thn (hc pins s σ H _ I h) λd s1 ⟨H1,I1,q1⟩=>?_)
 cases d with
 | true=>exact ha pins s1 σ H1 Q I1 q1
 | false=>exact hb pins s1 σ H1 Q I1 q1
end
def SqL (K:PySem.W.Frag) (H:Hp) (a:Addr) (xs:List V):Prop :=
 Rd H a (.lst xs) \/
  ∃ (o:Obj) (its:Array Value) (n:Nat),K.lookup a = some o /\ o.cls = .type "list" /\ o.dict = none /\ o.data = .seq its n /\ its.size <= sizeLine /\ Vals xs its.toList
def SqT (K:PySem.W.Frag) (H:Hp) (a:Addr) (xs:List V):Prop :=
 Rd H a (.tup xs) \/
  ∃ (o:Obj) (its:Array Value) (n:Nat),K.lookup a = some o /\ o.cls = .type "tuple" /\ o.data = .seq its n /\ its.size <= sizeLine /\ Vals xs its.toList
def absV:Value->Option V
 | .none=>some .non
 | .bool b=>some (.bl b)
 | .int i _=>some (.int i)
 | .str x _=>some (.str x)
 | .bytes b _=>some (.byt b)
 | .float b _=>some (.flt b)
 | .ref a=>some (.ref a)
 | .type n=>some (.ty n)
 | _=>none
theorem RelV.abs (r:RelV x u):absV u = some x:=by
 cases x with
 | non=>cases r; rfl
 | bl _=>cases r; rfl
 | int _=>obtain ⟨t,rfl⟩:=r; rfl
 | str _=>obtain ⟨t,rfl⟩:=r; rfl
 | byt _=>obtain ⟨t,rfl⟩:=r; rfl
 | flt _=>obtain ⟨t,rfl⟩:=r; rfl
 | ref _=>cases r; rfl
 | ty _=>cases r; rfl
theorem RelV.inj (r:RelV x u) (q:RelV y u):x = y:=Option.some.inj (r.abs.symm.trans q.abs)
theorem Vals.inj:∀ {xs ys:List V} {us:List Value},Vals xs us->Vals ys us->xs = ys
 | _,_,_,.nil,.nil=>rfl
 | _,_,_,.cons r t,.cons r' t'=>by rw [r.inj r',Vals.inj t t']
section
variable {X:Cx} {pins:List (Addr × Obj)} {σ:St} {H:Hp} {s:Shared} {a:Addr} {xs ys:List V}
theorem SqL.of {K:PySem.W.Frag} (h:H a = some (.lst xs)):SqL K H a xs:=.inl (.inl h)
theorem SqT.of {K:PySem.W.Frag} (h:H a = some (.tup xs)):SqT K H a xs:=.inl (.inl h)
theorem Inv.list (I:Inv X pins σ H s) (h:SqL X.K H a xs):∃ its:List Value,Vals xs its /\ PlainL s.heap a its.toArray /\ xs.length <= sizeLine:=by
 rcases h with h | ⟨o,its,n,hk,hc,hd,hs,hz,r⟩
 ·obtain ⟨z,its,n,r,e⟩:=h.ok I.hok
  exact ⟨its,r,⟨_,n,e,rfl,rfl,rfl⟩,z⟩
 ·refine ⟨its.toList,r,⟨o,n,I.kIn a o hk,hc,hd,by simpa using hs⟩,?_⟩
  have e:=r.length
  simp only [length_toList] at e
  omega
theorem Inv.tuple (I:Inv X pins σ H s) (h:SqT X.K H a xs):∃ its:List Value,Vals xs its /\ IsTup s.heap a its.toArray /\ xs.length <= sizeLine:=by
 rcases h with h | ⟨o,its,n,hk,hc,hs,hz,r⟩
 ·obtain ⟨z,its,r,p⟩:=h.ok I.hok
  exact ⟨its,r,p,z⟩
 ·refine ⟨its.toList,r,⟨o,I.kIn a o hk,hc,n,by simpa using hs⟩,?_⟩
  have e:=r.length
  simp only [length_toList] at e
  omega
theorem Inv.list_inj (I:Inv X pins σ H s) (h:SqL X.K H a xs) (h':SqL X.K H a ys):xs = ys:=by
 obtain ⟨its,r,⟨o,n,e,_,_,d⟩,_⟩:=I.list h
 obtain ⟨its',r',⟨o',n',e',_,_,d'⟩,_⟩:=I.list h'
 rw [e] at e'; cases e'
 rw [d] at d'
 injection d' with d1 _
 have:its = its':=by simpa using congrArg Array.toList d1
 subst this
 exact r.inj r'
end
abbrev Cx.wish (X:Cx) (E:Value->Shared->Prop):Cx:={ X with xe:=E }
abbrev Cx.nox (X:Cx):Cx:=X.wish λ_ _=>False
theorem Cx.Ok.wish {X:Cx} (ok:X.Ok) (E:Value->Shared->Prop):(X.wish E).Ok :=
 ⟨ok.mod,ok.kind,ok.glob,ok.blt,ok.above,ok.inj,ok.has,ok.cab,ok.hd,ok.frames,ok.stk,ok.exf,ok.bs,ok.bsz,ok.noex,ok.exfs,ok.funs,ok.frf⟩
theorem Cx.Ok.unwish {X:Cx} (ok:(X.wish E).Ok):X.Ok :=
 ⟨ok.mod,ok.kind,ok.glob,ok.blt,ok.above,ok.inj,ok.has,ok.cab,ok.hd,ok.frames,ok.stk,ok.exf,ok.bs,ok.bsz,ok.noex,ok.exfs,ok.funs,ok.frf⟩
section
variable {X:Cx} {pins:List (Addr × Obj)} {σ:St} {H:Hp} {s:Shared} {E:Value->Shared->Prop}
theorem Inv.wish (I:Inv X pins σ H s) (E:Value->Shared->Prop):Inv (X.wish E) pins σ H s:=⟨I.ok.wish E,I.os,I.bare,I.base,I.loc,I.cell,I.free,I.freeC,I.pin,I.hok,I.len⟩
theorem Inv.unwish (I:Inv (X.wish E) pins σ H s):Inv X pins σ H s:=⟨I.ok.unwish,I.os,I.bare,I.base,I.loc,I.cell,I.free,I.freeC,I.pin,I.hok,I.len⟩
theorem SP.unwish (h:SP (X.wish E) pins D f s'):SP X pins D f s':=by
 cases f with
 | next=>obtain ⟨σ',H',I,q⟩:=h; exact ⟨σ',H',I.unwish,q⟩
 | brk=>obtain ⟨σ',H',I,q⟩:=h; exact ⟨σ',H',I.unwish,q⟩
 | cont=>obtain ⟨σ',H',I,q⟩:=h; exact ⟨σ',H',I.unwish,q⟩
 | ret u=>obtain ⟨v,σ',H',I,r,q⟩:=h; exact ⟨v,σ',H',I.unwish,r,q⟩
theorem PSs.nox {st:List Stmt} {t:TS} (h:PSs X.nox st t):PSs X st t:=λpins s σ H D I hw =>
 wpAny_mono (h pins s σ H D (I.wish _) hw) (λ_ _ q=>q.unwish) λ_ _ z=>False.elim z
end
section
variable {X:Cx} {st:Stmt} {rest:List Stmt} {t u:TS} {e:Expr} {te:TE} {pos:Pos}
def zLs:TS:=λD σ H=>D.nx σ H
def tSeq (t u:TS):TS:=λD σ H=>t { D with nx:=u D } σ H
theorem zH:PSs X [] zLs:=λ_ _ σ H _ I h=>wpAny_execs_nil ⟨σ,H,I,h⟩
theorem zC (h1:PS X st t) (h2:PSs X rest u):PSs X (st :: rest) (tSeq t u):=by
 intro pins s σ H D I h
 refine wpAny_execs_cons (thn (h1 pins s σ H { D with nx:=u D } I h) λf s1 q=>?_)
 cases f with
 | next =>
  obtain ⟨σ',H',I',q⟩:=q
  exact h2 pins s1 σ' H' D I' q
 | ret v=>exact q
 | brk=>exact q
 | cont=>exact q
theorem zFr (h1:PS X st t):PSs X [st] t:=by
 intro pins s σ H D I h
 refine wpAny_execs_cons (thn (h1 pins s σ H D I h) λf s1 q=>?_)
 cases f with
 | next=>exact wpAny_execs_nil q
 | ret v=>exact q
 | brk=>exact q
 | cont=>exact q
theorem Inv.quiet (I:Inv X pins σ H s):interactive X.env = false:=by simp [interactive,I.ok.kind]
def zEf (te:TE):TS:=λD σ H=>te σ H λ_ H1=>D.nx σ H1
theorem yJ (he:PE X e te) (hs:swapsWith e none pos.line X.env = pure false:=by rfl):PS X (.Expr e pos) (zEf te):=by
 intro pins s σ H D I h
 exact wpAny_Expr_any (thn (he pins s σ H _ I h) λv s1 ⟨x,H1,I1,r1,q1⟩=>⟨σ,H1,I1,q1⟩) I.quiet hs
def tRet (te:TE):TS:=λD σ H=>te σ H D.rt
theorem yB (he:PE X e te):PS X (.Return (some e) pos) (tRet te):=by
 intro pins s σ H D I h
 exact wpAny_Return_some (thn (he pins s σ H _ I h) λv s1 ⟨x,H1,I1,r1,q1⟩=>⟨x,σ,H1,I1,r1,q1⟩)
def tIfS (c:TT) (t u:TS):TS:=λD σ H=>c σ H λb H1=>if b = true then t D σ H1 else u D σ H1
theorem xW (hc:PT X c tc) (ha:PSs X a t) (hb:PSs X b u):PS X (.If c a b pos) (tIfS tc t u):=by
 intro pins s σ H D I h
 refine wpAny_If (thn (hc pins s σ H _ I h) λd s1 ⟨H1,I1,q1⟩=>?_)
 cases d with
 | true=>exact ha pins s1 σ H1 D I1 q1
 | false=>exact hb pins s1 σ H1 D I1 q1
def zQp:TS:=λ_ _ _=>False
theorem uQ:PSs X sts zQp:=λ_ _ _ _ _ _ h=>h.elim
end
abbrev TG:=V->St->Hp->(St->Hp->Prop)->Prop
abbrev TGs:=List V->St->Hp->(St->Hp->Prop)->Prop
def PG (X:Cx) (target:Expr) (t:TG):Prop :=
 ∀ (pins:List (Addr × Obj)) (s:Shared) (σ:St) (H:Hp) (v:V) (u:Value) (Q:St->Hp->Prop),Inv X pins σ H s->RelV v u->t v σ H Q ->
  wpAny (model X.prog X.w) X.A (assign target X.env u) (λ_ s'=>∃ σ' H',Inv X pins σ' H' s' /\ Q σ' H') X.xe s
def PGs (X:Cx) (ts:List Expr) (t:TGs):Prop :=
 ∀ (pins:List (Addr × Obj)) (s:Shared) (σ:St) (H:Hp) (vs:List V) (us:List Value) (Q:St->Hp->Prop),Inv X pins σ H s->Vals vs us->t vs σ H Q ->
  wpAny (model X.prog X.w) X.A (assignInOrder ((assignEach ts X.env).map (·.2)) us) (λ_ s'=>∃ σ' H',Inv X pins σ' H' s' /\ Q σ' H') X.xe s
abbrev TSet:=V->V->V->Hp->(Hp->Prop)->Prop
def PSet (X:Cx) (t:TSet):Prop :=
 ∀ (pins:List (Addr × Obj)) (s:Shared) (σ:St) (H:Hp) (o i v:V) (ov iv u:Value) (Q:Hp->Prop),Inv X pins σ H s->RelV o ov->RelV i iv->RelV v u->t o i v H Q ->
  wpAny (model X.prog X.w) X.A (setItem ov iv u) (λ_ s'=>∃ H',Inv X pins σ H' s' /\ Q H') X.xe s
abbrev TIp:=V->V->Hp->VK->Prop
def PIp (X:Cx) (op:Operator) (t:TIp):Prop :=
 ∀ (pins:List (Addr × Obj)) (s:Shared) (σ:St) (H:Hp) (x y:V) (v u:Value) (Q:VK),Inv X pins σ H s->RelV x v->RelV y u->t x y H Q ->
  wpAny (model X.prog X.w) X.A (inplaceOp op v u) (EP X pins σ Q) X.xe s
section
variable {X:Cx} {pos:Pos}
def zAd (i:Nat):TG:=λv σ H Q=>Q (σ.set i (some v)) H
theorem yL (hN:X.N.Nodup) (hi:X.N[i]? = some x) (hx:Loc X.env.scope x) (hf:X.fn x = true \/ X.env.scope.names.lookup x = some .local:=by first | exact .inl rfl | exact .inr rfl | assumption):PG X (.Name x pos) (zAd i):=by
 intro pins s σ H v u Q I r h
 exact wpAny_assign_Name (zFe I hN hi hx r (λs' I'=>⟨_,H,I',h⟩) hf)
def gNil:TGs:=λvs σ H Q=>vs = [] /\ Q σ H
def gCons (t:TG) (u:TGs):TGs:=λvs σ H Q=>∃ v r,vs = v :: r /\ t v σ H λσ' H'=>u r σ' H' Q
theorem wC:PGs X [] gNil:=by
 intro pins s σ H vs us Q I r h
 obtain ⟨e,h⟩:=h
 subst e
 cases r
 exact assignInOrder_nil ⟨σ,H,I,h⟩
theorem zW (h1:PG X e t) (h2:PGs X es u)
  (hs:(assignEach (e :: es) X.env).map (·.2) = assign e X.env :: (assignEach es X.env).map (·.2):=by rfl):PGs X (e :: es) (gCons t u):=by
 intro pins s σ H vs us Q I r h
 obtain ⟨v,vr,e1,h⟩:=h
 subst e1
 cases r with
 | cons r rr =>
  rw [hs]
  refine assignInOrder_cons (thn (h1 pins s σ H _ _ _ I r h) λ_ s1 ⟨σ1,H1,I1,q1⟩=>?_)
  exact h2 pins s1 σ1 H1 _ _ Q I1 rr q1
def gTup (K:PySem.W.Frag) (n:Nat) (t:TGs):TG:=λv σ H Q=>∃ a xs,v = .ref a /\ SqT K H a xs /\ xs.length = n /\ t xs σ H Q
theorem zAt (hc:X.calm = true) (h:PGs X es t)
  (hn:(assignEach es X.env).length = n:=by rfl) (hst:(assignEach es X.env).findIdx? (·.1) = none:=by rfl):PG X (.Tuple es k pos) (gTup X.K n t):=by
 intro pins s σ H v u Q I r hw
 obtain ⟨a,xs,e1,hq,hl,hw⟩:=hw
 subst e1
 cases r
 obtain ⟨its,rv,ht,hz⟩:=I.tuple hq
 refine assign_Tuple_tuple (I.ok.hd hc) ht (by simp [hn,<- hl,rv.length]) hst λh' hx=>?_
 have I1:Inv X pins σ H { s with heap:=h' }:=I.kept (t':=s.toks) λb o e=>hx b o (Nat.ne_of_lt (lt_size e)) e
 exact h pins _ σ H xs _ Q I1 (by simpa using rv) hw
def gSub (to ti:TE) (t:TSet):TG:=λv σ H Q=>to σ H λo H1=>ti σ H1 λi H2=>t o i v H2 λH3=>Q σ H3
theorem pg_sub (ho:PE X o to) (hi:PE X i ti) (hs:PSet X t)
  (ha:∀ v,assign (.Subscript o i pos) X.env v = (do
   let ov <- holding [v] (eval o X.env)
   let iv <- holding [v,ov] (eval i X.env)
   standAt pos
   holding [v,ov,iv] (setItem ov iv v)
   release [v,ov,iv] []):=by intro _; rfl):PG X (.Subscript o i pos) (gSub to ti t):=by
 intro pins s σ H v u Q I r h
 rw [ha]
 refine wpAny_bind (wpAny_holding (thn (ho pins s σ H _ I h) λov s1 ⟨x,H1,I1,r1,q1⟩=>?_))
 refine wpAny_bind (wpAny_holding (thn (hi pins s1 σ H1 _ I1 q1) λiv s2 ⟨y,H2,I2,r2,q2⟩=>?_))
 refine wpAny_bind (wpAny_standAt (wpAny_bind (wpAny_holding (thn (hs pins s2 σ H2 x y v ov iv u _ I2 r1 r2 r q2) λ_ s3 ⟨H3,I3,q3⟩=>?_))))
 exact wpAny_release ⟨σ,H3,I3,q3⟩
def tAsg (te:TE) (g:TG):TS:=λD σ H=>te σ H λx H1=>g x σ H1 D.nx
theorem zG0 (he:PE X e te) (hg:PG X tg g) (hs:swapsWithSole [tg] e pos.line X.env = pure false:=by rfl) (hw:swappedStores [tg] e X.env = pure none:=by rfl)
  (h1:(assignEach [tg] X.env).map (·.2) = [assign tg X.env]:=by rfl):PS X (.Assign [tg] e pos) (tAsg te g):=by
 intro pins s σ H D I h
 refine wpAny_Assign_stores (thn (he pins s σ H _ I h) λv s1 ⟨x,H1,I1,r1,q1⟩=>?_) hs hw
 rw [h1]
 exact thn (hg pins s1 σ H1 x v _ I1 r1 q1) λ_ s2 q=>q
theorem zMh (hN:X.N.Nodup) (hi:X.N[i]? = some x) (hx:Loc X.env.scope x) (he:PE X e te) (hs:swapsWith e (some (.Name x pos')) pos.line X.env = pure false:=by rfl) (hf:X.fn x = true \/ X.env.scope.names.lookup x = some .local:=by first | exact .inl rfl | exact .inr rfl | assumption) :
  PS X (.Assign [.Name x pos'] e pos) (tAsg te (zAd i)):=by
 intro pins s σ H D I h
 refine wpAny_Assign_Name (thn (he pins s σ H _ I h) λv s1 ⟨y,H1,I1,r1,q1⟩=>?_) hs
 exact zFe I1 hN hi hx r1 (λs2 I2=>⟨_,H1,I2,q1⟩) hf
def tAug (i:Nat) (te:TE) (ti:TIp):TS:=λD σ H=>∃ x,σ[i]? = some (some x) /\ te σ H λy H1=>ti x y H1 λz H2=>D.nx (σ.set i (some z)) H2
theorem ps_aug (hN:X.N.Nodup) (hi:X.N[i]? = some x) (hx:Loc X.env.scope x) (he:PE X e te) (ho:PIp X op ti) (hf:X.fn x = true \/ X.env.scope.names.lookup x = some .local:=by first | exact .inl rfl | exact .inr rfl | assumption) :
  PS X (.AugAssign (.Name x pos') op e pos) (tAug i te ti):=by
 intro pins s σ H D I h
 obtain ⟨v,e1,h⟩:=h
 obtain ⟨m,hn,hl⟩:=I.loc
 have vis:Vis X.env.scope x:=by rcases hx with k | k; exact .inl k; exact .inr (.inl k)
 obtain ⟨u,r,l⟩:=hl i x v hi e1 vis
 refine wpAny_AugAssign_Name ?_
 have go:wpAny (model X.prog X.w) X.A (eval e X.env) (λw s₂=>wpAny (model X.prog X.w) X.A (inplaceOp op u w) (λr s₃=>wpAny (model X.prog X.w) X.A (storeName X.env x r) (λ_=>SP X pins D .next) X.xe s₃) X.xe s₂) X.xe s:=by
  refine thn (he pins s σ H _ I h) λw s1 ⟨y,H1,I1,r1,q1⟩=>?_
  refine thn (ho pins s1 σ H1 v y u w _ I1 r r1 q1) λz s2 ⟨zv,H2,I2,r2,q2⟩=>?_
  exact zFe I2 hN hi hx r2 (λs3 I3=>⟨_,H2,I3,q2⟩) hf
 rcases l with ⟨hk,hm⟩ | ⟨hk,c,hc,hcell⟩
 ·exact wpAny_loadName_local I.ok.kind hk hn hm go
 ·rcases hk with hk | hk
  ·exact wpAny_loadName_cell I.ok.kind hk hc hcell go
  ·rcases hx with k | k
   ·have:X.env.scope.names.lookup x = some .free:=hk
    rw [k] at this; cases this
   ·have:X.env.scope.names.lookup x = some .free:=hk
    rw [k] at this; cases this
def tAugS (to ti te:TE) (tget:V->V->Hp->VK->Prop) (tip:TIp) (tset:TSet):TS:=λD σ H=>to σ H λo H1=>ti σ H1 λi H2=>tget o i H2 λx H3=>te σ H3 λy H4=>tip x y H4 λz H5=>tset o i z H5 λH6=>D.nx σ H6
def PGet (X:Cx) (t:V->V->Hp->VK->Prop):Prop :=
 ∀ (pins:List (Addr × Obj)) (s:Shared) (σ:St) (H:Hp) (o i:V) (ov iv:Value) (Q:VK),Inv X pins σ H s->RelV o ov->RelV i iv->t o i H Q ->
  wpAny (model X.prog X.w) X.A (getItem ov iv) (EP X pins σ Q) X.xe s
theorem ps_augS (ho:PE X o to) (hi:PE X i ti) (hg:PGet X tget) (he:PE X e te) (hp:PIp X op tip) (hs:PSet X tset)
  (ha:∀ ov iv new,augStore i ov iv new = (do holding [new,ov,iv] (setItem ov iv new); release [new,ov,iv] []; pure .next):=by intros; rfl):PS X (.AugAssign (.Subscript o i tpos) op e pos) (tAugS to ti te tget tip tset):=by
 intro pins s σ H D I h
 refine wpAny_AugAssign_SubscriptAny (thn (ho pins s σ H _ I h) λov s1 ⟨x1,H1,I1,r1,q1⟩=>?_) ha
 refine thn (hi pins s1 σ H1 _ I1 q1) λiv s2 ⟨x2,H2,I2,r2,q2⟩=>?_
 refine thn (hg pins s2 σ H2 x1 x2 ov iv _ I2 r1 r2 q2) λold s3 ⟨x3,H3,I3,r3,q3⟩=>?_
 refine thn (he pins s3 σ H3 _ I3 q3) λv s4 ⟨x4,H4,I4,r4,q4⟩=>?_
 refine thn (hp pins s4 σ H4 x3 x4 old v _ I4 r3 r4 q4) λnew s5 ⟨x5,H5,I5,r5,q5⟩=>?_
 exact thn (hs pins s5 σ H5 x1 x2 x5 ov iv new _ I5 r1 r2 r5 q5) λ_ s6 ⟨H6,I6,q6⟩=>⟨σ,H6,I6,q6⟩
def ipI (f:Int->Int->Int):TIp:=λx y H Q=>∃ i j,x = .int i /\ y = .int j /\ Q (.int (f i j)) H
theorem ip_add:PIp X .Add (ipI λi j=>i + j):=by
 intro pins s σ H x y v u Q I r1 r2 h
 obtain ⟨i,j,e1,e2,q⟩:=h
 subst e1; subst e2
 obtain ⟨t,rfl⟩:=r1
 obtain ⟨t',rfl⟩:=r2
 exact iadd_int ⟨.int _,H,I.tok _,⟨_,rfl⟩,q⟩
theorem ip_sub:PIp X .Sub (ipI λi j=>i - j):=by
 intro pins s σ H x y v u Q I r1 r2 h
 obtain ⟨i,j,e1,e2,q⟩:=h
 subst e1; subst e2
 obtain ⟨t,rfl⟩:=r1
 obtain ⟨t',rfl⟩:=r2
 exact isub_int ⟨.int _,H,I.tok _,⟨_,rfl⟩,q⟩
end
section
variable {X:Cx} {pos:Pos}
def zQn (c:TT) (tb:TS):TS:=λD σ H=>∃ W:Nat->St->Hp->Prop,(∃ m,W m σ H) /\ ∀ m σ H,W m σ H ->
 c σ H λb H1=>if b = true then ∃ N:St->Hp->Prop,(∀ σ' H',N σ' H'->∃ m',m' < m /\ W m' σ' H') /\ tb { D with nx:=N,ct:=N,bk:=D.nx } σ H1 else D.nx σ H1
theorem zPh (hp:PassesOwn (model X.prog X.w) X.A X.env X.xe) (hc:PT X c tc) (hb:PSs X body tb):PS X (.While c body [] pos) (zQn tc tb):=by
 intro pins s σ H D I h
 obtain ⟨W,⟨m0,w0⟩,turn⟩:=h
 refine wpAny_While (codeAny_whileLoop (λn s'=>∃ σ' H',Inv X pins σ' H' s' /\ W n σ' H') ?_ m0 ⟨σ,H,I,w0⟩)
 rintro n s1 ⟨σ1,H1,I1,w1⟩
 refine wpAny_passesOwn hp (thn (hc pins s1 σ1 H1 _ I1 (turn n σ1 H1 w1)) λb s2 ⟨H2,I2,q2⟩=>?_)
 cases b with
 | true =>
  obtain ⟨N,hN,q2⟩:=q2
  rw [if_pos rfl]
  refine wpAny_passesOwn hp (thn (hb pins s2 σ1 H2 _ I2 q2) λf s3 q3=>?_)
  cases f with
  | next =>
   obtain ⟨σ3,H3,I3,n3⟩:=q3
   obtain ⟨m',hm,w3⟩:=hN σ3 H3 n3
   exact ⟨m',hm,σ3,H3,I3,w3⟩
  | cont =>
   obtain ⟨σ3,H3,I3,n3⟩:=q3
   obtain ⟨m',hm,w3⟩:=hN σ3 H3 n3
   exact ⟨m',hm,σ3,H3,I3,w3⟩
  | brk=>exact q3
  | ret v=>exact q3
 | false =>
  rw [if_neg Bool.false_ne_true]
  exact wpAny_execs_nil ⟨σ1,H2,I2,q2⟩
end
structure It where
 go:Nat->Hp->Prop
 yld:Nat->Hp->V->Hp->Prop
 stop:Nat->Hp->Prop
def FpOk (X:Cx) (pins:List (Addr × Obj)) (H:Hp) (b:Addr):Prop :=
 H b = none /\ b ≠ X.env.locals /\ b ∉ X.fs /\ (b ∈ X.ex \/ X.s₀.heap.objs.size <= b) /\ (∀ x c,X.env.cells.lookup x = some c->c ≠ b) /\ ∀ p ∈ X.pn ++ pins,p.1 ≠ b
theorem Inv.fpOk (I:Inv X pins σ H s) (hb:s.heap.objs.size <= b) (hn:H' b = none):FpOk X pins H' b:=by
 refine ⟨hn,Nat.ne_of_gt (Nat.lt_of_lt_of_le I.lt hb),I.nofs hb,.inr (Nat.le_trans I.sz hb),λx c e z=>?_,λp hp z=>?_⟩
 ·obtain ⟨v,q⟩:=I.cell x c e
  exact absurd (Nat.lt_of_lt_of_le q.lt (by rw [z]; exact hb)) (Nat.lt_irrefl _)
 ·exact absurd (Nat.lt_of_lt_of_le (lt_size (I.pin p hp).1) (by rw [z]; exact hb)) (Nat.lt_irrefl _)
structure Turn (P:Program) (w:World) (K:PySem.W.Frag) (tg:Expr) (J:It) (fp:List Addr) (it:Addr) (tn:Nat->Heap->Prop):Prop where
 mem:it ∈ fp
 obj:∀ i h,tn i h->∀ b ∈ fp,∃ o,h.get? b = some o /\ ∀ v,o.data ≠ .cell v
 keep:∀ i h h',tn i h->(∀ b ∈ fp,∀ o,h.get? b = some o->h'.get? b = some o)->tn i h'
 item:∀ (X:Cx),X.prog = P->X.w = w->X.K = K->X.calm = true->∀ (i:Nat) (pins:List (Addr × Obj)) (s:Shared) (σ:St) (H:Hp) (E:Value->Shared->Prop),Inv X pins σ H s->(∀ b ∈ fp,FpOk X pins H b)->tn i s.heap->J.go i H ->
  wpAny (model P w) X.A (pyNext (.ref it)) (λr s1=>∃ u,r = some u /\
   wpAny (model P w) X.A (letOwnedTupleGo tg (.ref it) u) (λ_ s2=>∃ x H',Inv X pins σ H' s2 /\ RelV x u /\ J.yld i H x H' /\ tn (i + 1) s2.heap /\ ∀ b ∈ fp,H' b = none) E s1) E s
 done:∀ (X:Cx),X.prog = P->X.w = w->X.K = K->X.calm = true->∀ (i:Nat) (pins:List (Addr × Obj)) (s:Shared) (σ:St) (H:Hp) (E:Value->Shared->Prop),Inv X pins σ H s->(∀ b ∈ fp,FpOk X pins H b)->tn i s.heap->J.stop i H ->
  wpAny (model P w) X.A (pyNext (.ref it)) (λr s1=>r = none /\ Inv X pins σ H s1) E s
 self:∀ (A:Around) (i:Nat) (s:Shared) (Q:Value->Shared->Prop) (E:Value->Shared->Prop),tn i s.heap->Q (.ref it) s->wpAny (model P w) A (pyIter (.ref it)) Q E s
abbrev TI:=St->Hp->(It->Hp->Prop)->Prop
def PIE (X:Cx) (pins:List (Addr × Obj)) (σ:St) (tg:Expr) (R:It->Hp->Prop) (itv:Value) (s2:Shared):Prop :=
 ∃ (it:Addr) (fp:List Addr) (tn:Nat->Heap->Prop) (J:It) (H':Hp),itv = .ref it /\ Inv X pins σ H' s2 /\ Turn X.prog X.w X.K tg J fp it tn /\ tn 0 s2.heap /\ (∀ b ∈ fp,FpOk X pins H' b) /\ R J H'
def PI (X:Cx) (tg iter:Expr) (wi:TI):Prop :=
 ∀ (pins:List (Addr × Obj)) (s:Shared) (σ:St) (H:Hp) (R:It->Hp->Prop),Inv X pins σ H s->wi σ H R ->
  wpAny (model X.prog X.w) X.A (eval iter X.env) (λv s1=>wpAny (model X.prog X.w) X.A (pyIter v) (PIE X pins σ tg R) X.xe s1) X.xe s
theorem zP0 {s:Shared} {Q:Unit->Shared->Prop} (ho:s.heap.get? it = some o) (hc:o.cls = .type n) (hd:o.data = .fields vs)
  (hn:["enumerate","zip","dict_itemiterator","dict_reverseitemiterator","odict_iterator","itertools.zip_longest","itertools.pairwise"].contains n = false) (hQ:Q () s):wpAny M A (letOwnedTupleGo tg (.ref it) u) Q E s:=by
 unfold letOwnedTupleGo
 cases tg <;> first
  | exact wpAny_pure hQ
  | (cases u <;> first
    | exact wpAny_pure hQ
    | (refine wpAny_bind (wpAny_load ho ?_)
       rw [hc,hd]
       show wpAny M A (if (["enumerate","zip","dict_itemiterator","dict_reverseitemiterator","odict_iterator","itertools.zip_longest","itertools.pairwise"].contains n && vs[0]? == some (rawInt _)) = true then _ else _) Q E s
       rw [if_neg (by intro h; rw [hn,Bool.false_and] at h; cases h)]
       exact wpAny_pure hQ))
def Itl (K:PySem.W.Frag) (a:Addr):It :=
 ⟨λi H=>∃ xs x,SqL K H a xs /\ xs[i]? = some x,λi H x H'=>H' = H /\ ∀ xs,SqL K H a xs->xs[i]? = some x,λi H=>∃ xs,SqL K H a xs /\ xs.length <= i⟩
def Itr (lo:Int) (n:Nat):It:=⟨λi _=>i < n,λi H x H'=>H' = H /\ x = .int (lo + i),λi _=>n <= i⟩
theorem zLq {P:Program} {w:World} {K:PySem.W.Frag} {tg:Expr} (a it:Addr):Turn P w K tg (Itl K a) [it] it (λi h=>h.IsListIter it a i) where
 mem:=by simp
 obj:=λi h st b hb=>by
  have e:b = it:=by simpa using hb
  subst e
  obtain ⟨o,e,c,d⟩:=st
  exact ⟨o,e,λv z=>by rw [d] at z; cases z⟩
 keep:=λi h h' st k=>st.at λo e=>k it (by simp) o e
 item:=by
  intro X hP hw hK hc i pins s σ H E I hf st hg
  subst hP hw hK
  obtain ⟨xs,x,hq,hx⟩:=hg
  obtain ⟨its,rv,p,hz⟩:=I.list hq
  obtain ⟨u,hu,ru⟩:=rv.get hx
  obtain ⟨f0,f1,f2,f3,f4,f5⟩:=hf it (by simp)
  refine wpAny_pyNext_list_item st p.isList (x:=u) (by simpa using hu) λh' st' sb=>?_
  have I1:Inv X pins σ H { s with heap:=h' }:=I.turned (t':=s.toks) (λb o hb e=>(sb.2 b hb).trans e) f0 f1 f3 f4 f5
  obtain ⟨o,e,c,d⟩:=id st'
  exact ⟨u,rfl,zP0 (s:={ s with heap:=h' }) e c d (by decide) ⟨x,H,I1,ru,⟨rfl,λys hy=>by rw [I.list_inj hy hq]; exact hx⟩,st',λb hb=>(hf b hb).1⟩⟩
 done:=by
  intro X hP hw hK hc i pins s σ H E I hf st hg
  subst hP hw hK
  obtain ⟨xs,hq,hx⟩:=hg
  obtain ⟨its,rv,p,hz⟩:=I.list hq
  obtain ⟨f0,f1,f2,f3,f4,f5⟩:=hf it (by simp)
  have hl:=rv.length
  exact wpAny_pyNext_list_end (I.ok.hd hc) st p.isList (by simp; omega) λh' eb=>⟨rfl,I.turned (t':=s.toks) (λb o hb e=>eb b o hb e) f0 f1 f3 f4 f5⟩
 self:=λ_ _ _ _ _ st h=>wpAny_pyIter_listiter st h
theorem zKf {P:Program} {w:World} {K:PySem.W.Frag} {tg:Expr} (it:Addr) (lo:Int) (n:Nat):Turn P w K tg (Itr lo n) [it] it (λi h=>IsRangeIter h it (lo + (i:Nat) * 1) ((n:Int) - (i:Nat)) 1) where
 mem:=by simp
 obj:=λi h st b hb=>by
  have e:b = it:=by simpa using hb
  subst e
  exact ⟨_,st,λv z=>by
   have z':Data.fields _ = Data.cell v:=z
   cases z'⟩
 keep:=λi h h' st k=>k it (by simp) _ st
 item:=by
  intro X hP hw hK hc i pins s σ H E I hf st hg
  subst hP hw hK
  obtain ⟨f0,f1,f2,f3,f4,f5⟩:=hf it (by simp)
  have W:=Walks.range (prog:=X.prog) (w:=X.w) (I.ok.hd hc) it lo 1 n
  refine W.item i s _ _ hg st λv h' tk hv st' kk=>?_
  obtain ⟨t,rfl⟩:=hv
  have I1:Inv X pins σ H { s with heap:=h',toks:=tk }:=I.turned (λb o hb e=>kk b o (by simpa using hb) e) f0 f1 f3 f4 f5
  refine ⟨_,rfl,zP0 (s:={ s with heap:=h',toks:=tk }) (n:="range_iterator") st' rfl rfl (by decide) ⟨.int (lo + i),H,I1,⟨t,?_⟩,⟨rfl,rfl⟩,st',λb hb=>(hf b hb).1⟩⟩
  rw [Int.mul_one]
 done:=by
  intro X hP hw hK hc i pins s σ H E I hf st hg
  subst hP hw hK
  obtain ⟨f0,f1,f2,f3,f4,f5⟩:=hf it (by simp)
  exact wpAny_pyNext_range_end (I.ok.hd hc) st (by have:n <= i:=hg; omega) λh' eb=>⟨rfl,I.turned (t':=s.toks) (λb o hb e=>eb b o hb e) f0 f1 f3 f4 f5⟩
 self:=λ_ _ _ _ _ st h=>wpAny_pyIter_rangeiter st h
section
variable {X:Cx} {tg:Expr}
def zK1 (K:PySem.W.Frag) (tl:TE):TI:=λσ H R=>tl σ H λx H1=>∃ a,x = .ref a /\ (∃ xs,SqL K H1 a xs) /\ R (Itl K a) H1
theorem zH9 (hl:PE X l tl):PI X tg l (zK1 X.K tl):=by
 intro pins s σ H R I h
 refine thn (hl pins s σ H _ I h) λv s1 ⟨x,H1,I1,r1,q1⟩=>?_
 obtain ⟨a,e,⟨xs,hq⟩,q⟩:=q1
 subst e
 cases r1
 obtain ⟨its,rv,p,hz⟩:=I1.list hq
 refine wpAny_pyIter_list p.isList ?_
 refine ⟨s1.heap.objs.size,[s1.heap.objs.size],_,_,H1,rfl,I1.kept (t':=s1.toks) λb o e=>get?_push_of_some _ e,zLq a _,⟨_,get?_push_size _ rfl,rfl,rfl⟩,λb hb=>?_,q⟩
 have e:b = s1.heap.objs.size:=by simpa using hb
 subst e
 exact I1.fpOk (Nat.le_refl _) (I1.hok.fresh (Nat.le_refl _))
theorem zPf {pins:List (Addr × Obj)} {σ:St} {H:Hp} {s:Shared} {R:It->Hp->Prop} {E:Value->Shared->Prop} {lo hi:Int} {t u v:Tok} {tk:Nat} (I:Inv X pins σ H s) (h1:-(2 ^ 62) <= lo) (h2:lo < 2 ^ 62) (h3:-(2 ^ 62) <= hi) (h4:hi < 2 ^ 62)
  (q:R (Itr lo (hi - lo).toNat) H):wpAny (model X.prog X.w) X.A (pyIter (.ref s.heap.objs.size)) (PIE X pins σ tg R) E { s with heap:=s.heap.push { cls:=.type "range",data:=.fields #[.int lo t,.int hi u,.int 1 v] },toks:=tk }:=by
 refine wpAny_pyIter_range (IsRange.new ..) (small_one h1 h2 h3 h4) ?_
 have I1:Inv X pins σ H { s with heap:=s.heap.push { cls:=.type "range",data:=.fields #[.int lo t,.int hi u,.int 1 v] },toks:=tk }:=I.kept λb o e=>get?_push_of_some _ e
 refine ⟨(s.heap.push { cls:=.type "range",data:=.fields #[.int lo t,.int hi u,.int 1 v] }).objs.size,[(s.heap.push { cls:=.type "range",data:=.fields #[.int lo t,.int hi u,.int 1 v] }).objs.size],_,_,H,rfl,
  I1.kept (t':=tk) λb o e=>get?_push_of_some _ e,zKf _ lo (hi - lo).toNat,?_,λb hb=>?_,q⟩
 ·have e1:lo + ((0:Nat):Int) * 1 = lo:=by simp
  have e2:(((hi - lo).toNat:Nat):Int) - ((0:Nat):Int) = Builtin.Range.rangeSize lo hi 1:=by rw [rangeSize_one]; split <;> omega
  show IsRangeIter _ _ (lo + ((0:Nat):Int) * 1) ((((hi - lo).toNat:Nat):Int) - ((0:Nat):Int)) 1
  rw [e1,e2]
  exact get?_push_size _ rfl
 ·have e:b = (s.heap.push { cls:=.type "range",data:=.fields #[.int lo t,.int hi u,.int 1 v] }).objs.size:=by simpa using hb
  subst e
  exact I1.fpOk (Nat.le_refl _) (I1.hok.fresh (Nat.le_refl _))
def iRng1 (ta:TA):TI:=λσ H R=>ta σ H λvs H1=>∃ j:Int,vs = [.int j] /\ -(2 ^ 62) <= j /\ j < 2 ^ 62 /\ R (Itr 0 j.toNat) H1
theorem xR (hg:Gl X "range") (hm:X.mg "range" = none) (ha:PA X [a] ta) (hs:starEach [a] X.env = [(false,eval a X.env)]:=by rfl):PI X tg (.Call (.Name "range" p) [a] [] pos) (iRng1 ta):=by
 intro pins s σ H R I h
 refine Call_ (zB0 I hg hm boot_range (PyProof.Rows.callWith_type1 (thn (ha pos pins s σ H _ I h) λus s1 ⟨vs,H1,I1,r1,q1⟩=>?_) hs rfl))
 obtain ⟨j,e,q1,q2,q⟩:=q1
 subst e
 cases r1 with
 | cons r rr =>
  cases rr
  obtain ⟨t,rfl⟩:=r
  exact call_range_1 (zPf I1 (by omega) (by omega) q1 q2 (by simpa using q))
def tFor (wi:TI) (g:TG) (tb:TS):TS:=λD σ H=>wi σ H λJ H1=>∃ W:Nat->Nat->St->Hp->Prop,(∃ m,W 0 m σ H1) /\ ∀ i m σ H,W i m σ H ->
 (J.stop i H /\ D.nx σ H) \/ (J.go i H /\ ∃ N:St->Hp->Prop,(∀ σ' H',N σ' H'->∃ m',m' < m /\ W (i + 1) m' σ' H') /\ ∀ x H',J.yld i H x H'->g x σ H' λσ2 H2=>tb { D with nx:=N,ct:=N,bk:=D.nx } σ2 H2)
def zEp (fp:List Addr) (h:Heap):List (Addr × Obj):=fp.filterMap λb=>(h.get? b).map λo=>(b,o)
theorem uV {h:Heap} (hb:b ∈ fp) (e:h.get? b = some o):(b,o) ∈ zEp fp h:=List.mem_filterMap.mpr ⟨b,hb,by rw [e]; rfl⟩
theorem zMv (hp:p ∈ zEp fp h):p.1 ∈ fp /\ h.get? p.1 = some p.2:=by
 obtain ⟨b,hb,e⟩:=List.mem_filterMap.mp hp
 cases q:h.get? b with
 | none=>rw [q] at e; cases e
 | some o =>
  rw [q] at e
  have e':(b,o) = p:=Option.some.inj e
  subst e'
  exact ⟨hb,q⟩
theorem Inv.pinned (I:Inv X pins σ H s) (hf:∀ b ∈ fp,FpOk X pins H b) (ho:∀ b ∈ fp,∃ o,s.heap.get? b = some o /\ ∀ v,o.data ≠ .cell v):Inv X (pins ++ zEp fp s.heap) σ H s :=
 I.pins_of λp hp=>(mem_append.mp hp).elim (λz=>I.pin p (mem_append_right _ z)) λz=>by
  obtain ⟨hb,e⟩:=zMv z
  obtain ⟨f0,f1,f2,_⟩:=hf p.1 hb
  obtain ⟨o,e',d⟩:=ho p.1 hb
  rw [e] at e'; cases e'
  exact ⟨e,f0,f1,f2,d⟩
theorem Inv.unpinned (I:Inv X (pins ++ pl) σ H s):Inv X pins σ H s:=I.pins_of λp hp=>I.pin p (mem_append_right _ (mem_append_left _ hp))
theorem xQ (hp:PassesOwn (model X.prog X.w) X.A X.env X.xe) (hc:X.calm = true) (hi:PI X tg iter wi) (hg:PG X tg g) (hb:PSs X body tb)
  (hs:∀ x,foldedSetIterable iter X.env x = pure x:=by intro _; rfl):PS X (.For tg iter body [] pos) (tFor wi g tb):=by
 intro pins s σ H D I h
 refine wpAny_For (thn (hi pins s σ H _ I h) λv s1 h1=>thn h1 λitv s2 h2=>?_) hs
 obtain ⟨it,fp,tn,J,H2,e,I2,T,st2,f2,W,⟨m0,w0⟩,turn⟩:=h2
 subst e
 have stat:∀ {H':Hp},(∀ b ∈ fp,H' b = none)->∀ b ∈ fp,FpOk X pins H' b:=λhn b hb=>⟨hn b hb,(f2 b hb).2⟩
 refine codeAny_forLoop_any (λn s'=>∃ i σ' H',Inv X pins σ' H' s' /\ tn i s'.heap /\ (∀ b ∈ fp,H' b = none) /\ W i n σ' H') ?_ m0 ⟨0,σ,H2,I2,st2,λb hb=>(f2 b hb).1,w0⟩
 rintro n s3 ⟨i,σ3,H3,I3,st3,fr3,w3⟩
 rcases turn i n σ3 H3 w3 with ⟨stop,qn⟩ | ⟨go,N,hN,step⟩
 ·refine wpAny_passesOwn hp (thn (T.done X rfl rfl rfl hc i pins s3 σ3 H3 X.xe I3 (stat fr3) st3 stop) λr s4 ⟨hr,I4⟩=>?_)
  subst hr
  exact wpAny_execs_nil ⟨σ3,H3,I4,qn⟩
 ·refine wpAny_passesOwn hp (thn (T.item X rfl rfl rfl hc i pins s3 σ3 H3 X.xe I3 (stat fr3) st3 go) λr s4 ⟨u,hr,h4⟩=>?_)
  subst hr
  refine wpAny_passesOwn hp (thn h4 λ_ s5 ⟨x,H5,I5,r5,y5,st5,fr5⟩=>?_)
  have I5':=I5.pinned (stat fr5) (T.obj _ _ st5)
  refine wpAny_passesOwn hp (thn (hg _ s5 σ3 H5 x u _ I5' r5 (step x H5 y5)) λ_ s6 ⟨σ6,H6,I6,q6⟩=>?_)
  refine wpAny_passesOwn hp (thn (hb _ s6 σ6 H6 _ I6 q6) λf s7 q7=>?_)
  have again:∀ {σ7:St} {H7:Hp},Inv X (pins ++ zEp fp s5.heap) σ7 H7 s7->N σ7 H7->∃ m,m < n /\ ∃ i σ' H',Inv X pins σ' H' s7 /\ tn i s7.heap /\ (∀ b ∈ fp,H' b = none) /\ W i m σ' H':=λ{σ7 H7} I7 n7=>by
   obtain ⟨m',hm,w7⟩:=hN σ7 H7 n7
   refine ⟨m',hm,i + 1,σ7,H7,I7.unpinned,T.keep _ _ _ st5 λb hb o e=>(I7.pin (b,o) (mem_append_right _ (mem_append_right _ (uV hb e)))).1,λb hb=>?_,w7⟩
   obtain ⟨o,e,d⟩:=T.obj _ _ st5 b hb
   exact (I7.pin (b,o) (mem_append_right _ (mem_append_right _ (uV hb e)))).2.1
  cases f with
  | next=>obtain ⟨σ7,H7,I7,n7⟩:=q7; exact again I7 n7
  | cont=>obtain ⟨σ7,H7,I7,n7⟩:=q7; exact again I7 n7
  | brk=>obtain ⟨σ7,H7,I7,q7⟩:=q7; exact ⟨σ7,H7,I7.unpinned,q7⟩
  | ret v=>obtain ⟨x7,σ7,H7,I7,r7,q7⟩:=q7; exact ⟨x7,σ7,H7,I7.unpinned,r7,q7⟩
end
theorem zP2 {K:PySem.W.Frag} {a:Addr} {xs:List V} {g:TG} {tb:TS} {D:Ends} {σ:St} {H:Hp} (Pv:Nat->St->Hp->Prop) (h0:Pv 0 σ H) (hl:∀ i σ H,i <= xs.length->Pv i σ H->SqL K H a xs)
  (hs:∀ i x σ H,xs[i]? = some x->Pv i σ H->g x σ H λσ2 H2=>tb { D with nx:=Pv (i + 1),ct:=Pv (i + 1),bk:=D.nx } σ2 H2) (hd:∀ σ H,Pv xs.length σ H->D.nx σ H) :
  ∃ W:Nat->Nat->St->Hp->Prop,(∃ m,W 0 m σ H) /\ ∀ i m σ H,W i m σ H ->
   ((Itl K a).stop i H /\ D.nx σ H) \/ ((Itl K a).go i H /\ ∃ N:St->Hp->Prop,(∀ σ' H',N σ' H'->∃ m',m' < m /\ W (i + 1) m' σ' H') /\ ∀ x H',(Itl K a).yld i H x H'->g x σ H' λσ2 H2=>tb { D with nx:=N,ct:=N,bk:=D.nx } σ2 H2):=by
 refine ⟨λi m σ H=>m = xs.length - i /\ i <= xs.length /\ Pv i σ H,⟨xs.length,by simp,Nat.zero_le _,h0⟩,?_⟩
 rintro i m σ H ⟨rfl,hi,p⟩
 have q:=hl i σ H hi p
 by_cases hlt:i < xs.length
 ·refine .inr ⟨⟨xs,xs[i],q,by simp [hlt]⟩,Pv (i + 1),λσ' H' p'=>⟨xs.length - (i + 1),by omega,rfl,hlt,p'⟩,λx H' y=>?_⟩
  obtain ⟨e,y⟩:=y
  subst e
  exact hs i x σ _ (y xs q) p
 ·have e:i = xs.length:=by omega
  subst e
  exact .inl ⟨⟨xs,q,Nat.le_refl _⟩,hd σ H p⟩
abbrev R2:=V->V->Hp->VK->Prop
def OpR (X:Cx) (f:Value->Value->Sem Value) (r:R2):Prop :=
 ∀ (pins:List (Addr × Obj)) (s:Shared) (σ:St) (H:Hp) (x y:V) (v u:Value) (Q:VK),Inv X pins σ H s->RelV x v->RelV y u->r x y H Q ->
  wpAny (model X.prog X.w) X.A (f v u) (EP X pins σ Q) X.xe s
def UnR (X:Cx) (f:Value->Sem Value) (r:V->Hp->VK->Prop):Prop :=
 ∀ (pins:List (Addr × Obj)) (s:Shared) (σ:St) (H:Hp) (x:V) (v:Value) (Q:VK),Inv X pins σ H s->RelV x v->r x H Q ->
  wpAny (model X.prog X.w) X.A (f v) (EP X pins σ Q) X.xe s
def zBu (X:Cx) (f:Value) (r:List V->Hp->VK->Prop):Prop :=
 ∀ (pins:List (Addr × Obj)) (s:Shared) (σ:St) (H:Hp) (xs:List V) (us:List Value) (Q:VK),Inv X pins σ H s->Vals xs us->r xs H Q ->
  wpAny (model X.prog X.w) X.A (call f us) (EP X pins σ Q) X.xe s
def tOp (r:R2) (ta tb:TE):TE:=λσ H Q=>ta σ H λx H1=>tb σ H1 λy H2=>r x y H2 Q
def tUn (r:V->Hp->VK->Prop) (ta:TE):TE:=λσ H Q=>ta σ H λx H1=>r x H1 Q
def rI (C:Int->Int->Prop) (g:Int->Int->V):R2:=λx y H Q=>∃ i j,x = .int i /\ y = .int j /\ C i j /\ Q (g i j) H
def rI0 (g:Int->Int->V):R2:=λx y H Q=>∃ i j,x = .int i /\ y = .int j /\ Q (g i j) H
def rU (g:Int->V):V->Hp->VK->Prop:=λx H Q=>∃ i,x = .int i /\ Q (g i) H
section
variable {X:Cx} {a b c:Expr} {ta tb tc:TE} {pos:Pos}
theorem binT (ha:PE X a ta) (hb:PE X b tb) {R:V->V->Hp->Prop} (I:Inv X pins σ H s)
  (h:ta σ H λx H1=>tb σ H1 λy H2=>R x y H2) {f:Value->Value->Sem Value}
  (hf:∀ v u s2 x y H2,Inv X pins σ H2 s2->RelV x v->RelV y u->R x y H2->wpAny (model X.prog X.w) X.A (f v u) Q X.xe s2) :
  wpAny (model X.prog X.w) X.A (eval a X.env) (λv s₁=>wpAny (model X.prog X.w) X.A (eval b X.env) (λu s₂=>wpAny (model X.prog X.w) X.A (f v u) Q X.xe s₂) X.xe s₁) X.xe s:=by
 refine thn (ha pins s σ H _ I h) λv s1 ⟨x,H1,I1,r1,q1⟩=>?_
 refine thn (hb pins s1 σ H1 _ I1 q1) λu s2 ⟨y,H2,I2,r2,q2⟩=>?_
 exact hf v u s2 x y H2 I2 r1 r2 q2
theorem zV (ho:OpR X (binaryOp op) r) (ha:PE X a ta) (hb:PE X b tb):PE X (.BinOp a op b pos) (tOp r ta tb):=by
 intro pins s σ H Q I h
 exact wpAny_BinOp (binT ha hb I h λv u s2 x y H2 I2 rx ry q=>ho pins s2 σ H2 x y v u Q I2 rx ry q)
theorem pe_un (ho:UnR X (unaryOp op) r) (ha:PE X a ta):PE X (.UnaryOp op a pos) (tUn r ta):=by
 intro pins s σ H Q I h
 exact UnaryOp_ (thn (ha pins s σ H _ I h) λv s1 ⟨x,H1,I1,r1,q1⟩=>ho pins s1 σ H1 x v Q I1 r1 q1)
theorem opI {f:Value->Value->Sem Value} {C:Int->Int->Prop} {g:Int->Int->Int}
  (rule:∀ (i j:Int) (t u:Tok) (s:Shared) (Q:Value->Shared->Prop) (E:Value->Shared->Prop),C i j->Q (.int (g i j) s.toks) { s with toks:=s.toks + 1 }->wpAny (model X.prog X.w) X.A (f (.int i t) (.int j u)) Q E s) :
  OpR X f (rI C λi j=>.int (g i j)):=by
 intro pins s σ H x y v u Q I rx ry h
 obtain ⟨i,j,rfl,rfl,hc,q⟩:=h
 obtain ⟨t,rfl⟩:=rx
 obtain ⟨t',rfl⟩:=ry
 exact rule i j t t' s _ _ hc ⟨.int (g i j),H,I.tok _,⟨_,rfl⟩,q⟩
theorem opI0 {f:Value->Value->Sem Value} {g:Int->Int->Int}
  (rule:∀ (i j:Int) (t u:Tok) (s:Shared) (Q:Value->Shared->Prop) (E:Value->Shared->Prop),Q (.int (g i j) s.toks) { s with toks:=s.toks + 1 }->wpAny (model X.prog X.w) X.A (f (.int i t) (.int j u)) Q E s) :
  OpR X f (rI0 λi j=>.int (g i j)):=by
 intro pins s σ H x y v u Q I rx ry h
 obtain ⟨i,j,rfl,rfl,q⟩:=h
 obtain ⟨t,rfl⟩:=rx
 obtain ⟨t',rfl⟩:=ry
 exact rule i j t t' s _ _ ⟨.int (g i j),H,I.tok _,⟨_,rfl⟩,q⟩
theorem opB0 {f:Value->Value->Sem Value} {g:Int->Int->Bool}
  (rule:∀ (i j:Int) (t u:Tok) (s:Shared) (Q:Value->Shared->Prop) (E:Value->Shared->Prop),Q (.bool (g i j)) s->wpAny (model X.prog X.w) X.A (f (.int i t) (.int j u)) Q E s) :
  OpR X f (rI0 λi j=>.bl (g i j)):=by
 intro pins s σ H x y v u Q I rx ry h
 obtain ⟨i,j,rfl,rfl,q⟩:=h
 obtain ⟨t,rfl⟩:=rx
 obtain ⟨t',rfl⟩:=ry
 exact rule i j t t' s _ _ ⟨.bl (g i j),H,I,rfl,q⟩
def CDiv (i j:Int):Prop:=0 < j /\ j < 1073741824
def CPow (i j:Int):Prop:=0 <= j /\ j <= 1000000 /\ i.natAbs < 2 ^ 64
def CMul (i j:Int):Prop:=(-(2 ^ 64) < i /\ i < 2 ^ 64) \/ (-(2 ^ 64) < j /\ j < 2 ^ 64)
theorem CMul.ok (h:CMul i j):IntMulOk i j:=by
 rcases h with ⟨h1,h2⟩ | ⟨h1,h2⟩
 ·exact .of_left (intBits_le_64 h1 h2)
 ·exact .of_right (intBits_le_64 h1 h2)
theorem uC:OpR X (binaryOp .Add) (rI0 λi j=>.int (i + j)):=opI0 λ_ _ _ _ _ _ _ q=>add_int q
theorem zMp:OpR X (binaryOp .Mult) (rI CMul λi j=>.int (i * j)):=opI λ_ _ _ _ _ _ _ hc q=>mul_int q hc.ok
theorem yT:OpR X (binaryOp .FloorDiv) (rI CDiv λi j=>.int (i / j)):=opI λi j _ _ _ _ _ hc q=>by
 have h1:(0:Int) < j:=hc.1
 have h2:j < 1073741824:=hc.2
 exact floordiv_int (by omega) (by rw [Int.fdiv_eq_ediv_of_nonneg i (by omega)]; exact q) (.inl (PyProof.noPylong_small (by omega)))
theorem yU:OpR X (binaryOp .Mod) (rI (λ_ j=>0 < j) λi j=>.int (i % j)):=opI λi j _ _ _ _ _ hc q=>by
 have h1:(0:Int) < j:=hc
 exact mod_int' (by omega) (by rw [Int.fmod_eq_emod_of_nonneg i (by omega)]; exact q)
theorem op_pow:OpR X (binaryOp .Pow) (rI CPow λi j=>.int (i ^ j.toNat)):=opI λ_ _ _ _ _ _ _ hc q=>pow_int_small hc.1 hc.2.1 hc.2.2 q
theorem unI {f:Value->Sem Value} {g:Int->Int}
  (rule:∀ (i:Int) (t:Tok) (s:Shared) (Q:Value->Shared->Prop) (E:Value->Shared->Prop),Q (.int (g i) s.toks) { s with toks:=s.toks + 1 }->wpAny (model X.prog X.w) X.A (f (.int i t)) Q E s) :
  UnR X f (rU λi=>.int (g i)):=by
 intro pins s σ H x v Q I rx h
 obtain ⟨i,rfl,q⟩:=h
 obtain ⟨t,rfl⟩:=rx
 exact rule i t s _ _ ⟨.int (g i),H,I.tok _,⟨_,rfl⟩,q⟩
theorem un_neg:UnR X (unaryOp .USub) (rU λi=>.int (-i)):=unI λ_ _ _ _ _ q=>neg_int q
end
section
variable {X:Cx} {a b c:Expr} {ta tb tc:TE} {pos:Pos}
theorem fin_bl (I:Inv X pins σ H s) (q:Q (.bl k) H) (e:k = k'):EP X pins σ Q (.bool k') s:=by
 subst e
 exact ⟨.bl k,H,I,rfl,q⟩
theorem zIc:OpR X (compareOp .Lt) (rI0 λi j=>.bl (decide (i < j))):=opB0 λ_ _ _ _ _ _ _ q=>lt_int q
theorem op_le:OpR X (compareOp .LtE) (rI0 λi j=>.bl (decide (i <= j))):=opB0 λ_ _ _ _ _ _ _ q=>le_int q
theorem op_gt:OpR X (compareOp .Gt) (rI0 λi j=>.bl (decide (j < i))):=opB0 λ_ _ _ _ _ _ _ q=>gt_int q
theorem zMq:OpR X (compareOp .In) (λx y H Q=>∃ i j,x = .str i /\ y = .str j /\ Q (.bl (!(Builtin.Str.occurrences j i 0 j.length 1).isEmpty)) H):=by
 intro pins s σ H x y v u Q I rx ry h
 obtain ⟨i,j,rfl,rfl,q⟩:=h
 obtain ⟨t,rfl⟩:=rx
 obtain ⟨t',rfl⟩:=ry
 exact in_str (fin_bl I q rfl)
theorem yR (b:Expr) (h:op ≠ .In:=by decide) (h2:op ≠ .NotIn:=by decide):behindInMarks op b = false:=by
 have e1:(op == CmpOp.In) = false:=by cases op <;> first | rfl | exact absurd rfl h
 have e2:(op == CmpOp.NotIn) = false:=by cases op <;> first | rfl | exact absurd rfl h2
 cases b <;> simp [behindInMarks,e1,e2]
theorem uN (ho:OpR X (compareOp op) r) (ha:PE X a ta) (hb:PE X b tb) (hm:behindInMarks op b = false):PE X (.Compare a [op] [b] pos) (tOp r ta tb):=by
 intro pins s σ H Q I h
 exact wpAny_Compare1 (binT ha hb I h λv u s2 x y H2 I2 rx ry q=>ho pins s2 σ H2 x y v u Q I2 rx ry q) hm
def tTest (t:TE):TT:=λσ H Q=>t σ H λx H'=>∃ k,x = .bl k /\ Q k H'
theorem zX (ho:OpR X (compareOp op) r) (ha:PE X a ta) (hb:PE X b tb) (hm:behindInMarks op b = false):PT X (.Compare a [op] [b] pos) (tTest (tOp r ta tb)):=by
 intro pins s σ H Q I h
 refine wpAny_isTrue_Compare1 (thn (ha pins s σ H _ I h) λv s1 ⟨x,H1,I1,r1,q1⟩=>thn (hb pins s1 σ H1 _ I1 q1) λu s2 ⟨y,H2,I2,r2,q2⟩ =>
  thn (ho pins s2 σ H2 x y v u _ I2 r1 r2 q2) λc s3 ⟨z,H3,I3,r3,k,e,q3⟩=>?_) hm
 subst e
 cases r3
 exact wpAny_truthy_bool ⟨H3,I3,q3⟩
def zQr (r r':R2) (ta tb tc:TE):TE:=λσ H Q=>ta σ H λx H1=>tb σ H1 λy H2=>r x y H2 λz H3=>∃ k,z = .bl k /\
 (if k = true then tc σ H3 λw' H4=>r' y w' H4 Q else Q (.bl false) H3)
theorem zJn (ho:OpR X (compareOp op) r) (ho':OpR X (compareOp op') r') (ha:PE X a ta) (hb:PE X b tb) (hc:PE X c tc)
  (hm:lastMarks [op,op'] [b,c] = false:=by with_unfolding_all rfl):PE X (.Compare a [op,op'] [b,c] pos) (zQr r r' ta tb tc):=by
 intro pins s σ H Q I h
 refine Compare_chain (thn (ha pins s σ H _ I h) λv s1 ⟨x,H1,I1,r1,q1⟩=>chain_link (thn (hb pins s1 σ H1 _ I1 q1) λu s2 ⟨y,H2,I2,r2,q2⟩ =>
  thn (ho pins s2 σ H2 x y v u _ I2 r1 r2 q2) λd s3 ⟨z,H3,I3,r3,k,e,q3⟩=>?_)) hm
 subst e
 cases r3
 refine wpAny_truthy_bool ?_
 cases k with
 | false=>exact ite_ff ⟨.bl false,H3,I3,rfl,q3⟩
 | true=>exact ite_tt (chain_last (thn (hc pins s3 σ H3 _ I3 q3) λw' s4 ⟨z',H4,I4,r4,q4⟩=>ho' pins s4 σ H4 y z' u w' Q I4 r2 r4 q4))
theorem zEv:(sizeLine:Nat) < 2 ^ 63:=by rw [sizeLine_eq]; decide
theorem zKo:OpR X (binaryOp .Add) (λx y H Q=>∃ i j,x = .str i /\ y = .str j /\ i.length + j.length <= sizeLine /\ Q (.str (i ++ j)) H):=by
 intro pins s σ H x y v u Q I rx ry h
 obtain ⟨i,j,rfl,rfl,hz,q⟩:=h
 obtain ⟨t,rfl⟩:=rx
 obtain ⟨t',rfl⟩:=ry
 exact add_str (λt' tk=>⟨.str (i ++ j),H,I.tok _,⟨_,rfl⟩,q⟩) hz
def zJ8 (b:Expr):Prop:=∀ o i,subscripted b false o i = operate [o,i] (getItem o i)
theorem zIa (ha:PE X a ta) (hb:PE X b tb) (hs:zJ8 b) :
  PE X (.Subscript a b pos) (tOp (λx y H Q=>∃ z i c,x = .str z /\ y = .int i /\ 0 <= i /\ i < 2 ^ 63 /\ i < z.length /\ z.cps[i.toNat]? = some c /\ Q (.str ⟨#[c]⟩) H) ta tb):=by
 intro pins s σ H Q I h
 refine Subscript_ (binT ha hb I h λv u s2 x y H2 I2 rx ry q=>?_)
 obtain ⟨z,i,c,rfl,rfl,h0,h63,h1,hc,q⟩:=q
 obtain ⟨t,rfl⟩:=rx
 obtain ⟨t',rfl⟩:=ry
 have e:seqIndex? i z.length = some i.toNat:=PySem.StrLaws.seqIndex_nonneg h0 h1
 exact tail_any (typeIs_str s2 z t) slot_str_getitem.lookup (getItem_str (c:=c) (by
  have e1:decide (i < -(2 ^ 63:Int)) = false:=decide_eq_false (by omega)
  have e2:decide (i ≥ 2 ^ 63) = false:=decide_eq_false (by omega)
  rw [e1,e2] <;> rfl) (by rw [e]; exact hc) ⟨.str ⟨#[c]⟩,H2,I2.tok _,⟨_,rfl⟩,q⟩) (hs _ _)
theorem zGi (r:Vals [x] us):∃ u,us = [u] /\ RelV x u:=by
 cases r with
 | cons r1 r2=>cases r2; exact ⟨_,rfl,r1⟩
theorem vals2 (r:Vals [x,y] us):∃ u w',us = [u,w'] /\ RelV x u /\ RelV y w':=by
 cases r with
 | cons r1 r2 =>
  cases r2 with
  | cons r3 r4=>cases r4; exact ⟨_,_,rfl,r1,r3⟩
theorem zOc (hc:X.calm = true):zBu X (.builtin "min") (λxs H Q=>∃ i j,xs = [.int i,.int j] /\ Q (.int (if j < i then j else i)) H):=by
 intro pins s σ H xs us Q I r h
 obtain ⟨i,j,rfl,q⟩:=h
 obtain ⟨u,w',rfl,⟨t,rfl⟩,⟨t',rfl⟩⟩:=vals2 r
 refine min_two_ints (I.ok.hd hc) λh' tk k=>⟨_,H,I.kept k,?_,q⟩
 by_cases hj:j < i
 ·rw [if_pos hj,if_pos hj]; exact ⟨_,rfl⟩
 ·rw [if_neg hj,if_neg hj]; exact ⟨_,rfl⟩
theorem zOe:zBu X (.type "int") (λxs H Q=>(∃ i,xs = [.int i] /\ Q (.int i) H) \/ ∃ k,xs = [.bl k] /\ Q (.int (if k then 1 else 0)) H):=by
 intro pins s σ H xs us Q I r h
 rcases h with ⟨i,rfl,q⟩ | ⟨k,rfl,q⟩
 ·obtain ⟨u,rfl,t,rfl⟩:=zGi r
  exact call_int_int ⟨.int i,H,I,⟨_,rfl⟩,q⟩
 ·obtain ⟨u,rfl,r1⟩:=zGi r
  cases r1
  exact call_int_bool ⟨.int (if k then 1 else 0),H,I.tok _,⟨_,rfl⟩,q⟩
def LenV (K:PySem.W.Frag) (x:V) (H:Hp) (n:Nat):Prop :=
 match x with
 | .str y=>y.length <= sizeLine /\ n = y.length
 | .byt y=>y.size <= sizeLine /\ n = y.size
 | .ref p=>(∃ xs,SqL K H p xs /\ n = xs.length) \/ ∃ xs,SqT K H p xs /\ n = xs.length
 | _=>False
theorem zQd:zBu X (.builtin "len") (λxs H Q=>∃ x n,xs = [x] /\ LenV X.K x H n /\ Q (.int n) H):=by
 intro pins s σ H xs us Q I r h
 obtain ⟨x,n,rfl,e,q⟩:=h
 obtain ⟨u,rfl,rx⟩:=zGi r
 have hl:=zEv
 have hs:sizeLine = 16777216:=sizeLine_eq
 cases x with
 | str y =>
  obtain ⟨t,rfl⟩:=rx
  obtain ⟨hy,e'⟩:y.length <= sizeLine /\ n = y.length:=e
  subst e'
  exact len_str (by omega) ⟨.int _,H,I.tok _,⟨_,rfl⟩,q⟩
 | byt y =>
  obtain ⟨t,rfl⟩:=rx
  obtain ⟨hy,e'⟩:y.size <= sizeLine /\ n = y.size:=e
  subst e'
  exact PySem.W.len_bytes (by omega) ⟨.int _,H,I.tok _,⟨_,rfl⟩,q⟩
 | ref p =>
  cases rx
  have e':(∃ xs,SqL X.K H p xs /\ n = xs.length) \/ ∃ xs,SqT X.K H p xs /\ n = xs.length:=e
  rcases e' with ⟨xs,hx,e'⟩ | ⟨xs,hx,e'⟩
  ·subst e'
   obtain ⟨its,r',pl,hz⟩:=I.list hx
   have hlen:=r'.length
   exact Calls.call_len_list pl.isList (by simp only [size_toArray]; omega) ⟨.int xs.length,H,I.tok _,⟨_,by simp only [size_toArray]; rw [hlen]⟩,q⟩
  ·subst e'
   obtain ⟨its,r',pl,hz⟩:=I.tuple hx
   have hlen:=r'.length
   exact len_tuple pl (by simp only [size_toArray]; omega) ⟨.int xs.length,H,I.tok _,⟨_,by simp only [size_toArray]; rw [hlen]⟩,q⟩
 | _=>exact (show False from e).elim
end
structure ObjM (h:Heap) (x dx C:Addr) (mA:Str->Option Value):Prop where
 obj:h.get? x = some (instObj C dx)
 ns:h.Ns1 dx mA
 ne:dx ≠ x
theorem zM8 {h:Heap} (n:h.Ns1 dx mA):∃ od,h.get? dx = some od /\ ∀ name,lookIn name od = some (mA name):=by
 obtain ⟨o,es,ep,ho,hd,hk,_,hm⟩:=n
 refine ⟨o,ho,λname=>?_⟩
 have e:=hm name
 unfold nsFind findBy at e
 rw [<- Array.find?_toList] at e
 unfold lookIn
 rw [hd]
 dsimp only
 split
 ·rename_i y q
  rw [q] at e
  exact congrArg some e
 ·rename_i q
  rw [q] at e
  have a:es.toList.any (·.refKey) = false:=by
   rw [List.any_eq_false]
   intro y hy
   obtain ⟨z,t,hkey⟩:=hk y (Array.mem_toList_iff.mp hy)
   simp [DictEntry.refKey,hkey]
  have a':¬ es.toList.any (·.refKey) = true:=by rw [a]; exact Bool.false_ne_true
  rw [if_neg a']
  exact congrArg some e
theorem ObjM.look (I:ObjM h x dx C mA):∃ od,PySem.W.InstAt h x (instObj C dx) C (some od) /\ ∀ name,lookIn name od = some (mA name) :=
 let ⟨od,ho,hl⟩:=zM8 I.ns
 ⟨od,⟨I.obj,rfl,rfl,ho⟩,hl⟩
section
variable {prog:Program} {w:World} {A:Around} {E:Value->Shared->Prop} {s:Shared} {K:PySem.W.Frag} {x dx C f:Addr} {mA:Str->Option Value} {name:Str} {v:Value}
theorem get_map {Q:Value->Shared->Prop} (X:K.In s.heap) (I:ObjM s.heap x dx C mA) (hg:plainGet K C name = true) (hh:hasDictIn K C = true)
  (ha:findIn K (.ref C) name = some none) (hv:mA name = some v) (hv':PySem.W.handedIn v = true) (h:Q v { s with toks:=s.toks + 1 }) :
  wpAny (model prog w) A (getAttr (.ref x) name expr) Q E s:=by
 obtain ⟨od,J,hl⟩:=I.look
 exact PySem.W.get_value X J (plainGet_of hg).1 (PySem.W.findObj_own hh ha rfl (by rw [hl,hv])) hv' h
theorem zP1 {Q:Value × List Value->Shared->Prop} (X:K.In s.heap) (I:ObjM s.heap x dx C mA) (hg:plainGet K C name = true)
  (hf:findIn K (.ref C) name = some (some (.ref f))) (ht:isFn K (.ref f) = true) (hv:mA name = none) (h:Q (.ref f,[.ref x]) s) :
  wpAny (model prog w) A (getMethod (.ref x) name pl) Q E s:=by
 obtain ⟨od,J,hl⟩:=I.look
 exact PySem.W.method_fn X J (plainGet_of hg).1 (plainGet_of hg).2 hf (beq_iff_eq.mp ht) (by show (lookIn name od).map (·.isSome) = some false; rw [hl,hv]; rfl) h
theorem set_map {Q:Unit->Shared->Prop} (X:K.In s.heap) (I:ObjM s.heap x dx C mA)
  (hs:findIn K (.ref C) "__setattr__" = some (some (.builtin "object.__setattr__"))) (hp:PySem.W.plainOver K C = true) (ht:takerIn K C name = some none) (hh:hasDictIn K C = true)
  (hw:PySem.Within mA ns) (hsz:ns.length <= sizeLine)
  (h:∀ h',ObjM h' x dx C (λy=>if y = name then some v else mA y)->SameBut dx s.heap h'->Q () { s with heap:=h',toks:=s.toks + 2 }) :
  wpAny (model prog w) A (setAttr (.ref x) name v) Q E s:=by
 obtain ⟨od,J,hl⟩:=I.look
 refine PySem.W.set_plain X J hs (PySem.W.osa_open (s:={ s with toks:=s.toks + 1 }) (r:=none) X J hp ht λb=>?_)
 obtain ⟨cd,hc,hd'⟩:=PySem.W.any_some hh
 have hx:s.heap.get? x = some ⟨.ref C,some dx,.plain,#[]⟩:=I.obj
 refine wpAny_bind (wpAny_pure (wpAny_bind (wpAny_bind (wpAny_loadPart hx (wpAny_bind (PySem.W.Looks.here (s:={ s with toks:=s.toks + 1 }) (PySem.W.looks_clsIn X hc) ?_))))))
 rw [hd']
 refine wpAny_pure (a:=some dx) (wpAny_bind (wpAny_pure (wpAny_bind ?_)))
 refine wpAny_nsSet1 (s:={ s with toks:=s.toks + 1 }) I.ns λh' hn2 hs2=>?_
 obtain ⟨oD,esD,epD,hoD,hdD,hcD⟩:=hn2.count (PySem.Within.cons name v hw)
 refine wpAny_bind (wpAny_lookBehind hoD (by rw [hdD]; exact pastItsLine_dict (Nat.le_trans hcD (by rw [length_cons]; omega))) ?_)
 exact wpAny_pure (h _ ⟨(hs2.2 _ (Ne.symm I.ne)).trans I.obj,hn2,I.ne⟩ hs2)
theorem zPr (X:K.In s.heap) (hm:PySem.W.makesIn K C = true)
  (hi:findIn K (.ref C) "__init__" = some (some (.ref f))) (hf:PySem.W.typeIn K (.ref f) = some (.type "function"))
  (h:codeAny (model prog w) (A.under (.builtin "type.__call__" ⟨.ref C :: vs,kw⟩)) (.call (.ref f) ⟨.ref (s.heap.objs.size + 1) :: vs,kw⟩) (PySem.W.InitBack (s.heap.objs.size + 1) R)
   { s with heap:=(s.heap.push emptyDict).push (instObj C s.heap.objs.size) }) :
  codeAny (model prog w) A (.call (.ref C) ⟨vs,kw⟩) R s:=by
 obtain ⟨hh,g,d,t,os⟩:=s
 exact PySem.W.make_core (PySem.W.makes_of X hm) (PySem.W.looks_findIn X hi) (λself=>PySem.W.bind_fn X self hf) (.inl rfl) h
end
def putF (f:Str) (v:V):List (Str × V)->List (Str × V)
 | []=>[(f,v)]
 | (g,x) :: r=>if g = f then (g,v) :: r else (g,x) :: putF f v r
theorem yE (f g:Str) (v:V):∀ fs:List (Str × V),(putF f v fs).lookup g = if g = f then some v else fs.lookup g
 | []=>by
  show List.lookup g [(f,v)] = _
  by_cases h:g = f
  ·have hb:(g == f) = true:=beq_iff_eq.mpr h
   simp only [List.lookup,hb,if_pos h]
  ·have hb:(g == f) = false:=beq_eq_false_iff_ne.mpr h
   simp only [List.lookup,hb,if_neg h]
 | (k,x) :: r=>by
  have ih:=yE f g v r
  rw [show putF f v ((k,x) :: r) = (if k = f then (k,v) :: r else (k,x) :: putF f v r) from rfl]
  by_cases hk:k = f
  ·rw [if_pos hk]
   by_cases h:g = k
   ·have hb:(g == k) = true:=beq_iff_eq.mpr h
    simp only [List.lookup,hb,if_pos (h.trans hk)]
   ·have hb:(g == k) = false:=beq_eq_false_iff_ne.mpr h
    simp only [List.lookup,hb,if_neg (λe:g = f=>h (e.trans hk.symm))]
  ·rw [if_neg hk]
   by_cases h:g = k
   ·have hb:(g == k) = true:=beq_iff_eq.mpr h
    simp only [List.lookup,hb,if_neg (λe:g = f=>hk (h.symm.trans e))]
   ·have hb:(g == k) = false:=beq_eq_false_iff_ne.mpr h
    simp only [List.lookup,hb]
    exact ih
theorem zDv (f:Str) (v:V):∀ fs:List (Str × V),f ∈ (putF f v fs).map (·.1) /\ ∀ g,g ∈ fs.map (·.1)->g ∈ (putF f v fs).map (·.1)
 | []=>⟨by simp [putF],λg h=>by simp at h⟩
 | (k,x) :: r=>by
  obtain ⟨i1,i2⟩:=zDv f v r
  rw [show putF f v ((k,x) :: r) = (if k = f then (k,v) :: r else (k,x) :: putF f v r) from rfl]
  by_cases hk:k = f
  ·rw [if_pos hk]
   subst hk
   exact ⟨by simp,λg h=>by simpa using h⟩
  ·rw [if_neg hk]
   refine ⟨?_,λg h=>?_⟩
   ·rw [map_cons]
    exact mem_cons_of_mem _ i1
   ·rw [map_cons] at h ⊢
    rcases mem_cons.mp h with e | e
    ·exact mem_cons.mpr (.inl e)
    ·exact mem_cons_of_mem _ (i2 g e)
theorem zDu (f:Str) (v:V):∀ fs:List (Str × V),(putF f v fs).length <= fs.length + 1
 | []=>by simp [putF]
 | (k,x) :: r=>by
  have ih:=zDu f v r
  rw [show putF f v ((k,x) :: r) = (if k = f then (k,v) :: r else (k,x) :: putF f v r) from rfl]
  by_cases hk:k = f
  ·rw [if_pos hk,length_cons,length_cons]; omega
  ·rw [if_neg hk,length_cons,length_cons]; omega
theorem RelO.some_of (r:RelO (some v) o):∃ u,o = some u /\ RelV v u:=by
 cases o with
 | none=>exact (show False from r).elim
 | some u=>exact ⟨u,rfl,r⟩
theorem RelO.none_of (r:RelO none o):o = none:=by
 cases o with
 | none=>rfl
 | some u=>exact (show False from r).elim
theorem zNn (r:RelV v u):PySem.W.handedIn u = true:=by
 cases v with
 | non=>cases (show u = Value.none from r); rfl
 | bl b=>cases (show u = Value.bool b from r); rfl
 | int i=>obtain ⟨t,e⟩:=(show ∃ t,u = Value.int i t from r); cases e; rfl
 | str x=>obtain ⟨t,e⟩:=(show ∃ t,u = Value.str x t from r); cases e; rfl
 | byt b=>obtain ⟨t,e⟩:=(show ∃ t,u = Value.bytes b t from r); cases e; rfl
 | flt b=>obtain ⟨t,e⟩:=(show ∃ t,u = Value.float b t from r); cases e; rfl
 | ref a=>cases (show u = Value.ref a from r); rfl
 | ty n=>cases (show u = Value.type n from r); rfl
section
variable {P:Program} {w:World} {H H':Hp} {h h':Heap} {a C dx:Addr} {fs fs':List (Str × V)}
theorem zF2 (hok:HOk P w H h) (e:H a = some (.ins C dx fs)):∃ mA,ObjM h a dx C mA /\ (∀ f,RelO (fs.lookup f) (mA f)) /\ PySem.Within mA (fs.map (·.1)) /\ fs.length <= 1000 /\ H dx = some (.own a):=by
 obtain ⟨d,z,ne,ob,mA,n,r,q⟩:=(show ObjOk P w H h a (.ins C dx fs) from hok a _ e)
 exact ⟨mA,⟨ob,n,ne⟩,r,q,z,d⟩
end
structure Cls (K:PySem.W.Frag) (C:Addr):Prop where
 pg:plainGet K C Str.empty = true
 hd:hasDictIn K C = true
 po:PySem.W.plainOver K C = true
 sa:findIn K (.ref C) "__setattr__" = some (some (.builtin "object.__setattr__"))
theorem Cls.get {K:PySem.W.Frag} {C:Addr} (c:Cls K C) (f:Str):plainGet K C f = true:=c.pg
def NoAttr (K:PySem.W.Frag) (C:Addr) (f:Str):Prop:=findIn K (.ref C) f = some none
theorem NoAttr.taker {K:PySem.W.Frag} {C:Addr} {f:Str} (n:NoAttr K C f):takerIn K C f = some none:=by
 unfold takerIn
 rw [show findIn K (.ref C) f = some none from n]
 rfl
structure Con (K:PySem.W.Frag) (C:Addr) (f:Str) (v:V) (u:Value):Prop where
 at_:findIn K (.ref C) f = some (some u)
 rel:RelV v u
 get:specialIn K u "__get__" = some none
 cp:PySem.W.copiedNames.contains f = false
structure Meth (K:PySem.W.Frag) (C:Addr) (m:Str) (f:Addr):Prop where
 at_:findIn K (.ref C) m = some (some (.ref f))
 fn:isFn K (.ref f) = true
 kp:keepIn K (.ref f) = true
section
variable {X:Cx} {pins:List (Addr × Obj)} {σ:St} {H:Hp} {s:Shared} {a C dx:Addr} {fs:List (Str × V)} {f:Str} {v:V} {A:Around} {E:Value->Shared->Prop}
theorem zK2 {Q:Value->Shared->Prop} (I:Inv X pins σ H s) (e:H a = some (.ins C dx fs)) (c:Cls X.K C) (n:NoAttr X.K C f) (l:fs.lookup f = some v)
  (h:∀ u s',Inv X pins σ H s'->RelV v u->Q u s'):wpAny (model X.prog X.w) A (getAttr (.ref a) f b) Q E s:=by
 obtain ⟨mA,O,r,_,_,_⟩:=zF2 I.hok e
 obtain ⟨u,hu,ru⟩:=RelO.some_of (v:=v) (o:=mA f) (by rw [<- l]; exact r f)
 exact get_map I.kIn O (c.get f) c.hd n hu (zNn ru) (h u _ (I.tok _) ru)
theorem zEz {Q:Value × List Value->Shared->Prop} (I:Inv X pins σ H s) (e:H a = some (.ins C dx fs)) (c:Cls X.K C) (k:Meth X.K C m g) (l:fs.lookup m = none)
  (h:Q (.ref g,[.ref a]) s):wpAny (model X.prog X.w) A (getMethod (.ref a) m pl) Q E s:=by
 obtain ⟨mA,O,r,_,_,_⟩:=zF2 I.hok e
 have hn:mA m = none:=RelO.none_of (by rw [<- l]; exact r m)
 exact zP1 I.kIn O (c.get m) k.at_ k.fn hn h
theorem zKl {Q:Unit->Shared->Prop} (I:Inv X pins σ H s) (e:H a = some (.ins C dx fs)) (c:Cls X.K C) (n:NoAttr X.K C f) (hl:fs.length < 1000) (ry:RelV y u)
  (h:∀ s',Inv X pins σ (upd H a (.ins C dx (putF f y fs))) s'->Q () s'):wpAny (model X.prog X.w) A (setAttr (.ref a) f u) Q E s:=by
 obtain ⟨mA,O,r,wi,_,ho⟩:=zF2 I.hok e
 have hz:(fs.map (·.1)).length <= sizeLine:=by rw [length_map,sizeLine_eq]; omega
 refine set_map I.kIn O c.sa c.po n.taker c.hd wi hz λh' O' sb=>h _ ?_
 have hd:∃ o,h'.get? dx = some o:=let ⟨o,_,_,e',_⟩:=O'.ns; ⟨o,e'⟩
 refine I.write (x:=a) (e:=dx) (by rw [e]; exact True.intro) (.inr ho) (λb q hb z=>(sb.2 b hb).trans z) hd ?_
 refine ⟨by rw [zO O.ne]; exact ho,?_,O.ne,O'.obj,_,O'.ns,λg=>?_,λg hg=>?_⟩
 ·have:=zDu f y fs; omega
 ·show RelO ((putF f y fs).lookup g) (if g = f then some u else mA g)
  rw [yE]
  by_cases q:g = f
  ·rw [if_pos q,if_pos q]; exact ry
  ·rw [if_neg q,if_neg q]; exact r g
 ·by_cases q:g = f
  ·rw [q]; exact (zDv f y fs).1
  ·refine (zDv f y fs).2 g (wi g λz=>hg ?_)
   show (if g = f then some u else mA g) = none
   rw [if_neg q]; exact z
theorem Inv.made (I:Inv X pins σ H s):Inv X pins σ (upd (upd H s.heap.objs.size (.own (s.heap.objs.size + 1))) (s.heap.objs.size + 1) (.ins C s.heap.objs.size []))
  { s with heap:=(s.heap.push emptyDict).push (instObj C s.heap.objs.size) }:=by
 have e1:(s.heap.push emptyDict).get? s.heap.objs.size = some emptyDict:=get?_push_size s.heap rfl
 have e2:((s.heap.push emptyDict).push (instObj C s.heap.objs.size)).get? (s.heap.objs.size + 1) = some (instObj C s.heap.objs.size):=by
  have:=get?_push_size (s.heap.push emptyDict) (o:=instObj C s.heap.objs.size) rfl
  rwa [size_push] at this
 have e3:(s.heap.push emptyDict).Ns s.heap.objs.size (λ_=>none):=⟨emptyDict,#[],_,e1,rfl,(λe he=>absurd he (by simp)),λ_=>rfl⟩
 have I1:=I.laid (a:=s.heap.objs.size) (o:=.own (s.heap.objs.size + 1)) (h':=s.heap.push emptyDict) (t':=s.toks) (λb u q=>get?_push_of_some _ q) (Nat.le_refl _) ⟨_,e1⟩
 refine I1.laid (a:=s.heap.objs.size + 1) (o:=.ins C s.heap.objs.size []) (t':=s.toks) (λb u q=>get?_push_of_some _ q) (Nat.le_of_eq (size_push _ _)) ?_
 have ne:s.heap.objs.size ≠ s.heap.objs.size + 1:=Nat.ne_of_lt (Nat.lt_succ_self _)
 refine ⟨by rw [zO ne,zR],Nat.zero_le _,ne,e2,λ_=>none,(Heap.Ns1.of_empty e3).at λo q=>get?_push_of_some _ q,λ_=>True.intro,λy hy=>absurd rfl hy⟩
theorem attr_of (hb:attributeBase e f env (eval e env) = eval e env)
  (h:wpAny (model prog w) A (eval e env) (λo s₁=>wpAny (model prog w) A (getAttr o f true) Q E s₁) E s):wpAny (model prog w) A (eval (.Attribute e f pos) env) Q E s :=
 Attribute_any_ h (by rw [arm_eval_Attribute,hb])
end
def tFld (K:PySem.W.Frag) (ta:TE) (f:Str):TE:=λσ H Q=>ta σ H λx H1=>∃ a C dx fs v,x = .ref a /\ H1 a = some (.ins C dx fs) /\ Cls K C /\ NoAttr K C f /\ fs.lookup f = some v /\ Q v H1
def sFld (K:PySem.W.Frag) (ta tv:TE) (f:Str):TS:=λD σ H=>tv σ H λy H1=>ta σ H1 λx H2=>∃ a C dx fs,x = .ref a /\ H2 a = some (.ins C dx fs) /\ Cls K C /\ NoAttr K C f /\ fs.length < 1000 /\
 D.nx σ (upd H2 a (.ins C dx (putF f y fs)))
section
variable {X:Cx} {o e value:Expr} {f:Str} {pos pos' tpos:Pos} {ta tv:TE}
theorem zQ3 (he:PE X e ta) (hb:attributeBase e f X.env (eval e X.env) = eval e X.env):PE X (.Attribute e f pos) (tFld X.K ta f):=by
 intro pins s σ H Q I h
 refine attr_of hb (thn (he pins s σ H _ I h) λu s1 ⟨x,H1,I1,rx,a,C,dx,fs,v,ex,ea,c,n,l,q⟩=>?_)
 subst ex
 obtain rfl:u = Value.ref a:=rx
 exact zK2 I1 ea c n l λu' s2 I2 ru=>⟨v,H1,I2,ru,q⟩
theorem zJj (ha:PE X o ta) (hv:PE X value tv) (hs:swapsWith value (some (.Attribute o f pos')) pos.line X.env = pure false):PS X (.Assign [.Attribute o f pos'] value pos) (sFld X.K ta tv f):=by
 intro pins s σ H D I h
 refine plainObj_wpAny_Assign_Attribute (thn (hv pins s σ H _ I h) λu s1 ⟨y,H1,I1,ry,q⟩=>thn (ha pins s1 σ H1 _ I1 q) λov s2 ⟨x,H2,I2,rx,a,C,dx,fs,ex,ea,c,n,l,q2⟩=>?_) hs
 subst ex
 obtain rfl:ov = Value.ref a:=rx
 exact zKl I2 ea c n l ry λs3 I3=>⟨σ,_,I3,q2⟩
end
section
variable {X:Cx} {pins:List (Addr × Obj)} {σ:St} {H:Hp} {s:Shared} {A:Around} {E:Value->Shared->Prop} {Q:Value->Shared->Prop} {c:Value} {b:Bool}
inductive TyOf (K:PySem.W.Frag) (H:Hp):V->Value->Prop where
 | non:TyOf K H .non (.type "NoneType")
 | bl (x:Bool):TyOf K H (.bl x) (.type "bool")
 | int (i:Int):TyOf K H (.int i) (.type "int")
 | str (x:Str):TyOf K H (.str x) (.type "str")
 | flt (x:UInt64):TyOf K H (.flt x) (.type "float")
 | lst {a:Addr} {xs:List V} (e:H a = some (.lst xs)):TyOf K H (.ref a) (.type "list")
 | frz {a:Addr} {o:Obj} {xs:List V} (e:H a = some (.frz o (.lst xs))):TyOf K H (.ref a) (.type "list")
 | tup {a:Addr} {xs:List V} (e:H a = some (.tup xs)):TyOf K H (.ref a) (.type "tuple")
 | dK {a:Addr} {kvs:List (Key × V)} (e:H a = some (.dK kvs)):TyOf K H (.ref a) (.type "dict")
 | dT {a:Addr} {kvs:List (List Key × V)} (e:H a = some (.dT kvs)):TyOf K H (.ref a) (.type "dict")
 | ins {a C dx:Addr} {fs:List (Str × V)} (e:H a = some (.ins C dx fs)) (cl:Cls K C) (ha:findIn K (.ref C) "__class__" = some (some (.builtin "object.__class__")))
   (hn:specialIn K (.builtin "object.__class__") "__get__" = some (some (.builtin "getset_descriptor.__get__"))) (htk:PySem.W.takesIn K (.builtin "object.__class__") = some true)
   (hm:PySem.W.mroIn K C (.type "object") = some true):TyOf K H (.ref a) (.ref C)
theorem zNi (I:Inv X pins σ H s) (rx:RelV x u) (ty:TyOf X.K H x t) (e:kitOne X.K t c = some b) (h:∀ tk,Q (.bool b) { s with toks:=tk }) :
  wpAny (model X.prog X.w) A (call (.builtin "isinstance") [u,c]) Q E s:=by
 cases ty with
 | non=>cases (show u = Value.none from rx); exact kia_one PySem.W.kitx_none I.kIn True.intro e (λz=>nomatch z) h
 | bl y=>cases (show u = Value.bool y from rx); exact kia_one PySem.W.kitx_bool I.kIn True.intro e (λz=>nomatch z) h
 | int i=>obtain ⟨t,q⟩:=(show ∃ t,u = Value.int i t from rx); cases q; exact kia_one PySem.W.kitx_int I.kIn True.intro e (λz=>nomatch z) h
 | str y=>obtain ⟨t,q⟩:=(show ∃ t,u = Value.str y t from rx); cases q; exact kia_one PySem.W.kitx_str I.kIn True.intro e (λz=>nomatch z) h
 | flt y=>obtain ⟨t,q⟩:=(show ∃ t,u = Value.float y t from rx); cases q; exact kia_one PySem.W.kitx_float I.kIn True.intro e (λz=>nomatch z) h
 | @lst a xs ea =>
  cases (show u = Value.ref a from rx)
  obtain ⟨_,_,n,_,h1⟩:=(show ObjOk X.prog X.w H s.heap a (.lst xs) from I.hok a _ ea)
  exact kia_one PySem.W.kitx_list I.kIn ⟨_,h1,rfl⟩ e (λz=>nomatch z) h
 | @frz a ob xs ea =>
  cases (show u = Value.ref a from rx)
  obtain ⟨_,_,_,n,_,h1⟩:=(show ObjOk X.prog X.w H s.heap a (.frz ob (.lst xs)) from I.hok a _ ea)
  exact kia_one PySem.W.kitx_list I.kIn ⟨_,h1,rfl⟩ e (λz=>nomatch z) h
 | @tup a xs ea =>
  cases (show u = Value.ref a from rx)
  obtain ⟨_,_,_,p⟩:=(show ObjOk X.prog X.w H s.heap a (.tup xs) from I.hok a _ ea)
  obtain ⟨o,h1,h2,_⟩:=p
  exact kia_one PySem.W.kitx_tuple I.kIn ⟨o,h1,h2⟩ e (λz=>nomatch z) h
 | @dK a kvs ea =>
  cases (show u = Value.ref a from rx)
  obtain ⟨_,_,vs,_,p⟩:=(show ObjOk X.prog X.w H s.heap a (.dK kvs) from I.hok a _ ea)
  obtain ⟨o,es,ep,h1,h2,_⟩:=p
  exact kia_one PySem.W.kitx_dict I.kIn ⟨o,h1,h2.1⟩ e (λz=>nomatch z) h
 | @dT a kvs ea =>
  cases (show u = Value.ref a from rx)
  obtain ⟨_,_,xs,_,o,es,ep,h1,h2,_⟩:=(show ObjOk X.prog X.w H s.heap a (.dT kvs) from I.hok a _ ea)
  exact kia_one PySem.W.kitx_dict I.kIn ⟨o,h1,h2.1⟩ e (λz=>nomatch z) h
 | @ins a C dx fs ea cl ha hn htk hm =>
  cases (show u = Value.ref a from rx)
  obtain ⟨mA,O,_⟩:=zF2 I.hok ea
  obtain ⟨od,J,_⟩:=O.look
  exact kia_one (PySem.W.kitx_own (cl.get _) cl.hd ha hn htk hm) I.kIn J e (λz=>nomatch z) h
end
structure Room (k:Nat) (A:Around):Prop where
 hd:A.handled = none
 dp:A.depth + 3 * k + 5 < recursionLimit
 un:A.units + 16 * k + 200 < cLine
theorem Room.mono (r:Room k A) (h:j <= k):Room j A:=⟨r.hd,by have:=r.dp; omega,by have:=r.un; omega⟩
theorem Room.deeper (r:Room (k + 1) A) (env:Env):Room k (A.deeper env) :=
 ⟨r.hd,by have:=r.dp; show A.depth + 1 + 3 * k + 5 < _; omega,by have:=r.un; show A.units + 3 + 16 * k + 200 < _; omega⟩
theorem zKx {A:Around}:(A.under (.builtin "type.__call__" ⟨.ref C :: us,kw⟩)).depth = A.depth + 1:=by
 first | rfl | simp [Around.under,Code.weight,Code.isCreation,Code.isGuard,Code.isCaller,Code.frames,Code.isFrame,guardIds]
theorem zKw {A:Around}:(A.under (.builtin "type.__call__" ⟨.ref C :: us,kw⟩)).units = A.units + 1:=by
 first | rfl | simp [Around.under,Code.cUnits,Code.frames,Code.isFrame]
theorem Room.make (r:Room (k + 1) A) (C:Addr) (us:List Value) (kw:List (Str × Value)):Room k (A.under (.builtin "type.__call__" ⟨.ref C :: us,kw⟩)) :=
 ⟨r.hd,by have:=r.dp; rw [zKx]; omega,by have:=r.un; rw [zKw]; omega⟩
theorem Room.depth (r:Room k A):A.depth < recursionLimit:=by have:=r.dp; omega
theorem Room.units (r:Room k A):A.units + 64 < cLine:=by have:=r.un; omega
def tNil:TA:=λ_ H Q=>Q [] H
def xF (ta:TE) (tr:TA):TA:=λσ H Q=>ta σ H λx H1=>tr σ H1 λxs H2=>Q (x :: xs) H2
section
variable {X:Cx} {e:Expr} {es:List Expr} {te:TE} {t:TA} {pos:Pos}
theorem zE:PA X [] tNil:=λ_ _ _ _ H Q I h=>Calls.spliced_nil ⟨[],H,I,.nil,h⟩
theorem zA (ha:PE X e te) (hr:PA X es t) (hs:starEach (e :: es) X.env = (false,eval e X.env) :: starEach es X.env:=by rfl):PA X (e :: es) (xF te t):=by
 intro pos pins s σ H Q I h
 rw [hs]
 show wpAny _ _ (spliced ((false,eval e X.env) :: backTo pos (starEach es X.env))) _ _ s
 refine Calls.spliced_cons (thn (ha pins s σ H _ I h) λu s1 ⟨x,H1,I1,r1,q1⟩=>?_)
 exact thn (hr pos pins s1 σ H1 _ I1 q1) λus s2 ⟨xs,H2,I2,r2,q2⟩=>⟨x :: xs,H2,I2,.cons r1 r2,q2⟩
def tTup (t:TA):TE:=λσ H Q=>t σ H λxs H1=>xs.length <= sizeLine /\ ∀ p,H1 p = none->Q (.ref p) (upd H1 p (.tup xs))
def tLst (t:TA):TE:=λσ H Q=>t σ H λxs H1=>xs.length <= sizeLine /\ ∀ p,H1 p = none->Q (.ref p) (upd H1 p (.lst xs))
theorem wW {x1} (h:PA X es t):PE X (.Tuple es x1 pos) (tTup t):=by
 intro pins s σ H Q I hq
 refine wpAny_Tuple_spliced (thn (h pos pins s σ H _ I hq) λus s1 ⟨xs,H1,I1,r,z,q⟩=>⟨by rw [<- r.length]; exact z,?_⟩)
 have hf:H1 s1.heap.objs.size = none:=I1.hok.fresh (Nat.le_refl _)
 refine ⟨.ref s1.heap.objs.size,upd H1 s1.heap.objs.size (.tup xs),I1.laid (t':=s1.toks) (λb u e=>get?_push_of_some _ e) (Nat.le_refl _) ?_,rfl,q _ hf⟩
 exact ⟨z,us,r,⟨_,get?_push_size _ rfl,rfl,_,rfl⟩⟩
theorem wM (h:PA X es t):PE X (.List es pos) (tLst t):=by
 intro pins s σ H Q I hq
 refine wpAny_List_spliced (thn (h pos pins s σ H _ I hq) λus s1 ⟨xs,H1,I1,r,z,q⟩=>⟨by rw [<- r.length]; exact z,?_⟩)
 have hf:H1 s1.heap.objs.size = none:=I1.hok.fresh (Nat.le_refl _)
 refine ⟨.ref s1.heap.objs.size,upd H1 s1.heap.objs.size (.lst xs),I1.laid (t':=s1.toks) (λb u e=>get?_push_of_some _ e) (Nat.le_refl _) ?_,rfl,q _ hf⟩
 exact ⟨z,us,0,r,get?_push_size _ rfl⟩
end
abbrev Sp:=List V->Hp->VK->XK->Prop
abbrev CXT:=List Env->Hp->Shared->XK->Value->Shared->Prop
structure Env0 (P:Program) (w:World) (K:PySem.W.Frag) (mg:Str->Option Value) (base:Heap) (A:Around) (outer:List Env) (s:Shared) (H:Hp):Prop where
 frames:A.frames = some outer
 mod:Mod K mg base
 bs:∀ b o,base.get? b = some o->s.heap.get? b = some o /\ H b = none
 bsz:base.objs.size <= s.heap.objs.size
 funs:s.heap.FunFrames base outer
 frf:∀ b ∈ frs outer,H b = none
 hok:HOk P w H s.heap
 bare:AllBare s.gens
def CE (outer:List Env) (P:Program) (w:World) (H:Hp) (s:Shared) (Q:VK) (u:Value) (s':Shared):Prop :=
 ∃ v H',s'.os = s.os /\ AllBare s'.gens /\ Un (frs outer) [] H H' s.heap s'.heap /\ HOk P w H' s'.heap /\ RelV v u /\ Q v H'
def CR (CX:CXT) (outer:List Env) (P:Program) (w:World) (H:Hp) (s:Shared) (Q:VK) (E:XK) (r:Result) (s':Shared):Prop :=
 match r with
 | .ok (.ret u)=>CE outer P w H s Q u s'
 | .ok _=>False
 | .error e=>CX outer H s E e s'
structure FnOk (P:Program) (w:World) (K:PySem.W.Frag) (mg:Str->Option Value) (base:Heap) (CX:CXT) (k:Nat) (f:Addr) (fd:FuncData) (ps:List Str) (sp:Sp):Prop where
 len:∀ vs H Q E,sp vs H Q E->vs.length = ps.length
 run:∀ (A:Around) (outer:List Env) (s:Shared) (H:Hp) (args:Args) (us:List Value) (vs:List V) (Q:VK) (E:XK),Room k A->Env0 P w K mg base A outer s H->BindsTo s fd args (ps.zip us)->Vals vs us->sp vs H Q E ->
  codeAny (model P w) A (.call (.ref f) args) (CR CX outer P w H s Q E) s
theorem FnOk.mono {P:Program} {w:World} {K:PySem.W.Frag} {mg:Str->Option Value} {base:Heap} {CX:CXT} {j k:Nat} {f:Addr} {fd:FuncData} {ps:List Str} {sp:Sp} (F:FnOk P w K mg base CX j f fd ps sp) (h:j <= k) :
  FnOk P w K mg base CX k f fd ps sp:=⟨F.len,λA outer s H args us vs Q E hr=>F.run A outer s H args us vs Q E (hr.mono h)⟩
theorem FnOk.imp {P:Program} {w:World} {K:PySem.W.Frag} {mg:Str->Option Value} {base:Heap} {CX:CXT} {k:Nat} {f:Addr} {fd:FuncData} {ps:List Str} {sp sp':Sp} (F:FnOk P w K mg base CX k f fd ps sp)
  (h:∀ vs H Q E,sp' vs H Q E->sp vs H Q E):FnOk P w K mg base CX k f fd ps sp' :=
 ⟨λvs H Q E q=>F.len vs H Q E (h _ _ _ _ q),λA outer s H args us vs Q E hr he hb hv hs=>F.run A outer s H args us vs Q E hr he hb hv (h _ _ _ _ hs)⟩
theorem Env0.make {P:Program} {w:World} {K:PySem.W.Frag} {mg:Str->Option Value} {base:Heap} {A:Around} {outer:List Env} {s:Shared} {H:Hp} (e:Env0 P w K mg base A outer s H) (C:Addr) (us:List Value) (kw:List (Str × Value)) :
  Env0 P w K mg base (A.under (.builtin "type.__call__" ⟨.ref C :: us,kw⟩)) outer s H:=⟨by first | exact e.frames | (simpa [Around.under,Code.envs,Code.isFrame,pushEnvs] using e.frames),e.mod,e.bs,e.bsz,e.funs,e.frf,e.hok,e.bare⟩
section
variable {X:Cx} {pins:List (Addr × Obj)} {σ:St} {H:Hp} {s s':Shared}
theorem Inv.env0 (I:Inv X pins σ H s):Env0 X.prog X.w X.K X.mg X.base X.A X.stack s H :=
 ⟨I.ok.frames,I.ok.mod,I.bs,Nat.le_trans I.ok.bsz I.sz,I.stack,I.stkFree,I.hok,I.bare⟩
theorem Inv.after (I:Inv X pins σ H s) (h:CE X.stack X.prog X.w H s Q u s'):EP X pins σ Q u s':=by
 obtain ⟨v,H',os,bare,un,hok,r,q⟩:=h
 obtain ⟨hh,g,d,t,os'⟩:=s'
 obtain rfl:os' = s.os:=os
 exact ⟨v,H',I.call (h':=hh) (g':=g) (d':=d) (t':=t) (ch:=[]) un hok bare (λb z=>absurd z (by simp)),r,q⟩
end
def zKi (sp:Sp) (dvs:List V) (E:XK) (t:TA):TE:=λσ H Q=>t σ H λvs H1=>sp (vs ++ dvs) H1 Q E
def zLt (C:Addr) (m:Str) (sp:Sp) (dvs:List V) (E:XK) (ta:TE) (t:TA):TE:=λσ H Q=>ta σ H λx H1=>∃ a dx fs,x = .ref a /\ H1 a = some (.ins C dx fs) /\ fs.lookup m = none /\
 t σ H1 λvs H2=>sp (x :: (vs ++ dvs)) H2 Q E
def tMake (C:Addr) (sp:Sp) (dvs:List V) (E:XK) (t:TA):TE:=λσ H Q=>t σ H λvs H1=>∀ x dx,H1 x = none->H1 dx = none->dx ≠ x ->
 sp (.ref x :: (vs ++ dvs)) (upd (upd H1 dx (.own x)) x (.ins C dx [])) (λv H2=>v = .non /\ Q (.ref x) H2) E
def Binds (K:PySem.W.Frag) (fd:FuncData) (ps:List Str) (ds:List Value):Prop :=
 ∀ (s:Shared) (us:List Value),K.In s.heap->(us ++ ds).length = ps.length->BindsTo s fd ⟨us,[]⟩ (ps.zip (us ++ ds))
theorem Binds.all {K:PySem.W.Frag} {fd:FuncData} {ps:List Str} (h:∀ us:List Value,us.length = ps.length->bindArgs fd ⟨us,[]⟩ = pure (ps.zip us)):Binds K fd ps []:=λs us _ hl=>by
 rw [append_nil] at hl ⊢
 exact .of_eq (h us hl)
def zEe (CX:CXT) (X:Cx) (E:XK):Prop:=∀ (pins:List (Addr × Obj)) (σ:St) (H:Hp) (s:Shared) (e:Value) (s':Shared),Inv X pins σ H s->CX X.stack H s E e s'->X.xe e s'
section
variable {X:Cx} {CX:CXT} {k:Nat} {f C:Addr} {fd:FuncData} {ps:List Str} {sp:Sp} {dvs:List V} {ds:List Value} {E:XK} {x m:Str} {p pos apos:Pos} {e o:Expr} {es:List Expr} {ta:TE} {t:TA}
theorem zL8 (F:FnOk X.prog X.w X.K X.mg X.base CX k f fd ps sp) (hr:Room k X.A) (hb:Binds X.K fd ps ds) (hd:Vals dvs ds) (hx:zEe CX X E)
  (I:Inv X pins σ H s) (r:Vals vs us) (h:sp (vs ++ dvs) H Q E):wpAny (model X.prog X.w) X.A (call (.ref f) us) (EP X pins σ Q) X.xe s:=by
 have r2:Vals (vs ++ dvs) (us ++ ds):=r.append hd
 have hl:(us ++ ds).length = ps.length:=by rw [<- r2.length]; exact F.len _ _ _ _ h
 refine wpAny_call (codeAny_mono (F.run X.A X.stack s H ⟨us,[]⟩ (us ++ ds) (vs ++ dvs) Q E hr I.env0 (hb s us I.kIn hl) r2 h) λr s' hq=>?_)
 cases r with
 | error e=>exact hx pins σ H s e s' I hq
 | ok fl =>
  cases fl with
  | ret u=>exact I.after hq
  | next=>exact False.elim hq
  | brk=>exact False.elim hq
  | cont=>exact False.elim hq
theorem pe_call (F:FnOk X.prog X.w X.K X.mg X.base CX k f fd ps sp) (hr:Room k X.A) (hg:Gl X x) (hm:X.mg x = some (.ref f)) (hk:keepIn X.K (.ref f) = true) (hb:Binds X.K fd ps ds) (hd:Vals dvs ds) (hx:zEe CX X E)
  (ha:PA X (e :: es) t) (hdb:(x == ("__debug__":Str)) = false:=by decide) (he:starEach (e :: es) X.env = (false,eval e X.env) :: starEach es X.env:=by rfl) (hpl:(backTo pos (starEach es X.env)).any (·.1) = false:=by rfl) :
  PE X (.Call (.Name x p) (e :: es) [] pos) (zKi sp dvs E t):=by
 intro pins s σ H Q I h
 refine wpAny_Call_Name_kw (zIp I hg hm ?_ hdb)
 refine callWith_K (h₀:=X.base) I.ok.mod.kin hk (thn (ha pos pins s σ H _ I h) λus s1 ⟨vs,H1,I1,r,q⟩=>⟨I1.kIn,?_⟩) he hpl
 exact zL8 F hr hb hd hx I1 r q
theorem pe_meth (he:PE X o ta) (c:Cls X.K C) (hm:Meth X.K C m f) (F:FnOk X.prog X.w X.K X.mg X.base CX k f fd ps sp) (hr:Room k X.A) (hb:Binds X.K fd ps ds) (hd:Vals dvs ds) (hx:zEe CX X E) (ha:PA X (e :: es) t)
  (hst:starEach (e :: es) X.env = (false,eval e X.env) :: starEach es X.env:=by rfl) (hpl:(backTo pos (starEach es X.env)).any (·.1) = false:=by rfl)
  (ht:eval (.Call (.Attribute o m apos) (e :: es) [] pos) X.env = (do
   let ov <- eval o X.env
   standAt apos.atName
   let (f,first) <- holding [ov] (getMethod ov m pl)
   callWith pos f first (backTo pos (starEach (e :: es) X.env)) (backToKw pos (keywordEach [] X.env))):=by rfl) :
  PE X (.Call (.Attribute o m apos) (e :: es) [] pos) (zLt C m sp dvs E ta t):=by
 intro pins s σ H Q I h
 refine PySem.W.methodCall_KW (pl:=pl) (thn (he pins s σ H _ I h) λu s1 ⟨x,H1,I1,rx,a,dx,fs,ex,ea,l,q⟩=>?_) ht
 subst ex
 obtain rfl:u = Value.ref a:=rx
 refine zEz I1 ea c hm l ?_
 refine callWith_K (first:=[.ref a]) (h₀:=X.base) I.ok.mod.kin hm.kp (thn (ha pos pins s1 σ H1 _ I1 q) λus s2 ⟨vs,H2,I2,r,q2⟩=>⟨I2.kIn,?_⟩) hst hpl
 exact zL8 (us:=.ref a :: us) (vs:=.ref a :: vs) F hr hb hd hx I2 (.cons rfl r) q2
theorem zPi (he:PE X o ta) (c:Cls X.K C) (hm:Meth X.K C m f) (F:FnOk X.prog X.w X.K X.mg X.base CX k f fd ps sp) (hr:Room k X.A) (hb:Binds X.K fd ps ds) (hd:Vals dvs ds) (hx:zEe CX X E)
  (ht:eval (.Call (.Attribute o m apos) [] [] pos) X.env = (do
   let ov <- eval o X.env
   standAt apos.atName
   let (f,first) <- holding [ov] (getMethod ov m pl)
   callWith pos f first (backTo pos (starEach [] X.env)) (backToKw pos (keywordEach [] X.env))):=by rfl) :
  PE X (.Call (.Attribute o m apos) [] [] pos) (zLt C m sp dvs E ta tNil):=by
 intro pins s σ H Q I h
 refine PySem.W.methodCall_KW (pl:=pl) (thn (he pins s σ H _ I h) λu s1 ⟨x,H1,I1,rx,a,dx,fs,ex,ea,l,q⟩=>?_) ht
 subst ex
 obtain rfl:u = Value.ref a:=rx
 refine zEz I1 ea c hm l ?_
 exact PySem.W.callWith_K0 (first:=[.ref a]) I1.kIn hm.kp (zL8 (us:=[.ref a]) (vs:=[.ref a]) F hr hb hd hx I1 (.cons rfl .nil) q)
structure Mk (K:PySem.W.Frag) (C f:Addr):Prop where
 makes:PySem.W.makesIn K C = true
 init:findIn K (.ref C) "__init__" = some (some (.ref f))
 fn:isFn K (.ref f) = true
 kp:keepIn K (.ref C) = true
theorem zPa (M:Mk X.K C f) (F:FnOk X.prog X.w X.K X.mg X.base CX k f fd ps sp) (hr:Room (k + 1) X.A) (hb:Binds X.K fd ps ds) (hd:Vals dvs ds)
  (hx:zEe CX X E) (I:Inv X pins σ H s) (r:Vals vs us)
  (h:∀ x dx,H x = none->H dx = none->dx ≠ x->sp (.ref x :: (vs ++ dvs)) (upd (upd H dx (.own x)) x (.ins C dx [])) (λv H2=>v = .non /\ Q (.ref x) H2) E) :
  wpAny (model X.prog X.w) X.A (call (.ref C) us) (EP X pins σ Q) X.xe s:=by
 have hq:=h (s.heap.objs.size + 1) s.heap.objs.size (I.hok.fresh (Nat.le_succ _)) (I.hok.fresh (Nat.le_refl _)) (Nat.ne_of_lt (Nat.lt_succ_self _))
 have I2:=Inv.made (C:=C) I
 have r2:Vals (V.ref (s.heap.objs.size + 1) :: (vs ++ dvs)) (Value.ref (s.heap.objs.size + 1) :: (us ++ ds)):=.cons rfl (r.append hd)
 have hl:(Value.ref (s.heap.objs.size + 1) :: us ++ ds).length = ps.length:=by
  have e:=r2.length
  rw [F.len _ _ _ _ hq] at e
  exact e.symm
 refine wpAny_call (zPr (f:=f) I.kIn M.makes M.init (beq_iff_eq.mp M.fn) (codeAny_mono (F.run _ X.stack _ _ ⟨Value.ref (s.heap.objs.size + 1) :: us,[]⟩ (Value.ref (s.heap.objs.size + 1) :: (us ++ ds)) _ _ E (hr.make C us [])
  (I2.env0.make C us []) (hb _ (Value.ref (s.heap.objs.size + 1) :: us) I2.kIn hl) r2 hq) λr s' hq'=>?_))
 cases r with
 | error e=>exact hx pins σ _ _ e s' I2 hq'
 | ok fl =>
  cases fl with
  | ret u =>
   obtain ⟨v,H',I3,rv,ev,q3⟩:=I2.after hq'
   subst ev
   exact ⟨rv,⟨V.ref (s.heap.objs.size + 1),H',I3,rfl,q3⟩⟩
  | next=>exact False.elim hq'
  | brk=>exact False.elim hq'
  | cont=>exact False.elim hq'
theorem pe_make (M:Mk X.K C f) (F:FnOk X.prog X.w X.K X.mg X.base CX k f fd ps sp) (hr:Room (k + 1) X.A) (hg:Gl X x) (hm:X.mg x = some (.ref C)) (hb:Binds X.K fd ps ds) (hd:Vals dvs ds) (hx:zEe CX X E)
  (ha:PA X (e :: es) t) (hdb:(x == ("__debug__":Str)) = false:=by decide) (he:starEach (e :: es) X.env = (false,eval e X.env) :: starEach es X.env:=by rfl) (hpl:(backTo pos (starEach es X.env)).any (·.1) = false:=by rfl) :
  PE X (.Call (.Name x p) (e :: es) [] pos) (tMake C sp dvs E t):=by
 intro pins s σ H Q I h
 refine wpAny_Call_Name_kw (zIp I hg hm ?_ hdb)
 refine callWith_K (h₀:=X.base) I.ok.mod.kin M.kp (thn (ha pos pins s σ H _ I h) λus s1 ⟨vs,H1,I1,r,q⟩=>⟨I1.kIn,?_⟩) he hpl
 exact zPa M F hr hb hd hx I1 r q
end
section
variable {X:Cx} {CX:CXT} {k:Nat} {f C:Addr} {fd:FuncData} {ps ks:List Str} {sp:Sp} {E:XK} {x m:Str} {p pos apos kpos:Pos} {e o:Expr} {es:List Expr} {kws:List Keyword} {te ta:TE} {t tk:TA} {nm:Option Str}
structure KBinds (K:PySem.W.Frag) (fd:FuncData) (ps ks:List Str) (g:List Value->List Value->List Value) (gV:List V->List V->List V):Prop where
 to:∀ (s:Shared) (us ws:List Value),K.In s.heap->(g us ws).length = ps.length->BindsTo s fd ⟨us,ks.zip ws⟩ (ps.zip (g us ws))
 rel:∀ {vs:List V} {us:List Value} {zs:List V} {ws:List Value},Vals vs us->Vals zs ws->Vals (gV vs zs) (g us ws)
variable {g:List Value->List Value->List Value} {gV:List V->List V->List V}
end
structure FnScope (N P:List Str) (sc:Scope):Prop where
 kind:sc.kind = .function
 co:sc.isCoroutine = false
 gen:sc.isGenerator = false
 nd:N.Nodup
 pre:N.take P.length = P
 par:∀ x ∈ P,sc.names.lookup x = some .local \/ sc.names.lookup x = some .cell
 nofree:∀ y ∈ sc.names,y.2 ≠ .free
theorem zHt {kindOf:Str->Option NameKind} {x:Str}:∀ {binds:List (Str × Value)} {m:Str->Option Value},(∀ v,(x,v) ∉ binds)->bindL kindOf binds m x = m x
 | [],_,_=>rfl
 | (n,v) :: r,m,h=>by
  unfold bindL
  rw [zHt λw hw=>h w (mem_cons_of_mem _ hw)]
  split
  ·have:x ≠ n:=by rintro rfl; exact h v mem_cons_self
   simp [this]
  ·rfl
theorem zHv {kindOf:Str->Option NameKind} {x:Str}:∀ {binds:List (Str × Value)} {m:Str->Option Value},(∀ v,(x,v) ∉ binds)->bindC kindOf binds m x = m x
 | [],_,_=>rfl
 | (n,v) :: r,m,h=>by
  unfold bindC
  rw [zHv λw hw=>h w (mem_cons_of_mem _ hw)]
  split
  ·rfl
  ·have:x ≠ n:=by rintro rfl; exact h v mem_cons_self
   simp [this]
theorem zHu {kindOf:Str->Option NameKind}:∀ {P:List Str} {vs:List Value} {i:Nat} {m:Str->Option Value},P.Nodup->P[i]? = some x->vs[i]? = some v->kindOf x = some .local ->
  bindL kindOf (P.zip vs) m x = some v
 | [],_,_,_,_,h,_,_=>by simp at h
 | _ :: _,[],_,_,_,_,h,_=>by simp at h
 | p :: P,w :: vs,0,m,nd,h1,h2,hk=>by
  simp at h1 h2; subst h1; subst h2
  show bindL kindOf ((p,w) :: P.zip vs) m p = _
  unfold bindL
  rw [zHt λv hv=>(nodup_cons.mp nd).1 (of_mem_zip hv).1,if_pos hk]
  simp
 | p :: P,w :: vs,i + 1,m,nd,h1,h2,hk=>by
  show bindL kindOf ((p,w) :: P.zip vs) m x = _
  unfold bindL
  exact zHu (i:=i) (nodup_cons.mp nd).2 (by simpa using h1) (by simpa using h2) hk
theorem zHw {kindOf:Str->Option NameKind}:∀ {P:List Str} {vs:List Value} {i:Nat} {m:Str->Option Value},P.Nodup->P[i]? = some x->vs[i]? = some v->kindOf x ≠ some .local ->
  bindC kindOf (P.zip vs) m x = some v
 | [],_,_,_,_,h,_,_=>by simp at h
 | _ :: _,[],_,_,_,_,h,_=>by simp at h
 | p :: P,w :: vs,0,m,nd,h1,h2,hk=>by
  simp at h1 h2; subst h1; subst h2
  show bindC kindOf ((p,w) :: P.zip vs) m p = _
  unfold bindC
  rw [zHv λv hv=>(nodup_cons.mp nd).1 (of_mem_zip hv).1,if_neg hk]
  simp
 | p :: P,w :: vs,i + 1,m,nd,h1,h2,hk=>by
  show bindC kindOf ((p,w) :: P.zip vs) m x = _
  unfold bindC
  exact zHw (i:=i) (nodup_cons.mp nd).2 (by simpa using h1) (by simpa using h2) hk
def start (N:List Str) (vs:List V):St:=vs.map some ++ replicate (N.length - vs.length) none
def cxOf (CX:CXT) (P:Program) (w:World) (K:PySem.W.Frag) (mg:Str->Option Value) (base:Heap) (N:List Str) (qual:Str) (scope:Scope) (f:Addr) (cd:Value) (A:Around) (outer:List Env) (s:Shared) (H:Hp) (E:XK):Cx where
 prog:=P
 w:=w
 K:=K
 mg:=mg
 base:=base
 A:=A.deeper (envOfC qual scope s.heap.objs.size f cd)
 N:=N
 s₀:=s
 H₀:=H
 env:=envOfC qual scope s.heap.objs.size f cd
 outer:=outer
 stack:=envOfC qual scope s.heap.objs.size f cd :: outer
 ex:=[]
 calm:=true
 fn:=λ_=>true
 pn:=[]
 xe:=λe s'=>wpAny (model P w) (A.deeper (envOfC qual scope s.heap.objs.size f cd)) (leaving (envOfC qual scope s.heap.objs.size f cd) e) (λ_ s''=>CX outer H s E e s'') (λe' s''=>CX outer H s E e' s'') s'
theorem zJ5 {sc:Scope} (h:sc.names.lookup x = some .cell):∃ c,(cellsFrom n sc.names []).lookup x = some c:=by
 have q:=cellsFrom_some sc.names n [] (.inl h)
 exact Option.isSome_iff_exists.mp q
theorem zNk {CX:CXT} {P:Program} {w:World} {K:PySem.W.Frag} {mg:Str->Option Value} {base:Heap} {N ps:List Str} {qual:Str} {scope:Scope} {f:Addr} {cd:Value} {A:Around} {outer:List Env} {s s1:Shared} {H:Hp} {E:XK} {us:List Value} {vs:List V}
  (S:FnScope N ps scope) (hd:A.handled = none) (e0:Env0 P w K mg base A outer s H) (hl:vs.length = ps.length) (r:Vals vs us)
  (x:InCallC s s.heap.objs.size (bindL (envOfC qual scope s.heap.objs.size f cd).kindOf (ps.zip us) λ_=>none) (cellsFrom (s.heap.objs.size + 1) scope.names []) (bindC (envOfC qual scope s.heap.objs.size f cd).kindOf (ps.zip us) λ_=>none) s1) :
  Inv (cxOf CX P w K mg base N qual scope f cd A outer s H E) [] (start N vs) H s1:=by
 have hpl:ps.length <= N.length:=by have:=congrArg length S.pre; rw [length_take] at this; omega
 obtain ⟨h1,tk,rfl,hk⟩:=x.done
 have noA:∀ b:Addr,b ∉ (cxOf CX P w K mg base N qual scope f cd A outer s H E).ex:=λb z=>absurd (show b ∈ ([]:List Addr) from z) (by simp)
 refine ⟨⟨e0.mod,S.kind,rfl,rfl,Nat.le_refl _,λy z c h1 h2=>?_,λy hy=>?_,λy c _ h=>?_,λ_=>hd,Around.frames_deeper e0.frames,.inr ⟨rfl,rfl⟩,λb z=>absurd z (noA b),e0.bs,e0.bsz,λb _ _=>noA b,λb z=>absurd z (noA b),e0.funs,e0.frf⟩,
  rfl,e0.bare,Un.kept hk,⟨_,x.toInCall.ns,λi y v h1 h2 h3=>?_⟩,λy c h=>⟨_,x.cell y c h⟩,e0.hok.fresh (Nat.le_refl _),λy c h=>?_,λp hp=>absurd (show p ∈ ([]:List (Addr × Obj)) from hp) (by simp),e0.hok.kept hk,?_⟩
 ·exact name_of_addr x.apart (PySem.mem_of_lookup h1) (PySem.mem_of_lookup h2)
 ·have hy:scope.names.lookup y = some .cell \/ scope.names.lookup y = some .free:=hy
  rcases hy with hy | hy
  ·exact zJ5 hy
  ·exact absurd rfl (S.nofree _ (PySem.mem_of_lookup hy))
 ·exact Nat.le_of_lt (x.above y c (PySem.mem_of_lookup h))
 ·have hi:i < vs.length:=by
   unfold start at h2
   by_cases hi:i < vs.length
   ·exact hi
   ·rw [getElem?_append_right (by simpa using hi)] at h2
    rw [getElem?_replicate] at h2
    split at h2 <;> cases h2
  have ha:vs[i]? = some v:=by
   unfold start at h2
   rw [getElem?_append_left (by simpa using hi),getElem?_map] at h2
   cases e:vs[i]? with
   | none=>rw [e] at h2; cases h2
   | some a=>rw [e] at h2; cases h2; rfl
  obtain ⟨u,hu,rv⟩:=r.get ha
  have hp:ps[i]? = some y:=by
   rw [<- S.pre,getElem?_take_of_lt (by omega)]; exact h1
  have ndP:ps.Nodup:=by rw [<- S.pre]; exact S.nd.sublist (List.take_sublist _ _)
  refine ⟨u,rv,?_⟩
  rcases S.par y (mem_of_getElem? hp) with k | k
  ·exact .inl ⟨k,zHu ndP hp hu k⟩
  ·obtain ⟨c,e⟩:=zJ5 (n:=s.heap.objs.size + 1) k
   refine .inr ⟨.inl k,c,e,?_⟩
   have q:=x.cell y c e
   rw [zHw ndP hp hu (by show scope.names.lookup y ≠ _; rw [k]; decide)] at q
   exact q
 ·exact e0.hok.fresh (Nat.le_of_lt (x.above y c (PySem.mem_of_lookup h)))
 ·unfold start
  show _ = N.length
  rw [length_append,length_map,length_replicate]
  omega
theorem fn_of {CX:CXT} {P:Program} {w:World} {K:PySem.W.Frag} {mg:Str->Option Value} {base:Heap} {k:Nat} {f:Addr} {name qual:Str} {params:Arguments} {body:List Stmt} {scope:Scope} {dV kV doc pm cdv ct oc:Value} {an od:Option Addr}
  {osl:Array (Option Value)} {N ps:List Str} {sp:Sp} (lk:K.lookup f = some ⟨oc,od,.func (fnOf name qual params body scope dV kV doc pm an cdv ct),osl⟩) (hcd:codeIn K cdv qual = true) (S:FnScope N ps scope)
  (len:∀ vs H Q E,sp vs H Q E->vs.length = ps.length)
  (hbody:∀ (A:Around) (outer:List Env) (s:Shared) (H:Hp) (vs:List V) (Q:VK) (E:XK),Room k (A.deeper (envOfC qual scope s.heap.objs.size f cdv))->sp vs H Q E ->
   ∃ t,PSs (cxOf CX P w K mg base N qual scope f cdv A outer s H E) body t /\ t { nx:=λ_ H'=>Q .non H',rt:=Q } (start N vs) H) :
  FnOk P w K mg base CX (k + 1) f (fnOf name qual params body scope dV kV doc pm an cdv ct) ps sp:=by
 refine ⟨len,λA outer s H args us vs Q E hr e0 hb r hsp=>?_⟩
 have hl:=len _ _ _ _ hsp
 have KX:K.In s.heap:=e0.mod.kin.keeps λb o e=>(e0.bs b o e).1
 have lim:s.heap.NoLimit:=e0.mod.nolimit.keeps λb o e=>(e0.bs b o e).1
 have hkind:∀ y ∈ ps.zip us,scope.names.lookup y.1 = some .local \/ (scope.names.lookup y.1 = some .cell /\ ((cellsFrom (s.heap.objs.size + 1) scope.names []).lookup y.1).isSome = true):=λ⟨n,v⟩ hy=>by
  rcases S.par n (of_mem_zip hy).1 with q | q
  ·exact .inl q
  ·exact .inr ⟨q,cellsFrom_some _ _ _ (.inl q)⟩
 refine codeAny_call_function hr.depth (KX _ _ lk) rfl S.co S.gen rfl (PySem.W.codeRec_of KX hcd) (hb _ _ _ _ ?_)
 refine wpAny_newFunctionEnv_cells S.kind hkind λenv he s1 x=>?_
 subst he
 refine ⟨lim.keeps x.toInCall.keep,codeAny_func ?_⟩
 obtain ⟨t,ht,hq⟩:=hbody A outer s H vs Q E (hr.deeper _) hsp
 have I:Inv (cxOf CX P w K mg base N qual scope f cdv A outer s H E) [] (start N vs) H s1:=zNk S hr.hd e0 hl r x
 refine wpAny_mono (ht [] s1 (start N vs) H _ I hq) (λfl s' hs=>?_) λe s' hs=>hs
 have fin:∀ {σ':St} {H':Hp} {v:V} {u:Value},Inv (cxOf CX P w K mg base N qual scope f cdv A outer s H E) [] σ' H' s'->RelV v u->Q v H'->CE outer P w H s Q u s' :=
  λ{σ' H' v u} J rv q=>⟨v,H',J.os,J.bare,J.base,J.hok,rv,q⟩
 cases fl with
 | ret u =>
  obtain ⟨v,σ',H',J,rv,q⟩:=hs
  exact fin J rv q
 | next =>
  obtain ⟨σ',H',J,q⟩:=hs
  exact fin (v:=V.non) (u:=Value.none) J rfl q
 | brk =>
  obtain ⟨_,_,_,q⟩:=hs
  exact False.elim q
 | cont =>
  obtain ⟨_,_,_,q⟩:=hs
  exact False.elim q
section
variable {X:Cx} {x:Str} {p pos:Pos} {e:Expr} {es:List Expr} {t:TA} {id T:String} {r:List V->Hp->VK->Prop}
def tCB (r:List V->Hp->VK->Prop) (t:TA):TE:=λσ H Q=>t σ H λvs H1=>r vs H1 Q
theorem zN (hc:zBu X (.builtin id) r) (hg:Gl X x) (hm:X.mg x = none) (hv:bootBuiltins x = some (.builtin id)) (ha:PA X (e :: es) t) (hn:x ≠ "__name__":=by decide) (hdb:(x == ("__debug__":Str)) = false:=by decide)
  (he:starEach (e :: es) X.env = (false,eval e X.env) :: starEach es X.env:=by rfl) (hpl:(backTo pos (starEach es X.env)).any (·.1) = false:=by rfl):PE X (.Call (.Name x p) (e :: es) [] pos) (tCB r t):=by
 intro pins s σ H Q I h
 refine wpAny_Call_Name_kw (zB0 I hg hm hv ?_ hn hdb)
 exact PyProof.Rows.callWith_builtin1 (thn (ha pos pins s σ H _ I h) λus s1 ⟨vs,H1,I1,r1,q1⟩=>hc pins s1 σ H1 vs us Q I1 r1 q1) he hpl
theorem vG (hc:zBu X (.type T) r) (hg:Gl X x) (hm:X.mg x = none) (hv:bootBuiltins x = some (.type T)) (ha:PA X (e :: es) t) (hn:x ≠ "__name__":=by decide) (hdb:(x == ("__debug__":Str)) = false:=by decide)
  (he:starEach (e :: es) X.env = (false,eval e X.env) :: starEach es X.env:=by rfl) (hpl:(backTo pos (starEach es X.env)).any (·.1) = false:=by rfl):PE X (.Call (.Name x p) (e :: es) [] pos) (tCB r t):=by
 intro pins s σ H Q I h
 refine wpAny_Call_Name_kw (zB0 I hg hm hv ?_ hn hdb)
 exact PyProof.Rows.callWith_type1 (thn (ha pos pins s σ H _ I h) λus s1 ⟨vs,H1,I1,r1,q1⟩=>hc pins s1 σ H1 vs us Q I1 r1 q1) he hpl
end
section
variable {κ:Type} [DecidableEq κ]
def valV (kvs:List (κ × V)) (k:κ):Option V:=(kvs.find? λkv=>decide (kv.1 = k)).map (·.2)
def putK (kvs:List (κ × V)) (k:κ) (v:V):List (κ × V) :=
 if (kvs.any λkv=>decide (kv.1 = k)) = true then kvs.map (λkv=>if kv.1 = k then (kv.1,v) else kv) else kvs ++ [(k,v)]
theorem zFa {p:κ × V} {r:List (κ × V)} {k:κ} (e:p.1 = k):valV (p :: r) k = some p.2:=by simp [valV,find?_cons,e]
theorem zFb {p:κ × V} {r:List (κ × V)} {k:κ} (e:¬ p.1 = k):valV (p :: r) k = valV r k:=by simp [valV,find?_cons,e]
theorem zI3 (k:κ):∀ kvs:List (κ × V),(kvs.any λkv=>decide (kv.1 = k)) = (valV kvs k).isSome
 | []=>rfl
 | p :: r=>by
  rw [any_cons]
  by_cases e:p.1 = k
  ·simp only [zFa e,decide_eq_true e,Bool.true_or,Option.isSome_some]
  ·rw [zFb e,decide_eq_false e,Bool.false_or]; exact zI3 k r
theorem zDt (kvs:List (κ × V)) (k:κ) (v:V):(putK kvs k v).length <= kvs.length + 1:=by
 unfold putK
 split
 ·rw [length_map]; omega
 ·rw [length_append,length_cons,List.length_nil]; omega
theorem RelO.isSome_eq (r:RelO o u):o.isSome = u.isSome:=by
 cases o with
 | none=>cases u with
  | none=>rfl
  | some _=>exact (show False from r).elim
 | some _=>cases u with
  | none=>exact (show False from r).elim
  | some _=>rfl
theorem RelO.getD (r:RelO o u) (rd:RelV d d'):RelV (o.getD d) (u.getD d'):=by
 cases o with
 | none=>cases u with
  | none=>exact rd
  | some _=>exact (show False from r).elim
 | some _=>cases u with
  | none=>exact (show False from r).elim
  | some _=>exact r
theorem KV.val (r:KV kvs vs) (k:κ):RelO (valV kvs k) (valueAt vs k):=by
 unfold KV at r
 induction r with
 | nil=>exact True.intro
 | @cons p q ps qs h t ih =>
  obtain ⟨h1,h2⟩:=h
  by_cases e:p.1 = k
  ·have e':q.1 = k:=h1.symm.trans e
   have b:valueAt (q :: qs) k = some q.2:=by simp [valueAt,find?_cons,e']
   rw [zFa e,b]; exact h2
  ·have e':¬ q.1 = k:=λz=>e (h1.trans z)
   have b:valueAt (q :: qs) k = valueAt qs k:=by simp [valueAt,find?_cons,e']
   rw [zFb e,b]; exact ih
theorem KV.any (r:KV kvs vs) (k:κ):(kvs.any λkv=>decide (kv.1 = k)) = vs.any λkv=>decide (kv.1 = k):=by
 unfold KV at r
 induction r with
 | nil=>rfl
 | cons h t ih=>rw [any_cons,any_cons,ih,h.1]
theorem KV.repl (r:KV kvs vs) (k:κ) (ry:RelV y u) :
  KV (kvs.map λkv=>if kv.1 = k then (kv.1,y) else kv) (vs.map λkv=>if kv.1 = k then (kv.1,u) else kv):=by
 unfold KV at r ⊢
 induction r with
 | nil=>exact .nil
 | @cons p q ps qs h t ih =>
  rw [map_cons,map_cons]
  refine .cons ?_ ih
  obtain ⟨h1,h2⟩:=h
  by_cases e:p.1 = k
  ·rw [if_pos e,if_pos (h1.symm.trans e)]; exact ⟨h1,ry⟩
  ·rw [if_neg e,if_neg (λz=>e (h1.trans z))]; exact ⟨h1,h2⟩
theorem KV.put (r:KV kvs vs) (k:κ) (ry:RelV y u):KV (putK kvs k y) (stored vs k u):=by
 unfold putK stored
 rw [r.any k]
 by_cases e:(vs.any λkv=>decide (kv.1 = k)) = true
 ·rw [if_pos e,if_pos e]; exact r.repl k ry
 ·rw [if_neg e,if_neg e]; exact Paired.snoc r ⟨rfl,ry⟩
theorem KV.length (r:KV kvs vs):kvs.length = vs.length:=Paired.length r
end
theorem kV_is (r:RelV (kV k) u):(vC P w).is k u = true:=by
 cases k with
 | inl i=>obtain ⟨t,e⟩:=(show ∃ t,u = Value.int i t from r); subst e; exact zIl P w i t
 | inr x=>obtain ⟨t,e⟩:=(show ∃ t,u = Value.str x t from r); subst e; exact zIk P w x t
theorem zHd:∀ {ks:List Key} {us:List Value},Vals (ks.map kV) us->ItemsAre (vC P w) ks us
 | [],_,r=>by rw [List.map_nil] at r; cases r; exact .nil
 | k :: ks,_,r=>by
  rw [map_cons] at r
  cases r with
  | cons h t=>exact .cons (kV_is h) (zHd t)
abbrev KT (H:Hp):List (List Key × V)->List (List Key × Addr × Value)->Prop:=Paired λp q=>p.1 = q.1 /\ H q.2.1 = some (.tup (p.1.map kV)) /\ RelV p.2 q.2.2
theorem KT.val (r:KT H kvs xs) (k:List Key):RelO (valV kvs k) ((atKey xs k).map (·.2)):=by
 induction r with
 | nil=>exact True.intro
 | @cons p q ps qs h t ih =>
  obtain ⟨h1,_,h2⟩:=h
  by_cases e:p.1 = k
  ·have e':q.1 = k:=h1.symm.trans e
   have b:atKey (q :: qs) k = some q.2:=by simp [atKey,find?_cons,e']
   rw [zFa e,b]; exact h2
  ·have e':¬ q.1 = k:=λz=>e (h1.trans z)
   have b:atKey (q :: qs) k = atKey qs k:=by simp [atKey,find?_cons,e']
   rw [zFb e,b]; exact ih
theorem KT.repl (r:KT H kvs xs) (k:List Key) (ry:RelV y u) :
  KT H (kvs.map λkv=>if kv.1 = k then (kv.1,y) else kv) (xs.map (putAt k u)):=by
 induction r with
 | nil=>exact .nil
 | @cons p q ps qs h t ih =>
  rw [map_cons,map_cons]
  refine .cons ?_ ih
  obtain ⟨h1,h2,h3⟩:=h
  unfold putAt
  by_cases e:p.1 = k
  ·rw [if_pos e,if_pos (h1.symm.trans e)]; exact ⟨h1,h2,ry⟩
  ·rw [if_neg e,if_neg (λz=>e (h1.trans z))]; exact ⟨h1,h2,h3⟩
theorem KT.put (r:KT H kvs xs) (k:List Key) (hb:H b = some (.tup (k.map kV))) (ry:RelV y u) :
  KT H (putK kvs k y) (storedH xs k b u):=by
 have e:(kvs.any λkv=>decide (kv.1 = k)) = (atKey xs k).isSome:=by
  rw [zI3,(r.val k).isSome_eq,Option.isSome_map]
 unfold putK storedH
 rw [e]
 by_cases q:(atKey xs k).isSome = true
 ·rw [if_pos q,if_pos q]; exact r.repl k ry
 ·rw [if_neg q,if_neg q]; exact Paired.snoc r ⟨rfl,hb,ry⟩
theorem KT.keeps (r:KT H kvs xs) (ht:∀ b ys,H b = some (.tup ys)->H' b = some (.tup ys)):KT H' kvs xs :=
 Paired.mapP r λ_ _ z=>⟨z.1,ht _ _ z.2.1,z.2.2⟩
section
variable {P:Program} {w:World} {H:Hp} {h:Heap} {a:Addr}
theorem rd_of (ok:HOk P w H h) (e:Rd H a u):ObjOk P w H h a u:=e.ok ok
theorem dk_rd (ok:HOk P w H h) (e:Rd H a (.dK kvs)):kvs.length <= sizeLine /\ (a == sysModules) = false /\ ∃ vs,KV kvs vs /\ h.DictOf (vC P w) a vs :=
 show ObjOk P w H h a (.dK kvs) from rd_of ok e
theorem dk_of (ok:HOk P w H h) (e:H a = some (.dK kvs)):kvs.length <= sizeLine /\ (a == sysModules) = false /\ ∃ vs,KV kvs vs /\ h.DictOf (vC P w) a vs:=dk_rd ok (.inl e)
theorem zNd {ks:List Key} (ok:HOk P w H h) (e:H a = some (.tup (ks.map kV))):(tupleKind (vC P w)).is h ks a:=by
 obtain ⟨_,its,r,o,h1,h2,n,h3⟩:=(show ObjOk P w H h a (.tup (ks.map kV)) from ok a _ e)
 exact ⟨o,its.toArray,n,h1,h2,h3,by simpa using zHd r⟩
theorem dt_rd (ok:HOk P w H h) (e:Rd H a (.dT kvs)):kvs.length <= sizeLine /\ (a == sysModules) = false /\
  ∃ xs,KT H kvs xs /\ h.DictOfH (tupleKind (vC P w)) a xs:=by
 obtain ⟨z,y,xs,r,o,es,ep,h1,h2,h3,h4,h5⟩:=(show ObjOk P w H h a (.dT kvs) from rd_of ok e)
 refine ⟨z,y,xs,r,o,es,ep,h1,h2,h3,h4,λx hx=>?_,h5⟩
 have all:∀ {l:List (List Key × V)} {m:List (List Key × Addr × Value)},KT H l m->∀ x ∈ m,(tupleKind (vC P w)).is h x.1 x.2.1:=by
  intro l m q
  induction q with
  | nil=>intro x hx; exact nomatch hx
  | @cons p q ps qs hq t ih =>
   intro x hx
   rcases mem_cons.mp hx with e | hx
   ·subst e
    exact zNd ok (by rw [<- hq.1]; exact hq.2.1)
   ·exact ih x hx
 exact all r x hx
theorem dt_of (ok:HOk P w H h) (e:H a = some (.dT kvs)):kvs.length <= sizeLine /\ (a == sysModules) = false /\
  ∃ xs,KT H kvs xs /\ h.DictOfH (tupleKind (vC P w)) a xs:=dt_rd ok (.inl e)
end
def DGet (H:Hp) (a:Addr) (y:V) (r:Option V):Prop :=
 (∃ kvs k,Rd H a (.dK kvs) /\ y = kV k /\ r = valV kvs k) \/ ∃ kvs k b,Rd H a (.dT kvs) /\ y = .ref b /\ H b = some (.tup (k.map kV)) /\ r = valV kvs k
def DPut (H:Hp) (a:Addr) (y v:V) (H':Hp):Prop :=
 (∃ kvs k,H a = some (.dK kvs) /\ y = kV k /\ kvs.length < sizeLine /\ H' = upd H a (.dK (putK kvs k v))) \/
 ∃ kvs k b,H a = some (.dT kvs) /\ y = .ref b /\ H b = some (.tup (k.map kV)) /\ kvs.length < sizeLine /\ H' = upd H a (.dT (putK kvs k v))
theorem DGet.k {H:Hp} {a:Addr} {kvs:List (Key × V)} {k:Key} (e:H a = some (.dK kvs)):DGet H a (kV k) (valV kvs k):=.inl ⟨kvs,k,.inl e,rfl,rfl⟩
theorem DPut.k {H:Hp} {a:Addr} {kvs:List (Key × V)} {k:Key} {v:V} (e:H a = some (.dK kvs)) (hl:kvs.length < sizeLine):DPut H a (kV k) v (upd H a (.dK (putK kvs k v))):=.inl ⟨kvs,k,e,rfl,hl,rfl⟩
section
variable {X:Cx} {pins:List (Addr × Obj)} {σ:St} {H:Hp} {s:Shared} {a:Addr} {y v:V} {u r:Value} {o:Option V} {A:Around} {E:Value->Shared->Prop}
theorem Inv.big (I:Inv X pins σ H s):sysModules < s.heap.objs.size:=by
 have h:mainGlobals < s.heap.objs.size:=(I.mod.glob.keeps I.bk).lt
 exact Nat.lt_trans (by decide) h
theorem d_in {Q:Value->Shared->Prop} (hu:A.units + 1 < cLine) (I:Inv X pins σ H s) (g:DGet H a y o) (ry:RelV y u) (h:∀ s',Inv X pins σ H s'->Q (.bool o.isSome) s') :
  wpAny (model X.prog X.w) A (compareOp .In u (.ref a)) Q E s:=by
 rcases g with ⟨kvs,k,e,ey,l⟩ | ⟨kvs,k,b,e,ey,eb,l⟩
 ·subst ey
  obtain ⟨z,hd,vs,rel,dd⟩:=dk_rd I.hok e
  refine wpAny_in_of (kV_is ry) hd dd.mapOf ?_
  rw [<- (rel.val k).isSome_eq,<- l]
  exact h _ (I.tok _)
 ·subst ey
  cases (show u = Value.ref b from ry)
  obtain ⟨z,hd,xs,rel,dd⟩:=dt_rd I.hok e
  refine wpAny_in_heap (tupleKind_room_in1 hu) (zNd I.hok eb) hd dd ?_
  have q:=(rel.val k).isSome_eq
  rw [Option.isSome_map] at q
  rw [<- q,<- l]
  exact h _ (I.tok _)
theorem zOa (I:Inv X pins σ H s) (mu:Mut (H a)) (hs:SameBut a s.heap h') (he:∃ q,h'.get? a = some q) (new:ObjOk X.prog X.w (upd H a ob) h' a ob) :
  Inv X pins σ (upd H a ob) { s with heap:=h',toks:=t' } :=
 I.write (x:=a) (e:=a) mu (.inl rfl) (λb q hb z=>(hs.2 b hb).trans z) he new
theorem dk_new {h':Heap} {kvs:List (Key × V)} (z:kvs.length <= sizeLine) (hd:(a == sysModules) = false) (rel:KV kvs vs) (dd:h'.DictOf (vC P w) a vs) :
  ObjOk P w H' h' a (.dK kvs):=⟨z,hd,vs,rel,dd⟩
theorem zOb {Q:Unit->Shared->Prop} (hu:A.units + 1 < cLine) (I:Inv X pins σ H s) (g:DPut H a y v H') (ry:RelV y u) (rv:RelV v r) (h:∀ s',Inv X pins σ H' s'->Q () s') :
  wpAny (model X.prog X.w) A (setItem (.ref a) u r) Q E s:=by
 rcases g with ⟨kvs,k,e,ey,l,eH⟩ | ⟨kvs,k,b,e,ey,eb,l,eH⟩
 ·subst ey eH
  obtain ⟨z,hd,vs,rel,dd⟩:=dk_of I.hok e
  have hz:vs.length <= sizeLine:=by rw [<- rel.length]; exact z
  have hl:(putK kvs k v).length <= sizeLine:=by have:=zDt kvs k v; omega
  refine wpAny_setItem_pairs (hsz:=hz) (kV_is ry) dd λh' dd' hs=>h _ ?_
  have he:∃ q,h'.get? a = some q:=let ⟨q,_,_,hq,_⟩:=dd'; ⟨q,hq⟩
  exact zOa I (by rw [e]; exact True.intro) hs he (dk_new hl hd (rel.put k rv) dd')
 ·subst ey eH
  cases (show u = Value.ref b from ry)
  obtain ⟨z,hd,xs,rel,dd⟩:=dt_of I.hok e
  have hz:xs.length <= sizeLine:=by rw [<- Paired.length rel]; exact z
  have hl:(putK kvs k v).length <= sizeLine:=by have:=zDt kvs k v; omega
  refine wpAny_setItem_heap (hsz:=hz) (tupleKind_room_in1 hu) (zNd I.hok eb) dd λh' dd' hs=>h _ ?_
  obtain ⟨q,es,ep,hq,h2,h3,h4,_,h5⟩:=dd'
  refine zOa I (by rw [e]; exact True.intro) hs ⟨q,hq⟩ ⟨hl,hd,_,(rel.put k eb rv).keeps λc ys ec=>?_,q,es,ep,hq,h2,h3,h4,h5⟩
  rw [zO (ne_of ec e (λz=>nomatch z))]
  exact ec
end
section
variable {X:Cx} {pins:List (Addr × Obj)} {σ:St} {H:Hp} {s:Shared} {a:Addr} {kvs:List (Key × V)} {k:Key} {u:Value} {A:Around} {E:Value->Shared->Prop}
end
def tDIn (ty td:TE):TE:=λσ H Q=>ty σ H λy H1=>td σ H1 λx H2=>∃ a o,x = .ref a /\ DGet H2 a y o /\ Q (.bl o.isSome) H2
def sDPut (td ty tv:TE):TS:=λD σ H=>tv σ H λv H1=>td σ H1 λx H2=>ty σ H2 λy H3=>∃ a H4,x = .ref a /\ DPut H3 a y v H4 /\ D.nx σ H4
section
variable {X:Cx} {o i e value:Expr} {pos pos' tpos:Pos} {td ty tv:TE}
theorem zQ5 (hu:X.A.units + 1 < cLine) (hi:PE X i ty) (ho:PE X o td):PC X .In i o (tDIn ty td):=by
 intro pins s σ H Q I h
 refine thn (hi pins s σ H _ I h) λiv s1 ⟨y,H1,I1,ry,q1⟩=>thn (ho pins s1 σ H1 _ I1 q1) λu s2 ⟨x,H2,I2,rx,a,ov,ex,g,q2⟩=>?_
 subst ex
 obtain rfl:u = Value.ref a:=rx
 exact d_in hu I2 g ry λs3 I3=>⟨.bl ov.isSome,H2,I3,rfl,q2⟩
theorem zMi (hu:X.A.units + 1 < cLine) (ho:PE X o td) (hi:PE X i ty) (hv:PE X value tv) (hs:swapsWith value (some (.Subscript o i pos')) pos.line X.env = pure false) :
  PS X (.Assign [.Subscript o i pos'] value pos) (sDPut td ty tv):=by
 intro pins s σ H D I h
 refine wpAny_Assign_Subscript (thn (hv pins s σ H _ I h) λr s1 ⟨v,H1,I1,rv,q1⟩=>thn (ho pins s1 σ H1 _ I1 q1) λu s2 ⟨x,H2,I2,rx,q2⟩=>thn (hi pins s2 σ H2 _ I2 q2) λiv s3 ⟨y,H3,I3,ry,a,H4,ex,g,q3⟩=>?_) hs
 subst ex
 obtain rfl:u = Value.ref a:=rx
 exact zOb hu I3 g ry rv λs4 I4=>⟨σ,H4,I4,q3⟩
end
theorem zQa (h:Heap) (hb:sysModules < h.objs.size):ObjOk P w H (h.push { cls:=.type "dict",data:=.dict #[] }) h.objs.size (.dK []) :=
 ⟨Nat.zero_le _,beq_eq_false_iff_ne.mpr (Ne.symm (Nat.ne_of_lt hb)),[],.nil,Heap.DictOf.new h⟩
def zQq:TE:=λ_ H Q=>∀ p,H p = none->Q (.ref p) (upd H p (.dK []))
section
variable {X:Cx} {pos:Pos}
theorem zJm:PE X (.Dict [] [] pos) zQq:=λpins s σ H Q I h =>
 wpAny_Dict_empty ⟨.ref s.heap.objs.size,_,I.laid (a:=s.heap.objs.size) (o:=.dK []) (t':=s.toks) (λ_ _ q=>get?_push_of_some _ q) (Nat.le_refl _) (zQa s.heap I.big),rfl,h _ (I.hok.fresh (Nat.le_refl _))⟩
end
structure M1 (X:Cx) (o:Expr) (m:Str) (apos:Pos) (e:Expr) (cpos:Pos):Prop where
 base:attributeBase o m X.env (eval o X.env) = eval o X.env
 few:((backTo cpos (starEach [e] X.env)).all (λx=>!x.1) && (backToKw cpos (keywordEach [] X.env)).all (λx=>x.1.isSome)
  && decide (([e]:List Expr).length + ([]:List Keyword).length + (if ([]:List Keyword).isEmpty then 0 else 1) < 30)) = true
 line:(apos.endLine == cpos.line) = true
 trees:backTo cpos (starEach [e] X.env) = [(false,eval e X.env)]
structure M2 (X:Cx) (o:Expr) (m:Str) (apos:Pos) (e f:Expr) (cpos:Pos):Prop where
 base:attributeBase o m X.env (eval o X.env) = eval o X.env
 few:((backTo cpos (starEach [e,f] X.env)).all (λx=>!x.1) && (backToKw cpos (keywordEach [] X.env)).all (λx=>x.1.isSome)
  && decide (([e,f]:List Expr).length + ([]:List Keyword).length + (if ([]:List Keyword).isEmpty then 0 else 1) < 30)) = true
 line:(apos.endLine == cpos.line) = true
 trees:backTo cpos (starEach [e,f] X.env) = [(false,eval e X.env),(false,eval f X.env)]
section
variable {X:Cx} {pins:List (Addr × Obj)} {σ:St} {H:Hp} {s:Shared} {a:Addr} {y d:V} {u r:Value} {o:Option V} {A:Around} {E:Value->Shared->Prop}
end
section
variable {X:Cx} {o e f:Expr} {apos cpos:Pos} {td ty tx:TE}
end
section
variable {X:Cx} {pins:List (Addr × Obj)} {σ:St} {H:Hp} {s:Shared} {a:Addr} {kvs:List (Key × V)} {A:Around} {E:Value->Shared->Prop}
end
section
variable {X:Cx} {pins:List (Addr × Obj)} {σ:St} {H:Hp} {s:Shared} {a:Addr} {y:V} {u:Value} {A:Around} {E:Value->Shared->Prop}
end
end L2
namespace HT
open PySem PyProof.Rows
section
open PySem.SeqAt
open PySem.AutoSeq1 (wpAny_loadPart')
open PySem.MeetsSeq PySem.MeetsSeq2 PySem.MeetsSeq3
end
section
variable {prog:Program} {w:World} {A:Around} {E:Value->Shared->Prop} {s:Shared}
def sIx (n d:Nat):Option Int->Nat
 | none=>d
 | some v=>if v < 0 then (v + (n:Int)).toNat else min v.toNat n
end
end HT
namespace L2
open PySem PySem.Spec PyProof.Rows
abbrev TO:=St->Hp->(Option Int->Hp->Prop)->Prop
def PO (X:Cx) (e:Option Expr) (t:TO):Prop :=
 ∀ (pins:List (Addr × Obj)) (s:Shared) (σ:St) (H:Hp) (Q:Option Int->Hp->Prop),Inv X pins σ H s->t σ H Q ->
  wpAny (model X.prog X.w) X.A (evalPart e X.env) (λu s'=>∃ o H',Inv X pins σ H' s' /\ IsPart u o /\ Q o H') X.xe s
def zFc:TO:=λ_ H Q=>Q none H
def zKh (t:TE):TO:=λσ H Q=>t σ H λx H1=>∃ i,x = .int i /\ Q (some i) H1
section
variable {X:Cx} {e:Expr} {te:TE} {lo hi:Option Expr} {tl th:TO} {pos p2:Pos}
theorem zH8:PO X none zFc:=by
 intro pins s σ H Q I h
 rw [evalPart_none]
 exact wpAny_pure ⟨none,H,I,.none,h⟩
theorem zDl (h:PE X e te):PO X (some e) (zKh te):=by
 intro pins s σ H Q I hw
 rw [evalPart_some]
 refine thn (h pins s σ H _ I hw) λu s1 ⟨x,H1,I1,r1,q1⟩=>?_
 obtain ⟨i,rfl,q⟩:=q1
 obtain ⟨t,rfl⟩:=r1
 exact ⟨some i,H1,I1,.int i t,q⟩
def SlR (X:Cx) (r:V->Option Int->Option Int->Hp->VK->Prop):Prop :=
 ∀ (pins:List (Addr × Obj)) (s:Shared) (σ:St) (H:Hp) (x:V) (v vl vu:Value) (lo hi:Option Int) (sl:Addr) (Q:VK),Inv X pins σ H s->RelV x v->s.heap.IsSliceOf sl vl vu .none->IsPart vl lo->IsPart vu hi->r x lo hi H Q ->
  ∃ T id,typeLookup (.type T) "__getitem__" = pure (some (.builtin id)) /\ s.TypeIs v T /\ wpAny (model X.prog X.w) X.A (getItem v (.ref sl)) (EP X pins σ Q) X.xe s
def tSl (r:V->Option Int->Option Int->Hp->VK->Prop) (te:TE) (tl th:TO):TE:=λσ H Q=>te σ H λx H1=>tl σ H1 λl H2=>th σ H2 λu H3=>r x l u H3 Q
theorem zDb (hr:SlR X r) (he:PE X e te) (hl:PO X lo tl) (hu:PO X hi th):PE X (.Subscript e (.Slice lo hi none p2) pos) (tSl r te tl th):=by
 intro pins s σ H Q I h
 refine Subscript_ (thn (he pins s σ H _ I h) λv s1 ⟨x,H1,I1,r1,q1⟩=>?_)
 refine wpAny_Slice (thn (hl pins s1 σ H1 _ I1 q1) λvl s2 ⟨l,H2,I2,pl,q2⟩=>thn (hu pins s2 σ H2 _ I2 q2) λvu s3 ⟨u,H3,I3,pu,q3⟩=>?_)
 rw [evalPart_none]
 refine wpAny_pure ?_
 have I4:Inv X pins σ H3 { s3 with heap:=s3.heap.push { cls:=.type "slice",data:=.fields #[vl,vu,.none] } }:=I3.kept (t':=s3.toks) λb ob q=>get?_push_of_some _ q
 obtain ⟨T,id,hT,ht,hg⟩:=hr pins { s3 with heap:=s3.heap.push { cls:=.type "slice",data:=.fields #[vl,vu,.none] } } σ H3 x v vl vu l u s3.heap.objs.size Q I4 r1 (Heap.IsSliceOf.new ..) pl pu q3
 show wpAny (model X.prog X.w) X.A (subscriptTail e (.Slice lo hi none p2) v (.ref s3.heap.objs.size)) (EP X pins σ Q) X.xe { s3 with heap:=s3.heap.push { cls:=.type "slice",data:=.fields #[vl,vu,.none] } }
 exact tail_any (ops:=[.ref s3.heap.objs.size,v]) ht hT hg (by with_unfolding_all rfl)
def cutV (xs:List V) (lo hi:Option Int):List V:=(xs.drop (HT.sIx xs.length 0 lo)).take (HT.sIx xs.length xs.length hi - HT.sIx xs.length 0 lo)
theorem zIv (xs:List V) (lo hi:Option Int):(cutV xs lo hi).length <= xs.length:=by
 unfold cutV
 rw [length_take,length_drop]
 omega
end
def ixN (n:Nat) (i:Int):Option Nat:=if 0 <= i then (if i < n then some i.toNat else none) else if -(n:Int) <= i then some (i + n).toNat else none
def atI {α:Type} (xs:List α) (i:Int):Option α:=(ixN xs.length i).bind λj=>xs[j]?
theorem zNh (h:ixN n i = some j):seqIndex? i n = some j /\ j < n /\ -(n:Int) <= i /\ i < n:=by
 unfold ixN at h
 by_cases h0:0 <= i
 ·rw [if_pos h0] at h
  by_cases h1:i < n
  ·rw [if_pos h1] at h
   have e:i.toNat = j:=Option.some.inj h
   exact ⟨by rw [seqIndex_of h0 h1,e],by omega,by omega,h1⟩
  ·rw [if_neg h1] at h; cases h
 ·rw [if_neg h0] at h
  by_cases h1:-(n:Int) <= i
  ·rw [if_pos h1] at h
   have e:(i + n).toNat = j:=Option.some.inj h
   exact ⟨by rw [seqIndex_neg (by omega) h1,e],by omega,h1,by omega⟩
  ·rw [if_neg h1] at h; cases h
theorem zIx {α:Type} {xs:List α} {v:α} (h:atI xs i = some v):∃ j,seqIndex? i xs.length = some j /\ xs[j]? = some v /\ j < xs.length /\ -(xs.length:Int) <= i /\ i < xs.length:=by
 unfold atI at h
 cases e:ixN xs.length i with
 | none=>rw [e] at h; cases h
 | some j =>
  rw [e] at h
  obtain ⟨h1,h2,h3,h4⟩:=zNh e
  exact ⟨j,h1,h,h2,h3,h4⟩
theorem zD7 {α:Type} {xs:List α} {j:Nat} {v:α} (h:xs[j]? = some v):atI xs (j:Int) = some v:=by
 have hj:j < xs.length:=(List.getElem?_eq_some_iff.mp h).1
 have e:ixN xs.length (j:Int) = some j:=by
  unfold ixN
  rw [if_pos (by omega),if_pos (by omega)]; simp
 unfold atI; rw [e]; exact h
def PlainIx (b:Expr):Prop:=∀ o i,subscripted b false o i = operate [o,i] (getItem o i)
def IxR (X:Cx) (r:R2):Prop :=
 ∀ (value slice:Expr) (pins:List (Addr × Obj)) (s:Shared) (σ:St) (H:Hp) (x y:V) (v u:Value) (Q:VK),Inv X pins σ H s->RelV x v->RelV y u->r x y H Q ->
  subscripted slice false v u = operate [v,u] (getItem v u)->wpAny (model X.prog X.w) X.A (subscriptTail value slice v u) (EP X pins σ Q) X.xe s
def MtR (X:Cx) (id:String) (r:V->List V->Hp->VK->Prop):Prop :=
 ∀ (pins:List (Addr × Obj)) (s:Shared) (σ:St) (H:Hp) (x:V) (xs:List V) (v:Value) (us:List Value) (Q:VK),Inv X pins σ H s->RelV x v->Vals xs us->r x xs H Q ->
  wpAny (model X.prog X.w) X.A (call (.builtin id) (v :: us)) (EP X pins σ Q) X.xe s
section
variable {X:Cx} {a b:Expr} {ta tb:TE} {pos:Pos}
theorem yD (hr:IxR X r) (ha:PE X a ta) (hb:PE X b tb) (hs:PlainIx b):PE X (.Subscript a b pos) (tOp r ta tb):=by
 intro pins s σ H Q I h
 exact Subscript_ (binT ha hb I h λv u s2 x y H2 I2 rx ry q=>hr a b pins s2 σ H2 x y v u Q I2 rx ry q (hs _ _))
def rIxL (K:PySem.W.Frag):R2:=λx y H Q=>∃ p xs i v,x = .ref p /\ y = .int i /\ SqL K H p xs /\ atI xs i = some v /\ Q v H
def rIxT (K:PySem.W.Frag):R2:=λx y H Q=>∃ p xs i v,x = .ref p /\ y = .int i /\ SqT K H p xs /\ atI xs i = some v /\ Q v H
theorem zNg:IxR X (rIxL X.K):=by
 intro value slice pins s σ H x y v u Q I rx ry h hs
 obtain ⟨p,xs,i,z,rfl,rfl,hq,he,q⟩:=h
 cases rx
 obtain ⟨t,rfl⟩:=ry
 obtain ⟨its,r,pl,hz⟩:=I.list hq
 obtain ⟨j,h1,h2,h3,h4,h5⟩:=zIx he
 obtain ⟨w,ew,rw'⟩:=r.get h2
 have hl:=r.length
 have hn:=zEv
 have fin:EP X pins σ Q w s:=⟨z,H,I,rw',q⟩
 by_cases h0:0 <= i
 ·have hj:i.toNat = j:=by
   rw [seqIndex_of h0 h5] at h1
   exact Option.some.inj h1
  exact item_listR pl.isList h0 (by omega) (by rw [hj]; simpa using ew) fin hs
 ·have hj:(i + (its.toArray.size:Int)).toNat = j:=by
   rw [seqIndex_neg (by omega) h4] at h1
   rw [size_toArray,<- hl]
   exact Option.some.inj h1
  exact subscriptTail_builtinR (x:=w) pl.isList.typeIs slot_list_getitem.lookup
   (wpAny_getItem_list_neg (Q:=λr s'=>r = w /\ EP X pins σ Q r s') pl.isList (by omega) (by rw [size_toArray] <;> omega) (by omega) (by rw [hj]; simpa using ew) ⟨rfl,fin⟩) hs
theorem ix_tup:IxR X (rIxT X.K):=by
 intro value slice pins s σ H x y v u Q I rx ry h hs
 obtain ⟨p,xs,i,z,rfl,rfl,hq,he,q⟩:=h
 cases rx
 obtain ⟨t,rfl⟩:=ry
 obtain ⟨its,r,pl,hz⟩:=I.tuple hq
 obtain ⟨j,h1,h2,h3,h4,h5⟩:=zIx he
 obtain ⟨w,ew,rw'⟩:=r.get h2
 have hl:=r.length
 have hn:=zEv
 have fin:EP X pins σ Q w s:=⟨z,H,I,rw',q⟩
 exact subscriptTail_builtinR (x:=w) pl.typeIs slot_tuple_getitem.lookup
  (getItem_tuple (j:=j) (Q:=λr s'=>r = w /\ EP X pins σ Q r s') pl (by omega) (by omega) (by rw [size_toArray,<- hl]; exact h1) (by simpa using ew) ⟨rfl,fin⟩) hs
theorem zKv (its:List Value) (n j:Nat) (u:Value):Obj.mapSeq (·.setIfInBounds j u) { cls:=.type "list",data:=.seq its.toArray n } = { cls:=.type "list",data:=.seq (its.set j u).toArray n }:=by
 simp [Obj.mapSeq]
theorem Inv.lst (I:Inv X pins σ H s) (h:H p = some (.lst xs)) :
  ∃ (its:List Value) (n:Nat),Vals xs its /\ s.heap.get? p = some { cls:=.type "list",data:=.seq its.toArray n } /\ xs.length <= sizeLine:=by
 obtain ⟨z,its,n,r,e⟩:=I.hok p _ h
 exact ⟨its,n,r,e,z⟩
theorem Inv.lstUpd {its its':List Value} (I:Inv X pins σ H s) (h:H p = some (.lst xs))
  (ho:s.heap.get? p = some { cls:=.type "list",data:=.seq its.toArray n }) (hf:f { cls:=.type "list",data:=.seq its.toArray n } = { cls:=.type "list",data:=.seq its'.toArray n' }) (r:Vals ys its') (hz:ys.length <= sizeLine) (t:Nat) :
  Inv X pins σ (upd H p (.lst ys)) { s with heap:=s.heap.update p f,toks:=t }:=by
 have e:(s.heap.update p f).get? p = some { cls:=.type "list",data:=.seq its'.toArray n' }:=by
  rw [get?_update_self f ho (by rw [hf] <;> rfl),hf]
 refine I.write (x:=p) (e:=p) (by rw [h]; trivial) (.inl rfl) (λb u hb q=>(get?_update_other _ _ (Ne.symm hb)).trans q) ⟨_,e⟩ ?_
 exact ⟨hz,its',n',r,e⟩
def rSetL:V->V->V->Hp->(Hp->Prop)->Prop:=λo i v H Q=>∃ p xs k j,o = .ref p /\ i = .int k /\ H p = some (.lst xs) /\ ixN xs.length k = some j /\ Q (upd H p (.lst (xs.set j v)))
theorem zI9:PSet X rSetL:=by
 intro pins s σ H o i v ov iv u Q I ro ri rv h
 obtain ⟨p,xs,k,j,rfl,rfl,hp,hj,q⟩:=h
 cases ro
 obtain ⟨t,rfl⟩:=ri
 obtain ⟨its,n,r,ho,hz⟩:=I.lst hp
 obtain ⟨h1,h2,h3,h4⟩:=zNh hj
 have hl:=r.length
 have hn:=zEv
 have I':Inv X pins σ (upd H p (.lst (xs.set j v))) { s with heap:=s.heap.update p (Obj.mapSeq (·.setIfInBounds j u)) } :=
  I.lstUpd hp ho (zKv its n j u) (r.set rv j) (by rw [length_set]; exact hz) s.toks
 by_cases h0:0 <= k
 ·have hk:k.toNat = j:=by
   rw [seqIndex_of h0 h4] at h1
   exact Option.some.inj h1
  exact PySem.W.ki_setAt ho h0 (by omega) (by rw [size_toArray,<- hl]; exact h4) (by rw [hk]; exact ⟨_,I',q⟩)
 ·have hk:(k + (its.toArray.size:Int)).toNat = j:=by
   rw [seqIndex_neg (by omega) h3] at h1
   rw [size_toArray,<- hl]
   exact Option.some.inj h1
  exact PySem.W.ki_setBack ho (by omega) (by rw [size_toArray,<- hl]; exact h3) (by omega) (by rw [hk]; exact ⟨_,I',q⟩)
theorem zGq (lo hi:Option Int) (n:Nat):(sliceBounds lo hi none n).1 = ((HT.sIx n 0 lo:Nat):Int) /\ (sliceBounds lo hi none n).2.1 = ((HT.sIx n n hi:Nat):Int) /\ (sliceBounds lo hi none n).2.2 = 1:=by
 refine ⟨?_,?_,rfl⟩
 ·cases lo with
  | none=>simp [sliceBounds,HT.sIx]
  | some i =>
   simp only [sliceBounds,HT.sIx,Option.getD_none,show (1:Int) > 0 by decide,if_true]
   by_cases h:i < 0
   ·simp only [h,if_true] <;> omega
   ·simp only [h,if_false] <;> omega
 ·cases hi with
  | none=>simp [sliceBounds,HT.sIx]
  | some i =>
   simp only [sliceBounds,HT.sIx,Option.getD_none,show (1:Int) > 0 by decide,if_true]
   by_cases h:i < 0
   ·simp only [h,if_true] <;> omega
   ·simp only [h,if_false] <;> omega
theorem zFg (its:List Value) (lo hi:Option Int):slicePick its.toArray lo hi none = ((its.drop (HT.sIx its.length 0 lo)).take (HT.sIx its.length its.length hi - HT.sIx its.length 0 lo)).toArray:=by
 obtain ⟨h1,h2,h3⟩:=zGq lo hi its.toArray.size
 unfold slicePick
 rw [h1,h2,h3]
 simp only [sliceRange_one,pick_run,size_toArray] <;> rfl
def rSlL (K:PySem.W.Frag):V->Option Int->Option Int->Hp->VK->Prop:=λx lo hi H Q=>∃ a xs,x = .ref a /\ SqL K H a xs /\ ∀ p,H p = none->Q (.ref p) (upd H p (.lst (cutV xs lo hi)))
theorem sl_list:SlR X (rSlL X.K):=by
 intro pins s σ H x v vl vu lo hi sl Q I rx hs pl pu h
 obtain ⟨a,xs,rfl,hx,q⟩:=h
 cases rx
 obtain ⟨its,r,ht,hz⟩:=I.list hx
 have hlen:=r.length
 refine ⟨"list",_,slot_list_getitem.lookup,ht.isList.typeIs,?_⟩
 refine wpAny_getItem_list_slice ht.isList hs pl pu .none (by simp) ?_ (by rw [size_toArray] <;> omega)
 rw [zFg,<- hlen]
 refine ⟨.ref s.heap.objs.size,_,I.laid (t':=s.toks) (o:=.lst (cutV xs lo hi)) (λb ob q=>get?_push_of_some _ q) (Nat.le_refl _) ?_,rfl,q _ (I.hok.fresh (Nat.le_refl _))⟩
 exact ⟨Nat.le_trans (zIv xs lo hi) hz,_,0,(r.drop (HT.sIx xs.length 0 lo)).take (HT.sIx xs.length xs.length hi - HT.sIx xs.length 0 lo),get?_push_size _ rfl⟩
def zEl:V->Bool
 | .non=>true
 | .bl _=>true
 | .int _=>true
 | .str _=>true
 | _=>false
def eqV:V->V->Bool
 | .non,.non=>true
 | .bl a,.bl b=>a == b
 | .bl a,.int b=>(if a then 1 else 0) == b
 | .int a,.bl b=>a == (if b then 1 else 0)
 | .int a,.int b=>a == b
 | .str a,.str b=>a == b
 | _,_=>false
theorem eqAt_V (ry:RelV y u) (rx:RelV x v) (fy:zEl y = true) (fx:zEl x = true):SeqAt.EqAt A s u v (eqV y x):=by
 cases y with
 | non =>
  cases ry
  cases x with
  | non=>cases rx; exact SeqAt.EqAt.same _
  | bl b=>cases rx; exact SeqAt.EqAt.none_bool b
  | int b=>obtain ⟨t,rfl⟩:=rx; exact SeqAt.EqAt.none_int b t
  | str b=>obtain ⟨t,rfl⟩:=rx; exact SeqAt.EqAt.none_str b t
  | _=>exact absurd (show false = true from fx) Bool.false_ne_true
 | bl a =>
  cases ry
  cases x with
  | non=>cases rx; exact SeqAt.EqAt.bool_none a
  | bl b=>cases rx; exact SeqAt.EqAt.bool_bool a b
  | int b=>obtain ⟨t,rfl⟩:=rx; exact SeqAt.EqAt.bool_int a b t
  | str b=>obtain ⟨t,rfl⟩:=rx; exact SeqAt.EqAt.bool_str a b t
  | _=>exact absurd (show false = true from fx) Bool.false_ne_true
 | int a =>
  obtain ⟨t',rfl⟩:=ry
  cases x with
  | non=>cases rx; exact SeqAt.EqAt.int_none a t'
  | bl b=>cases rx; exact SeqAt.EqAt.int_bool a t' b
  | int b=>obtain ⟨t,rfl⟩:=rx; exact SeqAt.EqAt.int_int a t' b t
  | str b=>obtain ⟨t,rfl⟩:=rx; exact SeqAt.EqAt.int_str a t' b t
  | _=>exact absurd (show false = true from fx) Bool.false_ne_true
 | str a =>
  obtain ⟨t',rfl⟩:=ry
  cases x with
  | non=>cases rx; exact SeqAt.EqAt.str_none a t'
  | bl b=>cases rx; exact SeqAt.EqAt.str_bool a t' b
  | int b=>obtain ⟨t,rfl⟩:=rx; exact SeqAt.EqAt.str_int a t' b t
  | str b=>obtain ⟨t,rfl⟩:=rx; exact SeqAt.EqAt.str_str a t' b t
  | _=>exact absurd (show false = true from fx) Bool.false_ne_true
 | _=>exact absurd (show false = true from fy) Bool.false_ne_true
def eqU (x:V) (u:Value):Bool:=match u with
 | .none=>eqV .non x
 | .bool b=>eqV (.bl b) x
 | .int i _=>eqV (.int i) x
 | .str z _=>eqV (.str z) x
 | _=>false
theorem zRi (r:RelV y u) (f:zEl y = true):eqU x u = eqV y x:=by
 cases y with
 | non=>cases r; rfl
 | bl b=>cases r; rfl
 | int i=>obtain ⟨t,rfl⟩:=r; rfl
 | str z=>obtain ⟨t,rfl⟩:=r; rfl
 | _=>exact absurd (show false = true from f) Bool.false_ne_true
theorem zD8:∀ {xs:List V} {us:List Value},Vals xs us->xs.all zEl = true->us.any (eqU x) = xs.any λy=>eqV y x
 | _,_,.nil,_=>rfl
 | y :: xs,u :: us,.cons r t,f=>by
  rw [all_cons,Bool.and_eq_true] at f
  rw [any_cons,any_cons,zRi r f.1,zD8 t f.2]
theorem zBz (rx:RelV x v) (fx:zEl x = true):∀ {xs:List V} {us:List Value},Vals xs us->xs.all zEl = true->∀ u ∈ us,SeqAt.EqAt A s u v (eqU x u)
 | _,_,.nil,_=>λu hu=>by cases hu
 | y :: xs,u :: us,.cons r t,f=>λu' hu=>by
  rw [all_cons,Bool.and_eq_true] at f
  rcases mem_cons.mp hu with rfl | hu
  ·rw [zRi r f.1]; exact eqAt_V r rx f.1 fx
  ·exact zBz rx fx t f.2 u' hu
def inV (x:V) (xs:List V):Bool:=xs.any λy=>eqV y x
def rIn (K:PySem.W.Frag) (neg:Bool):R2:=λx y H Q=>∃ p xs,y = .ref p /\ (SqL K H p xs \/ SqT K H p xs) /\ zEl x = true /\ xs.all zEl = true /\ Q (.bl (if neg then !inV x xs else inV x xs)) H
theorem zMr:OpR X (compareOp .In) (rIn X.K false):=by
 intro pins s σ H x y v u Q I rx ry h
 obtain ⟨p,xs,rfl,hq,fx,fs,q⟩:=h
 cases ry
 rcases hq with hq | hq
 ·obtain ⟨its,r,pl,hz⟩:=I.list hq
  refine SeqAt.in_listAt (eqU x) pl.isList (λw hw=>zBz rx fx r fs w (by simpa using hw)) ⟨.bl _,H,I,rfl,?_⟩
  rw [show its.toArray.any (eqU x) = its.any (eqU x) by simp,zD8 r fs]
  exact q
 ·obtain ⟨its,r,pl,hz⟩:=I.tuple hq
  refine SeqAt.in_tupleAt (eqU x) pl (λw hw=>zBz rx fx r fs w (by simpa using hw)) ⟨.bl _,H,I,rfl,?_⟩
  rw [show its.toArray.any (eqU x) = its.any (eqU x) by simp,zD8 r fs]
  exact q
theorem zG3:OpR X (compareOp .NotIn) (rIn X.K true):=by
 intro pins s σ H x y v u Q I rx ry h
 obtain ⟨p,xs,rfl,hq,fx,fs,q⟩:=h
 cases ry
 rcases hq with hq | hq
 ·obtain ⟨its,r,pl,hz⟩:=I.list hq
  refine SeqAt.notIn_listAt (eqU x) pl.isList (λw hw=>zBz rx fx r fs w (by simpa using hw)) ⟨.bl _,H,I,rfl,?_⟩
  rw [show its.toArray.any (eqU x) = its.any (eqU x) by simp,zD8 r fs]
  exact q
 ·obtain ⟨its,r,pl,hz⟩:=I.tuple hq
  refine SeqAt.notIn_tupleAt (eqU x) pl (λw hw=>zBz rx fx r fs w (by simpa using hw)) ⟨.bl _,H,I,rfl,?_⟩
  rw [show its.toArray.any (eqU x) = its.any (eqU x) by simp,zD8 r fs]
  exact q
theorem zHs:zBu X (.builtin "len") (λxs H Q=>∃ p ys,xs = [.ref p] /\ (SqL X.K H p ys \/ SqT X.K H p ys) /\ Q (.int ys.length) H):=by
 intro pins s σ H xs us Q I r h
 obtain ⟨p,ys,rfl,hq,q⟩:=h
 obtain ⟨u,rfl,rx⟩:=zGi r
 cases rx
 have hn:=zEv
 rcases hq with hq | hq
 ·obtain ⟨its,r',pl,hz⟩:=I.list hq
  have hlen:=r'.length
  exact Calls.call_len_list pl.isList (by simp only [size_toArray] <;> omega) ⟨.int ys.length,H,I.tok _,⟨s.toks + 1,by rw [size_toArray,hlen]⟩,q⟩
 ·obtain ⟨its,r',pl,hz⟩:=I.tuple hq
  have hlen:=r'.length
  exact len_tuple pl (by simp only [size_toArray] <;> omega) ⟨.int ys.length,H,I.tok _,⟨s.toks + 1,by rw [size_toArray,hlen]⟩,q⟩
theorem zHr:zBu X (.type "list") (λxs H Q=>∃ p ys,xs = [.ref p] /\ (SqL X.K H p ys \/ SqT X.K H p ys) /\ ∀ l,H l = none->Q (.ref l) (upd H l (.lst ys))):=by
 intro pins s σ H xs us Q I r h
 obtain ⟨p,ys,rfl,hq,q⟩:=h
 obtain ⟨u,rfl,rx⟩:=zGi r
 cases rx
 have fin:∀ (its:List Value),Vals ys its->ys.length <= sizeLine->∀ (h':Heap) (c':Nat),(∀ b o',s.heap.get? b = some o'->h'.get? b = some o') ->
   h'.get? s.heap.objs.size = some { cls:=.type "list",dict:=none,data:=.seq its.toArray c',slots:=#[] }->EP X pins σ Q (.ref s.heap.objs.size) { s with heap:=h' }:=λits r' hz h' c' kp e =>
  ⟨.ref s.heap.objs.size,_,I.laid (t':=s.toks) kp (Nat.le_refl _) (show ObjOk X.prog X.w _ h' _ (.lst ys) from ⟨hz,its,c',r',e⟩),rfl,q _ (I.hok.fresh (Nat.le_refl _))⟩
 rcases hq with hq | hq
 ·obtain ⟨its,r',pl,hz⟩:=I.list hq
  have hlen:=r'.length
  obtain ⟨o,ho,hc,n,hd⟩:=pl.isList
  exact call_list_seq p (.inl rfl) ho hc hd (λh' c' kp e=>fin its r' hz h' c' kp e) (by simp only [size_toArray] <;> omega)
 ·obtain ⟨its,r',pl,hz⟩:=I.tuple hq
  have hlen:=r'.length
  obtain ⟨o,ho,hc,n,hd⟩:=pl
  exact call_list_seq p (.inr rfl) ho hc hd (λh' c' kp e=>fin its r' hz h' c' kp e) (by simp only [size_toArray] <;> omega)
def tyV (K:PySem.W.Frag) (T:String) (x:V) (H:Hp):Prop:=match x with
 | .str _=>T = "str"
 | .int _=>T = "int"
 | .ref p=>(T = "list" /\ ∃ xs,SqL K H p xs) \/ (T = "tuple" /\ ∃ o,K.lookup p = some o /\ o.cls = .type "tuple" /\ o.dict = none) \/
   (T = "dict" /\ ((∃ kvs,H p = some (.dK kvs)) \/ ∃ kvs,H p = some (.dT kvs))) \/ (T = "set" /\ ∃ S n,H p = some (.set S n))
 | _=>False
theorem zQm (I:Inv X pins σ H s) (r:RelV x v) (ty:tyV X.K T x H) :
  s.TypeIs v T /\ ∀ a,v = .ref a->∃ ob,s.heap.get? a = some ob /\ ob.dict = none:=by
 cases x with
 | str z =>
  obtain ⟨t,rfl⟩:=r
  cases (show T = "str" from ty)
  exact ⟨typeIs_str s z t,λ_ e=>nomatch e⟩
 | int i =>
  obtain ⟨t,rfl⟩:=r
  cases (show T = "int" from ty)
  exact ⟨typeIs_int s i t,λ_ e=>nomatch e⟩
 | ref p =>
  cases r
  rcases ty with ⟨rfl,xs,hq⟩ | ⟨rfl,o,hk,hc,hd⟩ | ⟨rfl,hk⟩ | ⟨rfl,S,n,hk⟩
  ·obtain ⟨its,_,pl,_⟩:=I.list hq
   refine ⟨pl.isList.typeIs,λa e=>?_⟩
   cases e
   obtain ⟨o,n,e,c,hd,_⟩:=pl
   exact ⟨o,e,hd⟩
  ·refine ⟨⟨o,I.kIn p o hk,hc⟩,λa e=>?_⟩
   cases e
   exact ⟨o,I.kIn _ o hk,hd⟩
  ·have z:∃ o,s.heap.get? p = some o /\ o.ExactDict:=by
    rcases hk with ⟨kvs,hk⟩ | ⟨kvs,hk⟩
    ·obtain ⟨_,_,_,_,o,_,_,e,ex,_⟩:=I.hok p _ hk
     exact ⟨o,e,ex⟩
    ·obtain ⟨_,_,_,_,o,_,_,e,ex,_⟩:=I.hok p _ hk
     exact ⟨o,e,ex⟩
   obtain ⟨o,e,ex⟩:=z
   refine ⟨⟨o,e,ex.1⟩,λa e2=>?_⟩
   cases e2
   exact ⟨o,e,ex.2.1⟩
  ·obtain ⟨o,_,_,_,e,ex,_⟩:=I.hok p _ hk
   refine ⟨⟨o,e,ex.1⟩,λa e2=>?_⟩
   cases e2
   exact ⟨o,e,ex.2.1⟩
 | _=>exact False.elim ty
def tBM0 (K:PySem.W.Frag) (T:String) (r:V->List V->Hp->VK->Prop) (to:TE):TE:=λσ H Q=>to σ H λx H1=>tyV K T x H1 /\ r x [] H1 Q
def tBM (K:PySem.W.Frag) (T:String) (r:V->List V->Hp->VK->Prop) (to:TE) (t:TA):TE:=λσ H Q=>to σ H λx H1=>tyV K T x H1 /\ t σ H1 λxs H2=>r x xs H2 Q
variable {o e:Expr} {es:List Expr} {to:TE} {t:TA} {name:Str} {apos cpos:Pos} {T id:String} {r:V->List V->Hp->VK->Prop}
theorem pe_bm0 (pa:PlainAttrs T) (slot:Slot T name id) (hty:typeOf (.builtin id) = pure (.type "method_descriptor")) (hm:MtR X id r) (ho:PE X o to)
  (hbase:attributeBase o name X.env (eval o X.env) = eval o X.env:=by rfl) (hline:(apos.endLine == cpos.line) = true:=by rfl):PE X (.Call (.Attribute o name apos) [] [] cpos) (tBM0 X.K T r to):=by
 intro pins s σ H Q I h
 refine wpAny_Call_method0_late hbase hline (thn (ho pins s σ H _ I h) λv s1 ⟨x,H1,I1,r1,ty,q1⟩=>?_)
 obtain ⟨h1,h2⟩:=zQm I1 r1 ty
 exact ⟨T,id,pa,slot,hty,h1,h2,Calls.callWith_builtin rfl (PySem.evalArgs_none (hm pins s1 σ H1 x [] v [] Q I1 r1 .nil q1))⟩
theorem pe_bm (pa:PlainAttrs T) (slot:Slot T name id) (hty:typeOf (.builtin id) = pure (.type "method_descriptor")) (hm:MtR X id r) (ho:PE X o to) (ha:PA X (e :: es) t)
  (hbase:attributeBase o name X.env (eval o X.env) = eval o X.env:=by rfl)
  (hfew:((backTo cpos (starEach (e :: es) X.env)).all (λx=>!x.1) && (backToKw cpos (keywordEach [] X.env)).all (λx=>x.1.isSome)
   && decide ((e :: es).length + ([]:List Keyword).length + (if ([]:List Keyword).isEmpty then 0 else 1) < 30)) = true:=by rfl)
  (hline:(apos.endLine == cpos.line) = true:=by rfl) (hs:starEach (e :: es) X.env = (false,eval e X.env) :: starEach es X.env:=by rfl) (hplain:(backTo cpos (starEach es X.env)).any (·.1) = false:=by rfl) :
  PE X (.Call (.Attribute o name apos) (e :: es) [] cpos) (tBM X.K T r to t):=by
 intro pins s σ H Q I h
 refine wpAny_Call_method_late hbase hfew hline rfl (thn (ho pins s σ H _ I h) λv s1 ⟨x,H1,I1,r1,ty,q1⟩=>?_)
 obtain ⟨h1,h2⟩:=zQm I1 r1 ty
 refine ⟨T,id,pa,slot,hty,h1,h2,?_⟩
 have hA:=ha cpos pins s1 σ H1 _ I1 q1
 rw [hs] at hA ⊢
 refine Calls.callWith_builtin (by show (false || (backTo cpos (starEach es X.env)).any (·.1)) = false; rw [hplain] <;> rfl) (Calls.evalArgs_plain ?_)
 exact thn hA λus s2 ⟨vs,H2,I2,r2,q2⟩=>hm pins s2 σ H2 x vs v us Q I2 r1 r2 q2
end
def MtM (X:Cx) (id:String) (r:V->List V->Hp->VK->Prop):Prop :=
 ∀ (pins:List (Addr × Obj)) (s:Shared) (σ:St) (H:Hp) (x:V) (xs:List V) (v:Value) (us:List Value) (Q:VK),Inv X pins σ H s->RelV x v->Vals xs us->r x xs H Q ->
  wpAny (model X.prog X.w) X.A (call (.builtin id) (v :: us)) (EP X pins σ Q) X.xe s
theorem Vals.one:∀ {x:V} {us:List Value},Vals [x] us->∃ u,us = [u] /\ RelV x u
 | _,_,.cons r .nil=>⟨_,rfl,r⟩
theorem Vals.two:∀ {x y:V} {us:List Value},Vals [x,y] us->∃ u v,us = [u,v] /\ RelV x u /\ RelV y v
 | _,_,_,.cons r (.cons q .nil)=>⟨_,_,rfl,r,q⟩
theorem Vals.zero:∀ {us:List Value},Vals [] us->us = []
 | _,.nil=>rfl
theorem Vals.dropLast (h:Vals xs us):Vals xs.dropLast us.dropLast:=by
 induction h with
 | nil=>exact .nil
 | cons r t ih =>
  cases t with
  | nil=>exact .nil
  | cons q t'=>exact .cons r ih
theorem Vals.eraseIdx:∀ {xs:List V} {us:List Value} (i:Nat),Vals xs us->Vals (xs.eraseIdx i) (us.eraseIdx i)
 | _,_,_,.nil=>.nil
 | _,_,0,.cons _ t=>t
 | _,_,i + 1,.cons r t=>.cons r (Vals.eraseIdx i t)
theorem Vals.reverse (h:Vals xs us):Vals xs.reverse us.reverse:=by
 induction h with
 | nil=>exact .nil
 | cons r t ih=>rw [reverse_cons,reverse_cons]; exact Vals.append ih (.cons r .nil)
section
variable {X:Cx} {pins:List (Addr × Obj)} {σ:St} {H:Hp} {s:Shared} {l b:Addr} {xs ys zs:List V}
theorem Inv.lset {its its':List Value} {f:Array Value->Array Value} (I:Inv X pins σ H s) (hH:H l = some (.lst xs))
  (e:s.heap.get? l = some { cls:=.type "list",data:=.seq its.toArray n }) (hf:f its.toArray = its'.toArray) (hv:Vals ys its') (hz:ys.length <= sizeLine) :
  Inv X pins σ (upd H l (.lst ys)) { s with heap:=s.heap.update l (Obj.mapSeq f),toks:=t' }:=by
 have q:=PySem.IsL.update e f
 rw [hf] at q
 refine I.write (x:=l) (e:=l) (by rw [hH]; exact trivial) (.inl rfl) (λb' u hb hu=>(get?_update_other s.heap (Obj.mapSeq f) (Ne.symm hb)).trans hu) ⟨_,q⟩ ?_
 exact ⟨hz,its',_,hv,q⟩
theorem Inv.lnew (I:Inv X pins σ H s) (hv:Vals ys its) (hz:ys.length <= sizeLine) :
  Inv X pins σ (upd H s.heap.objs.size (.lst ys)) { s with heap:=s.heap.push { cls:=.type "list",data:=.seq its.toArray },toks:=t' } :=
 I.laid (λ_ _ q=>get?_push_of_some _ q) (Nat.le_refl _) ⟨hz,its,0,hv,get?_push_size _ rfl⟩
theorem Inv.fresh (I:Inv X pins σ H s):H s.heap.objs.size = none:=I.hok.fresh (Nat.le_refl _)
theorem Inv.lstM (I:Inv X pins σ H s) (hH:H l = some (.lst xs)):xs.length <= sizeLine /\ ∃ (its:List Value) (n:Nat),Vals xs its /\ xs.length = its.length /\ s.heap.get? l = some { cls:=.type "list",data:=.seq its.toArray n }:=by
 obtain ⟨z,its,n,r,e⟩:=I.hok l _ hH
 exact ⟨z,its,n,r,r.length,e⟩
theorem zPl (h:n <= sizeLine):Builtin.List.listTooLong n = false:=by
 unfold Builtin.List.listTooLong
 exact decide_eq_false (by omega)
end
section
variable {X:Cx}
def zBq:V->List V->Hp->VK->Prop:=λx vs H Q=>∃ l xs y,x = .ref l /\ vs = [y] /\ H l = some (.lst xs) /\ xs.length < sizeLine /\ Q .non (upd H l (.lst (xs ++ [y])))
theorem yN:MtM X "list.append" zBq:=by
 intro pins s σ H x vs v us Q I rx rv h
 obtain ⟨l,xs,y,rfl,rfl,hH,hz,q⟩:=h
 cases rx
 obtain ⟨u,rfl,ru⟩:=rv.one
 obtain ⟨z,its,n,r,hl,e⟩:=I.lstM hH
 refine call_meets F.slot_list_append ⟨_,e,rfl⟩ F.entry_list_append (F.args_list_append_2 _ _) (PySem.list_append l its.toArray n u (by rw [size_toArray]; omega)) ⟨e,?_⟩
 refine ⟨.non,_,I.lset (its':=its ++ [u]) hH e (by simp) (r.append (.cons ru .nil)) ?_,rfl,q⟩
 rw [length_append,length_singleton]
 omega
def zMf:V->List V->Hp->VK->Prop:=λx vs H Q=>∃ l b xs zs,x = .ref l /\ vs = [.ref b] /\ H l = some (.lst xs) /\ H b = some (.lst zs) /\ xs.length + zs.length <= sizeLine /\ Q .non (upd H l (.lst (xs ++ zs)))
theorem zHc:MtM X "list.extend" zMf:=by
 intro pins s σ H x vs v us Q I rx rv h
 obtain ⟨l,b,xs,zs,rfl,rfl,hH,hB,hz,q⟩:=h
 cases rx
 obtain ⟨u,rfl,ru⟩:=rv.one
 cases ru
 obtain ⟨z,its,n,r,hl,e⟩:=I.lstM hH
 obtain ⟨z2,its2,n2,r2,hl2,e2⟩:=I.lstM hB
 have hsz:its.toArray.size + its2.toArray.size <= sizeLine:=by rw [size_toArray,size_toArray]; omega
 have hlong:¬ (!its.toArray.isEmpty && Builtin.List.listTooLong (its.toArray.size + its2.toArray.size)) = true:=by
  rw [zPl hsz,Bool.and_false]
  exact Bool.false_ne_true
 refine call_meets F.slot_list_extend ⟨_,e,rfl⟩ F.entry_list_extend (F.args_list_extend_2 _ _)
  (AutoSeq1.list_extend_list_list_0 l its.toArray n b its2.toArray n2 hlong (by rw [size_toArray]; omega) (by omega)) ⟨e,e2,?_⟩
 refine ⟨.non,_,I.lset (its':=its ++ its2) hH e (by simp) (r.append r2) ?_,rfl,q⟩
 rw [length_append]
 omega
def zJi:V->List V->Hp->VK->Prop:=λx vs H Q=>∃ l xs,x = .ref l /\ vs = [] /\ H l = some (.lst xs) /\ Q .non (upd H l (.lst xs.reverse))
theorem zCj:MtM X "list.reverse" zJi:=by
 intro pins s σ H x vs v us Q I rx rv h
 obtain ⟨l,xs,rfl,rfl,hH,q⟩:=h
 cases rx
 have hus:=rv.zero
 subst hus
 obtain ⟨z,its,n,r,hl,e⟩:=I.lstM hH
 refine call_meets F.slot_list_reverse ⟨_,e,rfl⟩ F.entry_list_reverse (F.args_list_reverse_1 _) (AutoSeq1.list_reverse_list_0 l its.toArray n (by rw [size_toArray]; omega)) ⟨e,?_⟩
 refine ⟨.non,_,I.lset (its':=its.reverse) hH e (by simp) r.reverse ?_,rfl,q⟩
 rw [List.length_reverse]
 omega
def rCat:R2:=λx y H Q=>∃ l b xs zs,x = .ref l /\ y = .ref b /\ H l = some (.lst xs) /\ H b = some (.lst zs) /\ xs.length + zs.length <= sizeLine /\ ∀ p,H p = none->Q (.ref p) (upd H p (.lst (xs ++ zs)))
theorem zMs:OpR X (binaryOp .Add) rCat:=by
 intro pins s σ H x y v u Q I rx ry h
 obtain ⟨l,b,xs,zs,rfl,rfl,hH,hB,hz,q⟩:=h
 cases rx
 cases ry
 obtain ⟨z,its,n,r,hl,e⟩:=I.lstM hH
 obtain ⟨z2,its2,n2,r2,hl2,e2⟩:=I.lstM hB
 refine PySem.P.add_list e e2 ?_ (by rw [size_toArray,size_toArray]; omega)
 have ea:its.toArray ++ its2.toArray = (its ++ its2).toArray:=by simp
 rw [ea]
 exact ⟨.ref _,_,I.lnew (t':=s.toks) (r.append r2) (by rw [length_append]; omega),rfl,q _ I.fresh⟩
end
section
variable {prog:Program} {w:World} {A:Around} {E:Value->Shared->Prop} {s:Shared}
end
section
variable {X:Cx}
end
end L2
namespace Att
open PySem PySem.W PySem.Calls PyProof.Rows
theorem zDw:∀ (ns:LI) (vs:List Value),WellAll P h vs (ns.map WData.int)->IntsAre vs ns:=by
 intro ns
 induction ns with
 | nil =>
  intro vs w
  rw [List.map_nil] at w
  cases w
  exact .nil
 | cons n ns ih =>
  intro vs w
  rw [map_cons] at w
  cases w with
  | cons a b =>
   cases a
   exact .cons _ _ (ih _ b)
theorem zL4 {l:OpenLaw} (hn:l.most = some n)
  (hpre:l.row.toRowW.claim.pre args = true) (hwl:WellAll P h vals args) :
  ∃ a vs ns,vals = [Value.ref a] /\ args = [WData.list (ns.map WData.int)] /\ h.get? a = some { cls:=.type "list",data:=.seq vs.toArray } /\ IntsAre vs ns /\ ns.length <= n:=by
 have hsh:WShape.hasAll [] args [.list .int] = true:=(pre_splitW hpre).1
 have hc:l.pre.holds [] { args:=args } = true:=(pre_splitW hpre).2
 obtain ⟨d,r,rfl,h1,h2⟩:=hasAllW_cons hsh
 obtain rfl:=hasAllW_nil h2
 obtain ⟨xs,rfl,h3⟩:=hasW_list h1
 obtain ⟨ns,rfl⟩:=items_int h3
 have hlen:ns.length <= n:=by
  unfold OpenLaw.pre at hc
  have h4:(WTm.not (.lt (.lit (.int (n:Int))) (.len (.arg 0)))).holds [] { args:=[.list (ns.map .int)] } = true:=by
   have h4:=(holds_andW hc).1
   rw [hn] at h4
   exact h4
  have h5:=condW_of h4 (w_not (w_lt w_lit (w_len_list (w_arg rfl))))
  rw [length_map] at h5
  refine Nat.le_of_not_lt λq=>?_
  have q':(n:Int) < ((ns.length:Nat):Int):=by omega
  first
   | (rw [decide_eq_true q'] at h5; exact absurd h5 (by decide))
   | (simp at h5; omega)
 cases hwl with
 | cons w1 w2 =>
  cases w2
  cases w1 with
  | list ho hall=>exact ⟨_,_,ns,rfl,rfl,ho,zDw ns _ hall,hlen⟩
theorem zMj (l:OpenLaw) (args:List WData):l.row.toRowW.claim.post args (.bool true) args = true :=
 postW_of (r:=l.row.toRowW) (X:=(true == true))
  (show WShape.has [] (.bool true) .bool = true by first | rfl | decide | simp [WShape.has,WShape.arms,WShape.armsAll])
  (show (WTm.eq .res (.lit (.bool true))).value [] { args:=args,res:=some (.bool true),after:=args } = some (.bool (true == true)) from w_eq_bool (w_res rfl) w_lit) rfl
theorem attach_call {l:OpenLaw} {YP:World->Heap->Prop} {d:DefRec}
  (hn:l.most = some n) (hdf:d.params.defaults = [])
  (call:∀ (w:World) (s₀ s₁:Shared) (mg mb:Str->Option Value) (fa:Addr) (o:Obj) (pm cd doc:Value) (a:Addr) (vs:List Value) (ns:LI),
   Ground q loose [] XP w s₀ mg mb s₁.heap->YP w s₁.heap ->
   s₁.heap.get? fa = some o->o.data = .func (docDef d.name d.params d.body d.scope pm cd doc)->s₁.heap.CodeRec cd d.name->mg d.name = some (.ref fa) ->
   s₁.heap.get? a = some { cls:=.type "list",data:=.seq vs.toArray }->IntsAre vs ns->ns.length <= n->s₁.gens = #[] ->
   codeAny (model l.prog w) callerA (.call (.ref fa) ⟨[.ref a],[]⟩) (λr s'=>r = .ok (.ret (.bool true)) /\ OldK s₁.heap s'.heap /\ s'.os = s₁.os /\ AllBare s'.gens) s₁) :
  WalkO q loose XP YP l.row.toRowW d [] (λf vs=>PySem.call f vs):=by
 intro w s₀ s₁ mg mb G Y fa o pm cd doc dV kV ho hd hcd hD hmg hg args vals as hpre hlay hrd hwl hlo
 obtain rfl:dV = .none:=Dflts.none hD hdf
 obtain rfl:kV = .none:=Dflts.noKw hD
 obtain ⟨a,vs,ns,rfl,rfl,hobj,hints,hlen⟩:=zL4 hn hpre hwl
 refine enter_call (codeAny_mono (call w s₀ s₁ mg mb fa o pm cd doc a vs ns G Y ho (fd_plain hd) hcd hmg hobj hints hlen hg) λr s' hq=>?_)
 obtain ⟨rfl,h2,h3,h4⟩:=hq
 exact ⟨.inl ⟨.bool true,.bool true,[],rfl,λ_=>rfl,.bool true,zMj l _,λ_=>⟨Pairwise.nil,λ_ hm=>(nomatch hm)⟩⟩,h2,h3,h4⟩
section
variable {prog:Program} {w:World} {A:Around} {E:Value->Shared->Prop} {s:Shared} {K:Frag}
end
end Att
namespace L2
open PySem PySem.Spec PyProof.Rows
theorem zGh:∀ {vs:List Value} {ns:LI},IntsAre vs ns->Vals (ns.map V.int) vs
 | _,_,.nil=>.nil
 | _,_,.cons n t h=>.cons ⟨t,rfl⟩ (zGh h)
def Only (H:Hp):Prop:=∀ b,H b = none \/ ∃ o xs,H b = some (.frz o (.lst xs))
theorem zPv {K:PySem.W.Frag} {s₁:Shared} {vs:List Value}
  (KX:K.In s₁.heap) (hns:s₁.heap.Ns mainGlobals mg) (hb:s₁.heap.Ns builtinsNs mb) (hbb:∀ x:Str,x ≠ "__name__"->mb x = bootBuiltins x) (hlim:s₁.heap.NoLimit) (hg:s₁.gens = #[])
  (ha:s₁.heap.get? a = some { cls:=.type "list",data:=.seq vs.toArray }) (hi:IntsAre vs ns) (hl:ns.length <= sizeLine) (hr:Room k callerA)
  (F:∀ base:Heap,K.In base->base.Ns mainGlobals mg->FnOk P w K mg base CX k fa fd [x] sp) (hbind:∀ (s:Shared) (u:Value),BindsTo s fd ⟨[u],[]⟩ [(x,u)])
  (hsp:∀ H:Hp,Only H->SqL K H a (ns.map V.int)->sp [.ref a] H (λv _=>v = .bl true) λ_ _ _=>False)
  (hCX:∀ H e s',CX [] H s₁ (λ_ _ _=>False) e s'->False) :
  codeAny (model P w) callerA (.call (.ref fa) ⟨[.ref a],[]⟩) (λr s'=>r = .ok (.ret (.bool true)) /\ OldK s₁.heap s'.heap /\ s'.os = s₁.os /\ AllBare s'.gens) s₁:=by
 have rv:=zGh hi
 have lenV:=hi.length
 have core:∀ H:Hp,Only H->SqL K H a (ns.map V.int)->HOk P w H s₁.heap->(∀ b,H b ≠ none->b = a)->(H a ≠ none->K.lookup a = none) ->
   codeAny (model P w) callerA (.call (.ref fa) ⟨[.ref a],[]⟩) (λr s'=>r = .ok (.ret (.bool true)) /\ OldK s₁.heap s'.heap /\ s'.os = s₁.os /\ AllBare s'.gens) s₁:=by
  intro H hO hS hok hA hK
  have base_of:∀ {b:Addr} {o:Obj},s₁.heap.get? b = some o->H b = none->(hidT s₁.heap H).get? b = some o:=λe n=>zPz e n
  have noA:∀ {b:Addr} {o:Obj} {es:Array DictEntry} {ep:Nat},s₁.heap.get? b = some o->o.data = .dict es ep->H b = none:=λ{b o es ep} e d=>by
   cases q:H b with
   | none=>rfl
   | some u =>
    have e':b = a:=hA b (by rw [q]; simp)
    subst e'
    rw [ha] at e; cases e
    have d':Data.seq vs.toArray _ = Data.dict es ep:=d
    cases d'
  have nsK:∀ {b:Addr} {m:Str->Option Value},s₁.heap.Ns b m->(hidT s₁.heap H).Ns b m:=λ{b m} ⟨o,es,ep,e,d,r⟩=>⟨o,es,ep,base_of e (noA e d),d,r⟩
  have hKb:K.In (hidT s₁.heap H):=λb o e=>base_of (KX b o e) (by
   cases q:H b with
   | none=>rfl
   | some u =>
    have e':b = a:=hA b (by rw [q]; simp)
    subst e'
    rw [hK (by rw [q]; simp)] at e; cases e)
  have hM:Mod K mg (hidT s₁.heap H):=⟨hKb,nsK hns,⟨mb,nsK hb,hbb⟩,let ⟨mc,h1,h2⟩:=hlim; ⟨mc,nsK h1,h2⟩⟩
  have e0:Env0 P w K mg (hidT s₁.heap H) callerA [] s₁ H:=⟨rfl,hM,λb o e=>of_hidT e,Nat.le_of_eq (zNm _ _),trivial,λb hb=>absurd (show b ∈ ([]:List Addr) from hb) (by simp),hok,.of_eq hg⟩
  refine codeAny_mono ((F _ hKb (nsK hns)).run callerA [] s₁ H ⟨[.ref a],[]⟩ [.ref a] [.ref a] _ _ hr e0 (hbind s₁ (.ref a)) (.cons rfl .nil) (hsp H hO hS)) λr s' h=>?_
  cases r with
  | error e=>exact (hCX H e s' h).elim
  | ok fl =>
   cases fl with
   | next=>exact False.elim h
   | brk=>exact False.elim h
   | cont=>exact False.elim h
   | ret u =>
    obtain ⟨v,H',os,bare,un,hok',r',q⟩:=h
    have q':v = .bl true:=q
    subst q'
    obtain rfl:u = Value.bool true:=r'
    refine ⟨rfl,OldK.of_keep λb o e=>?_,os,bare⟩
    cases q:H b with
    | none=>exact un.keep b o e q (by intro z; exact absurd (show b ∈ ([]:List Addr) from z) (by simp)) (by simp)
    | some u =>
     rcases hO b with z | ⟨ob,xs,z⟩
     ·rw [q] at z; cases z
     ·have z2:=un.frzs b ob _ z
      obtain ⟨e1,_⟩:=hok b _ z
      obtain ⟨e2,_⟩:=hok' b _ z2
      rw [e] at e1; cases e1
      exact e2
 cases hk:K.lookup a with
 | some o =>
  have e:=KX a o hk
  rw [ha] at e
  cases e
  refine core (λ_=>none) (λ_=>.inl rfl) (.inr ⟨_,vs.toArray,_,hk,rfl,rfl,rfl,by rw [size_toArray,lenV]; exact hl,by simpa using rv⟩) (λb u z=>by have z':(none:Option HO) = some u:=z; cases z') (λb z=>absurd rfl z) λz=>absurd rfl z
 | none =>
  refine core (λb=>if b = a then some (.frz { cls:=.type "list",data:=.seq vs.toArray } (.lst (ns.map V.int))) else none) (λb=>?_) (.inl (.inr ⟨{ cls:=.type "list",data:=.seq vs.toArray },if_pos rfl⟩)) (λb u z=>?_) (λb z=>?_) λ_=>hk
  ·by_cases hb:b = a
   ·exact .inr ⟨_,_,if_pos hb⟩
   ·exact .inl (if_neg hb)
  ·by_cases hb:b = a
   ·have z':=(if_pos hb).symm.trans z
    cases z'
    subst hb
    exact ⟨ha,by rw [length_map]; exact hl,vs,_,rv,ha⟩
   ·have z':=(if_neg hb).symm.trans z
    cases z'
  ·by_cases hb:b = a
   ·exact hb
   ·exact absurd (if_neg hb) z
theorem walk_of {l:PySem.W.OpenLaw} {YP:World->Heap->Prop} {d:DefRec} {K:Params->PySem.W.Frag} {CX:World->CXT} {sp:World->Sp}
  (hn:l.most = some n) (hn2:n <= sizeLine) (hdf:d.params.defaults = []) (hr:Room k callerA)
  (hY:∀ (w:World) (h:Heap),YP w h->(K w.params).In h)
  (F:∀ (w:World) (mg:Str->Option Value) (fa:Addr) (h:Heap),(K w.params).In h->h.Ns mainGlobals mg->mg d.name = some (.ref fa) ->
   ∃ fd:FuncData,(∀ (s:Shared) (u:Value),BindsTo s fd ⟨[u],[]⟩ [(x,u)]) /\
    ∀ base:Heap,(K w.params).In base->base.Ns mainGlobals mg->FnOk l.prog w (K w.params) mg base (CX w) k fa fd [x] (sp w))
  (hsp:∀ (w:World) (H:Hp) (a:Addr) (ns:LI),ns.length <= n->Only H->SqL (K w.params) H a (ns.map V.int)->sp w [.ref a] H (λv _=>v = .bl true) λ_ _ _=>False)
  (hCX:∀ (w:World) (H:Hp) (s:Shared) (e:Value) (s':Shared),CX w [] H s (λ_ _ _=>False) e s'->False) :
  PySem.W.WalkO q loose XP YP l.row.toRowW d [] (λf vs=>PySem.call f vs):=by
 refine Att.attach_call hn hdf λw s₀ s₁ mg mb fa o pm cd doc a vs ns G Y ho hd hcd hmg hobj hints hlen hg=>?_
 have KX:=hY w _ Y
 obtain ⟨fd,hb,hF⟩:=F w mg fa _ KX G.T.g hmg
 exact zPv KX G.T.g G.T.b G.T.builtins G.T.nolimit hg hobj hints (Nat.le_trans hlen hn2) hr hF hb (λH hO hS=>hsp w H a ns hlen hO hS) λH e s'=>hCX w H s₁ e s'
def zDx (s:Stmt) (j:Nat):Stmt:=match s with
 | .ClassDef _ _ _ body _ _ _ _ _ _ _=>body.getD j (.Pass ⟨0,0,0,0⟩)
 | _=>.Pass ⟨0,0,0,0⟩
def vD (s:Stmt):Arguments:=match s with
 | .FunctionDef _ a _ _ _ _ _ _ _ _=>a
 | _=>{ posonlyargs:=[],args:=[],vararg:=none,kwonlyargs:=[],kw_defaults:=[],kwarg:=none,defaults:=[] }
def xU (s:Stmt):List Stmt:=match s with
 | .FunctionDef _ _ b _ _ _ _ _ _ _=>b
 | _=>[]
def zK (s:Stmt):Scope:=match s with
 | .FunctionDef _ _ _ _ _ _ sc _ _ _=>sc
 | _=>{ kind:=.function,names:=[],isGenerator:=false,isCoroutine:=false }
abbrev CX0:CXT:=λ_ _ _ _ _ _=>False
abbrev E0:XK:=λ_ _ _=>False
theorem zPj:zEe CX0 X E0:=λ_ _ _ _ _ _ _ h=>h.elim
structure Fun (K:PySem.W.Frag) (x qual:Str) (st:Stmt) (f:Addr) (fd:FuncData):Prop where
 ex:∃ (oc:Value) (od:Option Addr) (kV doc pm:Value) (an:Option Addr) (cdv ct:Value) (osl:Array (Option Value)),
  fd = fnOf x qual (vD st) (xU st) (zK st) .none kV doc pm an cdv ct /\ K.lookup f = some ⟨oc,od,.func fd,osl⟩ /\ codeIn K cdv qual = true
 kp:keepIn K (.ref f) = true
section
variable {P:Program} {w:World} {K:PySem.W.Frag} {mg:Str->Option Value} {base:Heap}
theorem Fun.ok {x qual:Str} {st:Stmt} {f:Addr} {fd:FuncData} {N ps:List Str} {k:Nat} {sp:Sp} (F:Fun K x qual st f fd) (S:FnScope N ps (zK st)) (len:∀ vs H Q E,sp vs H Q E->vs.length = ps.length)
  (hbody:∀ (cdv:Value) (A:Around) (outer:List Env) (s:Shared) (H:Hp) (vs:List V) (Q:VK) (E:XK),Room k (A.deeper (envOfC qual (zK st) s.heap.objs.size f cdv))->sp vs H Q E ->
   ∃ t,PSs (cxOf CX0 P w K mg base N qual (zK st) f cdv A outer s H E).nox (xU st) t /\ t { nx:=λ_ H'=>Q .non H',rt:=Q } (start N vs) H):FnOk P w K mg base CX0 (k + 1) f fd ps sp:=by
 obtain ⟨oc,od,kV,doc,pm,an,cdv,ct,osl,rfl,lk,hcd⟩:=F.ex
 refine fn_of lk hcd S len λA outer s H vs Q E hr hsp=>?_
 obtain ⟨t,h,q⟩:=hbody cdv A outer s H vs Q E hr hsp
 exact ⟨t,h.nox,q⟩
theorem Fun.binds {x qual:Str} {st:Stmt} {f:Addr} {fd:FuncData} {ps:List Str} (F:Fun K x qual st f fd)
  (h:∀ (kV doc pm:Value) (an:Option Addr) (cdv ct:Value) (us:List Value),us.length = ps.length->bindArgs (fnOf x qual (vD st) (xU st) (zK st) .none kV doc pm an cdv ct) ⟨us,[]⟩ = pure (ps.zip us)):Binds K fd ps []:=by
 obtain ⟨oc,od,kV,doc,pm,an,cdv,ct,osl,rfl,lk,hcd⟩:=F.ex
 exact .all (h kV doc pm an cdv ct)
theorem fun_mk {x qual:Str} {st:Stmt} {f:Addr} {oc:Value} {od an:Option Addr} {osl:Array (Option Value)} {kV doc pm cdv ct:Value} (l:K.lookup f = some ⟨oc,od,.func (fnOf x qual (vD st) (xU st) (zK st) .none kV doc pm an cdv ct),osl⟩)
  (c:codeIn K cdv qual = true) (k:keepIn K (.ref f) = true):Fun K x qual st f (fnOf x qual (vD st) (xU st) (zK st) .none kV doc pm an cdv ct):=⟨⟨oc,od,kV,doc,pm,an,cdv,ct,osl,rfl,l,c⟩,k⟩
end
theorem hu_of (hr:Room k A):A.units + 1 < cLine:=Nat.lt_of_le_of_lt (Nat.add_le_add_left (by decide:1 <= 64) _) hr.units
theorem zGn (h:n <= 1000):n < sizeLine:=Nat.lt_of_le_of_lt h (by decide)
section
variable {X:Cx}
theorem pv (i:Nat) (hN:X.N[i]? = some x:=by rfl) (hv:Vis X.env.scope x:=by first | exact Or.inl rfl | exact Or.inr (Or.inl rfl) | exact Or.inr (Or.inr rfl)) (hd:(x == ("__debug__":Str)) = false:=by decide)
  (hcd:(x == ("__classdict__":Str)) = false:=by decide):PE X (.Name x pos) (tVar i):=pe_var hN hv hd hcd
end
theorem iteF {A B:Prop} (h:B):if false = true then A else B:=by
 rw [if_neg Bool.false_ne_true]
 exact h
theorem iteT {A B:Prop} (h:A):if true = true then A else B:=by
 rw [if_pos rfl]
 exact h
def Same (H H':Hp):Prop:=∀ b o,H b = some o->H' b = some o
theorem Same.refl (H:Hp):Same H H:=λ_ _ h=>h
theorem Same.trans (a:Same H H1) (b:Same H1 H2):Same H H2:=λc o h=>b c o (a c o h)
theorem Same.free (e:Same H H') (h:H' l = Option.none):H l = Option.none:=by
 cases q:H l with
 | none=>rfl
 | some o =>
  rw [e l o q] at h
  cases h
theorem Same.seq {K:PySem.W.Frag} {H H':Hp} {a:Addr} {xs:List V} (e:Same H H') (h:SqL K H a xs):SqL K H' a xs:=by
 rcases h with (h | ⟨o,h⟩) | h
 ·exact .inl (.inl (e _ _ h))
 ·exact .inl (.inr ⟨o,e _ _ h⟩)
 ·exact .inr h
section
variable {κ:Type} [DecidableEq κ]
end
open PySem
section
variable {prog:Program} {w:World} {A:Around} {R:Result->Shared->Prop} {s:Shared}
theorem vA {α:Type} {t:Sem α} {Q Q':α->Shared->Prop} (h:wpAny M A t Q (λ_ _=>False) s) (hQ:∀ a s,Q a s->Q' a s):wpAny M A t Q' (notedBy M A env E) s :=
 wpAny_mono h hQ λ_ _ z=>z.elim
theorem zHq (I:Nat->Shared->Prop)
  (turn:∀ n s,I n s->wpAny (model prog w) A (pyNext it) (λr s₁=>match r with
   | none=>R (.ok .next) s₁
   | some v=>wpAny (model prog w) A (letOwnedTupleGo target it v) (λ_ s₂=>wpAny (model prog w) A (assign target env v) (λ_ s₃ =>
     wpAny (model prog w) A (forIn ifs true λc r=>if r = true then do let ok <- isTrue c env (eval c env); pure (ForInStep.yield ok) else pure (ForInStep.yield r)) (λok s₄ =>
      if ok = true then wpAny (model prog w) A (eval elt env) (λx s₅ =>
       wpAny (model prog w) A (call (.builtin "list.append") [acc,x]) (λ_ s₆=>∃ m,m < n /\ I m s₆) (λ_ _=>False) s₅) (λ_ _=>False) s₄
      else ∃ m,m < n /\ I m s₄) (λ_ _=>False) s₃) (λ_ _=>False) s₂) (λ_ _=>False) s₁) (λ_ _=>False) s)
  (n:Nat) (h:I n s):codeAny (model prog w) A (.compLoop (.ListComp elt [⟨target,iter,ifs,0⟩] scope pos) 0 it acc env) R s:=by
 refine codeAny_loop rfl I (λn s hI=>?_) n h
 show wpAny _ A ((compTurn (.ListComp elt [⟨target,iter,ifs,0⟩] scope pos) 0 it acc env).onRaise (λx=>do noteFrame x env; theTreesLotGoes x)) _ _ s
 refine wpAny_noted ?_
 rw [compTurn_list]
 refine wpAny_bind (wpAny_standAt (wpAny_bind (vA (turn n s hI) λr s₁ h₁=>?_)))
 cases r with
 | none=>exact wpAny_pure h₁
 | some v =>
  refine wpAny_bind (vA h₁ λ_ s₂ h₂=>?_)
  refine wpAny_bind (vA h₂ λ_ s₃ h₃=>wpAny_bind (vA h₃ λok s₄ h₄=>?_))
  cases ok with
  | false=>exact wpAny_pure ⟨rfl,h₄⟩
  | true =>
   exact wpAny_bind (wpAny_bind (vA h₄ λx s₅ h₅=>wpAny_bind (vA h₅ λ_ s₆ h₆=>wpAny_pure (wpAny_pure ⟨rfl,h₆⟩))))
end
def uZ (env:Env):List (Str × NameKind)->List (Str × Addr)->List (Str × Addr)
 | [],acc=>acc
 | (n,k) :: r,acc=>if k == .free then uZ env r ((n,(env.cells.lookup n).getD 0) :: acc) else uZ env r acc
theorem zB5 {scope:Scope} {env:Env} (h:∀ y ∈ scope.names,y.2 = .free->∃ c,env.cells.lookup y.1 = some c):closureFor scope env = pure (uZ env scope.names []):=by
 unfold closureFor
 generalize scope.names = l at h
 have go:∀ (l:List (Str × NameKind)) (acc:List (Str × Addr)),(∀ y ∈ l,y.2 = .free->∃ c,env.cells.lookup y.1 = some c) ->
    (forIn l acc (λ(x:Str × NameKind) (r:List (Str × Addr))=>match x with
    | (name,kind)=>if (kind == NameKind.free) = true then (do let __do_lift <- cellOf env name; pure (ForInStep.yield ((name,__do_lift) :: r))) else pure (ForInStep.yield r)):Sem (List (Str × Addr))) = pure (uZ env l acc):=by
  intro l
  induction l with
  | nil=>intro acc _; rfl
  | cons x r ih =>
   intro acc hl
   obtain ⟨n,k⟩:=x
   rw [List.forIn_cons]
   unfold uZ
   by_cases hk:(k == NameKind.free) = true
   ·obtain ⟨c,hc⟩:=hl (n,k) mem_cons_self (eq_of_beq hk)
    simp only [hk,if_true]
    have hc':env.cells.lookup n = some c:=hc
    unfold cellOf
    rw [hc']
    exact ih _ λy hy=>hl y (mem_cons_of_mem _ hy)
   ·simp only [hk,if_false]
    exact ih _ λy hy=>hl y (mem_cons_of_mem _ hy)
 have e:=go l [] h
 simp only [bind_pure]
 exact e
theorem zD5 {env:Env}:∀ (l:List (Str × NameKind)) (acc:List (Str × Addr)),(∀ x c,acc.lookup x = some c->(env.cells.lookup x).getD 0 = c)->∀ x c,(uZ env l acc).lookup x = some c->(env.cells.lookup x).getD 0 = c
 | [],_,h,x,c,e=>h x c e
 | (n,k) :: r,acc,h,x,c,e=>by
  unfold uZ at e
  by_cases hk:(k == NameKind.free) = true
  ·rw [if_pos hk] at e
   refine zD5 r _ (λy d q=>?_) x c e
   cases hy:y == n with
   | true =>
    rw [lookup_cons,hy] at q
    cases q
    rw [eq_of_beq hy]
   | false =>
    rw [lookup_cons,hy] at q
    exact h y d q
  ·rw [if_neg hk] at e
   exact zD5 r acc h x c e
theorem zCt:∀ (l:List (Str × NameKind)) (acc:List (Str × Addr)) (x:Str) (c:Addr),(uZ env l acc).lookup x = some c->(acc.lookup x).isSome = true \/ (x,NameKind.free) ∈ l
 | [],_,x,c,e=>.inl (by unfold uZ at e; rw [e]; rfl)
 | (n,k) :: r,acc,x,c,e=>by
  unfold uZ at e
  by_cases hk:(k == NameKind.free) = true
  ·rw [if_pos hk] at e
   rcases zCt r _ x c e with h | h
   ·cases hy:x == n with
    | true =>
     have e1:=eq_of_beq hy
     have e2:=eq_of_beq hk
     subst e1; subst e2
     exact .inr mem_cons_self
    | false =>
     rw [lookup_cons,hy] at h
     exact .inl h
   ·exact .inr (mem_cons_of_mem _ h)
  ·rw [if_neg hk] at e
   rcases zCt r _ x c e with h | h
   ·exact .inl h
   ·exact .inr (mem_cons_of_mem _ h)
theorem zB6:∀ (l:List (Str × NameKind)) (acc:List (Str × Addr)) (x:Str),((acc.lookup x).isSome = true \/ (x,NameKind.free) ∈ l)->((uZ env l acc).lookup x).isSome = true
 | [],_,x,h=>by
  rcases h with h | h
  ·exact h
  ·cases h
 | (n,k) :: r,acc,x,h=>by
  unfold uZ
  by_cases hk:(k == NameKind.free) = true
  ·rw [if_pos hk]
   refine zB6 r _ x ?_
   rcases h with h | h
   ·refine .inl ?_
    rw [lookup_cons]
    cases hy:x == n with
    | true=>rfl
    | false=>exact h
   ·rcases mem_cons.mp h with h | h
    ·cases h
     refine .inl ?_
     rw [lookup_cons,beq_self_eq_true]
     rfl
    ·exact .inr h
  ·rw [if_neg hk]
   refine zB6 r _ x ?_
   rcases h with h | h
   ·exact .inl h
   ·rcases mem_cons.mp h with h | h
    ·cases h
     exact absurd rfl hk
    ·exact .inr h
theorem zCz {env:Env}:∀ {names:List (Str × NameKind)} {x:Str},names.lookup x = some .free ->
  (names.map λ(n,k)=>if (k == NameKind.free && env.scope.kind == .function && env.kindOf n == some .cell) then (n,NameKind.cell) else (n,k)).lookup x = some .cell \/
  (names.map λ(n,k)=>if (k == NameKind.free && env.scope.kind == .function && env.kindOf n == some .cell) then (n,NameKind.cell) else (n,k)).lookup x = some .free
 | [],_,h=>by simp at h
 | (n,k) :: r,x,h=>by
  have ih:=@zCz env r x
  show List.lookup x ((if (k == NameKind.free && env.scope.kind == .function && env.kindOf n == some .cell) = true then (n,NameKind.cell) else (n,k)) :: _) = _ \/ List.lookup x ((if (k == NameKind.free && env.scope.kind == .function && env.kindOf n == some .cell) = true then (n,NameKind.cell) else (n,k)) :: _) = _
  cases hx:x == n with
  | true =>
   simp only [lookup_cons,hx] at h
   cases h
   by_cases hc:(NameKind.free == NameKind.free && env.scope.kind == .function && env.kindOf n == some .cell) = true
   ·rw [if_pos hc]; left; simp only [lookup_cons,hx]
   ·rw [if_neg hc]; right; simp only [lookup_cons,hx]
  | false =>
   simp only [lookup_cons,hx] at h
   by_cases hc:(k == NameKind.free && env.scope.kind == .function && env.kindOf n == some .cell) = true
   ·rw [if_pos hc]; simp only [lookup_cons,hx]; exact ih h
   ·rw [if_neg hc]; simp only [lookup_cons,hx]; exact ih h
theorem zBp {env:Env}:∀ {names:List (Str × NameKind)} {x:Str} {k:NameKind},(k = .cell \/ k = .free) ->
  (names.map λ(n,k)=>if (k == NameKind.free && env.scope.kind == .function && env.kindOf n == some .cell) then (n,NameKind.cell) else (n,k)).lookup x = some k->(x,NameKind.free) ∈ names \/ (x,NameKind.cell) ∈ names
 | [],_,_,_,h=>by simp at h
 | (n,k') :: r,x,k,hk,h=>by
  have ih:=@zBp env r x k hk
  have h':List.lookup x ((if (k' == NameKind.free && env.scope.kind == .function && env.kindOf n == some .cell) = true then (n,NameKind.cell) else (n,k')) :: (r.map λ(n,k)=>if (k == NameKind.free && env.scope.kind == .function && env.kindOf n == some .cell) then (n,NameKind.cell) else (n,k))) = some k:=h
  cases hx:x == n with
  | true =>
   have e:=eq_of_beq hx
   subst e
   by_cases hd:(k' == NameKind.free && env.scope.kind == .function && env.kindOf x == some .cell) = true
   ·have e2:k' = .free:=by
     rw [Bool.and_eq_true,Bool.and_eq_true] at hd
     exact eq_of_beq hd.1.1
    subst e2
    exact .inl mem_cons_self
   ·rw [if_neg hd] at h'
    simp only [lookup_cons,hx] at h'
    cases h'
    rcases hk with e | e
    ·subst e; exact .inr mem_cons_self
    ·subst e; exact .inl mem_cons_self
  | false =>
   have g:(x,NameKind.free) ∈ r \/ (x,NameKind.cell) ∈ r:=by
    refine ih ?_
    by_cases hd:(k' == NameKind.free && env.scope.kind == .function && env.kindOf n == some .cell) = true
    ·rw [if_pos hd] at h'; simp only [lookup_cons,hx] at h'; exact h'
    ·rw [if_neg hd] at h'; simp only [lookup_cons,hx] at h'; exact h'
   rcases g with g | g
   ·exact .inl (mem_cons_of_mem _ g)
   ·exact .inr (mem_cons_of_mem _ g)
theorem xO:∀ (l:List (Str × NameKind)) (n:Nat) (acc:List (Str × Addr)),cellsFrom n l acc = cellsFrom n l [] ++ acc
 | [],_,_=>rfl
 | (x,k) :: r,n,acc=>by
  unfold cellsFrom
  split
  ·rw [xO r (n + 1) ((x,n) :: acc),xO r (n + 1) [(x,n)]]; simp
  ·exact xO r n acc
theorem uP:∀ (l:List (Str × NameKind)) (n:Nat) (x:Str) (c:Addr),(x,c) ∈ cellsFrom n l []->(x,NameKind.cell) ∈ l
 | [],_,_,_,h=>by cases h
 | (y,k) :: r,n,x,c,h=>by
  unfold cellsFrom at h
  split at h
  ·rename_i hk
   rw [xO] at h
   rcases mem_append.mp h with h | h
   ·exact mem_cons_of_mem _ (uP r _ x c h)
   ·have e:(x,c) = (y,n):=by simpa using h
    cases e
    rw [eq_of_beq hk]
    exact mem_cons_self
  ·exact mem_cons_of_mem _ (uP r _ x c h)
theorem zC2 {s:Shared} {scope:Scope} {Q:Env->Shared->Prop}
  (hQ:∀ h',h'.Ns s.heap.objs.size (λ_=>none)->(∀ b o,s.heap.get? b = some o->h'.get? b = some o)->CellsOk h' (s.heap.objs.size + 1) (cellsFrom (s.heap.objs.size + 1) scope.names []) ->
   Q (newEnv scope s.heap.objs.size globals (cellsFrom (s.heap.objs.size + 1) scope.names closure) qual none .none (some outer) builtinsNs) { s with heap:=h' }) :
  wpAny M A (newFunctionEnv scope globals closure [] qual none .none (some outer)) Q E s:=by
 simp only [newFunctionEnv,Option.isSome_some,if_true]
 refine wpAny_bind (wpAny_alloc ?_)
 refine wpAny_bind (wpAny_layCells _ (λname kind cells=>by cases hkc:kind == NameKind.cell <;> simp [hkc]) _ _ _ _ ?_)
 have ok:=cellsFrom_ok scope.names (s.heap.push { cls:=.type "dict",data:=.dict #[] }) (s.heap.objs.size + 1) [] ⟨λ_ _ hm=>(nomatch hm),Pairwise.nil⟩ (by rw [size_push]; exact Nat.le_refl _)
 rw [size_push] at ok
 rw [show ({ s with heap:=s.heap.push { cls:=.type "dict",data:=.dict #[] } }:Shared).heap.objs.size = s.heap.objs.size + 1 from size_push ..]
 refine wpAny_bind ?_
 rw [List.forIn_nil]
 exact wpAny_pure (wpAny_pure (hQ _ ((Heap.Ns.new s.heap (.type "dict")).keeps (pushCells_keeps _ _)) (λb o e=>pushCells_keeps _ _ b o (get?_push_of_some _ e)) ok))
theorem HOk.track (x:HOk P w H h) (hn:H a = none) (new:ObjOk P w (upd H a o) h a o):HOk P w (upd H a o) h:=λb u e=>by
 by_cases hb:b = a
 ·subst hb; rw [zR] at e; cases e; exact new
 ·rw [zO hb] at e
  exact (x b u e).stay (λc v _ q=>q) (λc q=>by rw [zO (zS q hn)]; exact q) λc xs q=>by rw [zO (zS q hn)]; exact q
theorem Un.track (u:Un fs ex H H' h h') (h0:h.get? a = none) (hn:H a = none):Un fs ex H (upd H' a o) h h' where
 keep:=u.keep
 slot:=u.slot
 free:=λb ob q n hx=>by
  rw [zO (λz=>by rw [z,h0] at q; cases q)]; exact u.free b ob q n hx
 there:=u.there
 tups:=λb xs q=>by rw [zO (zS q hn)]; exact u.tups b xs q
 frzs:=λb ob xs q=>by rw [zO (zS q hn)]; exact u.frzs b ob xs q
 tbls:=λb ps q=>by rw [zO (zS q hn)]; exact u.tbls b ps q
def nIn (N:List Str) (own:List Str) (ix:List Nat):List Str:=own ++ ix.map λj=>N.getD j Str.empty
def σIn (σ:St) (n:Nat) (ix:List Nat):St:=replicate n none ++ ix.map λj=>(σ[j]?).getD none
def cxIn (X:Cx) (scope:Scope) (own:List Str) (ix:List Nat) (C:Addr) (s:Shared) (H:Hp) (fp:List Addr):Cx :=
 { X with N:=nIn X.N own ix,s₀:=s,H₀:=H,env:=compEnvC scope (cellsFrom (C + 1) scope.names (uZ X.env scope.names [])) C X.env,outer:=X.stack,stack:=X.stack,ex:=fp,fn:=λx=>scope.names.lookup x == some .cell,pn:=[] }
def zJ3 (osc:Scope) (oN:List Str) (scope:Scope) (ix:List Nat):Bool :=
 scope.kind == .function &&
 (scope.names.all λy=>(y.2 != .cell || scope.names.lookup y.1 == some .cell) && (y.2 != .local || scope.names.lookup y.1 == some .local) && (y.2 != .free || (osc.names.lookup y.1 == some .cell || osc.names.lookup y.1 == some .free))) &&
 ix.all λj=>match oN[j]? with
  | some x=>scope.names.lookup x == some .free
  | none=>false
structure CompSc (osc:Scope) (oN:List Str) (scope:Scope) (ix:List Nat):Prop where
 kind:scope.kind = .function
 clk:∀ y ∈ scope.names,y.2 = .cell->scope.names.lookup y.1 = some .cell
 nm:∀ y ∈ scope.names,y.2 = .local->scope.names.lookup y.1 = some .local
 fr:∀ y ∈ scope.names,y.2 = .free->osc.names.lookup y.1 = some .cell \/ osc.names.lookup y.1 = some .free
 ix:∀ j ∈ ix,∃ x,oN[j]? = some x /\ scope.names.lookup x = some .free
theorem zHn (h:zJ3 osc oN scope ix = true):CompSc osc oN scope ix:=by
 unfold zJ3 at h
 rw [Bool.and_eq_true,Bool.and_eq_true,all_eq_true,all_eq_true] at h
 obtain ⟨⟨h1,h2⟩,h3⟩:=h
 refine ⟨eq_of_beq h1,λy hy e=>?_,λy hy e=>?_,λy hy e=>?_,λj hj=>?_⟩
 ·have q:=h2 y hy
  rw [Bool.and_eq_true,Bool.and_eq_true] at q
  rcases Bool.or_eq_true _ _ ▸ q.1.1 with z | z
  ·exact absurd e (bne_iff_ne.mp z)
  ·exact eq_of_beq z
 ·have q:=h2 y hy
  rw [Bool.and_eq_true,Bool.and_eq_true] at q
  rcases Bool.or_eq_true _ _ ▸ q.1.2 with z | z
  ·exact absurd e (bne_iff_ne.mp z)
  ·exact eq_of_beq z
 ·have q:=h2 y hy
  rw [Bool.and_eq_true,Bool.and_eq_true] at q
  rcases Bool.or_eq_true _ _ ▸ q.2 with z | z
  ·exact absurd e (bne_iff_ne.mp z)
  ·rcases Bool.or_eq_true _ _ ▸ z with z | z
   ·exact .inl (eq_of_beq z)
   ·exact .inr (eq_of_beq z)
 ·have q:=h3 j hj
  cases e:oN[j]? with
  | none=>rw [e] at q; cases q
  | some x=>rw [e] at q; exact ⟨x,rfl,eq_of_beq q⟩
section
variable {X:Cx} {pins:List (Addr × Obj)} {σ:St} {H:Hp} {s:Shared} {scope:Scope} {own:List Str} {ix:List Nat}
theorem zCs (I:Inv X pins σ H s) (sc:CompSc X.env.scope X.N scope ix):∀ y ∈ scope.names,y.2 = .free->∃ c,X.env.cells.lookup y.1 = some c:=λy hy e=>by
 rcases sc.fr y hy e with q | q
 ·exact I.ok.has y.1 (.inl q)
 ·exact I.ok.has y.1 (.inr q)
theorem zJ4 (I:Inv X pins σ H s) (sc:CompSc X.env.scope X.N scope ix) (e:(uZ X.env scope.names []).lookup x = some c):X.env.cells.lookup x = some c:=by
 have h1:=zD5 (env:=X.env) scope.names [] (λx c q=>by simp at q) x c e
 rcases zCt (env:=X.env) scope.names [] x c e with q | q
 ·simp at q
 ·obtain ⟨c',hc⟩:=zCs I sc (x,.free) q rfl
  have hc':X.env.cells.lookup x = some c':=hc
  rw [hc'] at h1
  rw [hc']
  exact congrArg some h1
theorem zQb (I:Inv X pins σ H s) (sc:CompSc X.env.scope X.N scope ix) (hx:(x,NameKind.free) ∈ scope.names) (e:X.env.cells.lookup x = some c):(uZ X.env scope.names []).lookup x = some c:=by
 have h1:=zB6 (env:=X.env) scope.names [] x (.inr hx)
 obtain ⟨c',hc⟩:=Option.isSome_iff_exists.mp h1
 rw [hc]
 have:=zJ4 I sc hc
 rw [e] at this
 exact this.symm
theorem uG (I:Inv X pins σ H s) (sc:CompSc X.env.scope X.N scope ix) (e:(cellsFrom (C + 1) scope.names (uZ X.env scope.names [])).lookup x = some c):(x,c) ∈ cellsFrom (C + 1) scope.names [] \/ X.env.cells.lookup x = some c:=by
 rw [xO,lookup_append] at e
 cases h:(cellsFrom (C + 1) scope.names []).lookup x with
 | some d=>rw [h] at e; cases e; exact .inl (PySem.mem_of_lookup h)
 | none=>rw [h] at e; exact .inr (zJ4 I sc e)
theorem σIn_get (h:(σIn σ n ix)[i]? = some (some v)):∃ j,ix[i - n]? = some j /\ σ[j]? = some (some v) /\ n <= i:=by
 unfold σIn at h
 by_cases hi:i < n
 ·rw [getElem?_append_left (by simpa using hi),getElem?_replicate] at h
  rw [if_pos hi] at h
  cases h
 ·rw [getElem?_append_right (by simpa using hi),length_replicate,getElem?_map] at h
  cases e:ix[i - n]? with
  | none=>rw [e] at h; cases h
  | some j =>
   rw [e] at h
   have h':(σ[j]?).getD none = some v:=Option.some.inj h
   refine ⟨j,rfl,?_,by omega⟩
   cases e2:σ[j]? with
   | none=>rw [e2] at h'; cases h'
   | some o=>rw [e2] at h'; exact congrArg some h'
theorem Inv.comp {h₁:Heap} (I:Inv X pins σ H s) (sc:CompSc X.env.scope X.N scope ix) (fo:∀ b ∈ fp,FpOk X pins H b) (fex:∀ b ∈ fp,b < s.heap.objs.size)
  (hC:s.heap.objs.size <= C) (hns:h₁.Ns C m₀) (hk:∀ b o,s.heap.get? b = some o->h₁.get? b = some o) (co:CellsOk h₁ (C + 1) (cellsFrom (C + 1) scope.names [])):Inv (cxIn X scope own ix C s H fp) [] (σIn σ own.length ix) H { s with heap:=h₁,toks:=t' }:=by
 have lt:∀ {b:Addr},b < s.heap.objs.size->b ≠ C:=λ{b} hb=>Nat.ne_of_lt (Nat.lt_of_lt_of_le hb hC)
 have oldC:∀ {x:Str} {c:Addr},X.env.cells.lookup x = some c->c < C + 1:=λ{x c} e=>by
  obtain ⟨v,q⟩:=I.cell x c e
  exact Nat.lt_succ_of_lt (Nat.lt_of_lt_of_le q.lt hC)
 have cellK:∀ {x:Str} {c:Addr},X.env.cells.lookup x = some c->∀ v,s.heap.IsCell c v->h₁.IsCell c v:=λ{x c} _ v ⟨o,ho,hd⟩=>⟨o,hk _ _ ho,hd⟩
 refine ⟨⟨I.ok.mod,sc.kind,I.ok.glob,I.ok.blt,hC,λx y c h1 h2=>?_,λx hx=>?_,λx c h e=>by
  have h':scope.names.lookup x = some .cell:=eq_of_beq h
  have e':(cellsFrom (C + 1) scope.names (uZ X.env scope.names [])).lookup x = some c:=e
  rw [xO,lookup_append] at e'
  obtain ⟨d,hd⟩:=Option.isSome_iff_exists.mp (cellsFrom_some scope.names (C + 1) [] (.inl h'))
  rw [hd] at e'
  cases e'
  exact Nat.le_trans hC (Nat.le_of_succ_le (co.empty _ _ (PySem.mem_of_lookup hd)).2),I.ok.hd,I.ok.frames,.inl rfl,λb hb=>?_,I.bs,Nat.le_trans I.ok.bsz I.sz,λb o e hb=>?_,λb hb z=>?_,I.stack,I.stkFree⟩,
  rfl,I.bare,Un.kept hk,⟨m₀,hns,λi x v h1 h2 h3=>?_⟩,λx c h=>?_,I.hok.fresh hC,λx c h=>?_,λp hp=>?_,I.hok.kept hk,?_⟩
 ·rcases uG I sc h1 with q1 | q1
  ·rcases uG I sc h2 with q2 | q2
   ·exact name_of_addr co.apart q1 q2
   ·exact absurd (Nat.lt_of_lt_of_le (oldC q2) (co.empty _ _ q1).2) (Nat.lt_irrefl _)
  ·rcases uG I sc h2 with q2 | q2
   ·exact absurd (Nat.lt_of_lt_of_le (oldC q1) (co.empty _ _ q2).2) (Nat.lt_irrefl _)
   ·exact I.ok.inj x y c q1 q2
 ·have hm:(x,NameKind.free) ∈ scope.names \/ (x,NameKind.cell) ∈ scope.names:=by
   rcases hx with hx | hx
   ·exact zBp (env:=X.env) (.inl rfl) hx
   ·exact zBp (env:=X.env) (.inr rfl) hx
  refine Option.isSome_iff_exists.mp ?_
  show ((cellsFrom (C + 1) scope.names (uZ X.env scope.names [])).lookup x).isSome = true
  rcases hm with hm | hm
  ·exact cellsFrom_some _ _ _ (.inr (zB6 (env:=X.env) scope.names [] x (.inr hm)))
  ·exact cellsFrom_some _ _ _ (.inl (sc.clk _ hm rfl))
 ·obtain ⟨f0,f1,f2,f3,f4,f5⟩:=fo b hb
  refine ⟨lt (fex b hb),λx c h=>?_⟩
  rcases uG I sc h with q | q
  ·exact λz=>absurd (Nat.lt_of_lt_of_le (fex b hb) (Nat.le_trans hC (Nat.le_of_succ_le (z ▸ (co.empty _ _ q).2)))) (Nat.lt_irrefl _)
  ·exact f4 x c q
 ·obtain ⟨f0,f1,f2,f3,f4,f5⟩:=fo b hb
  rcases f3 with z | z
  ·exact I.ok.noex b o e z
  ·exact absurd (Nat.lt_of_lt_of_le (lt_size e) (Nat.le_trans I.ok.bsz z)) (Nat.lt_irrefl _)
 ·obtain ⟨f0,f1,f2,f3,f4,f5⟩:=fo b hb
  rcases mem_cons.mp (I.stkSub b z) with z | z
  ·exact f1 z
  ·exact f2 z
 ·obtain ⟨j,hj,hv,hn⟩:=σIn_get h2
  obtain ⟨y,hy,hf⟩:=sc.ix j (mem_of_getElem? hj)
  have e:y = x:=by
   have h1':(nIn X.N own ix)[i]? = some x:=h1
   unfold nIn at h1'
   rw [getElem?_append_right hn,getElem?_map,hj] at h1'
   have h1'':X.N.getD j Str.empty = x:=Option.some.inj h1'
   rw [getD_eq_getElem?_getD,hy] at h1''
   exact h1''
  subst e
  have hm:(y,NameKind.free) ∈ scope.names:=PySem.mem_of_lookup hf
  have vis:Vis X.env.scope y:=by
   rcases sc.fr _ hm rfl with q | q
   ·exact .inr (.inl q)
   ·exact .inr (.inr q)
  obtain ⟨m,_,hl⟩:=I.loc
  obtain ⟨u,r,l⟩:=hl j y v hy hv vis
  refine ⟨u,r,?_⟩
  rcases l with ⟨hk',_⟩ | ⟨_,c,hc,hcell⟩
  ·have hk'':X.env.scope.names.lookup y = some .local:=hk'
   rcases sc.fr _ hm rfl with q | q
   ·have q':X.env.scope.names.lookup y = some .cell:=q
    rw [hk''] at q'; cases q'
   ·have q':X.env.scope.names.lookup y = some .free:=q
    rw [hk''] at q'; cases q'
  ·refine .inr ⟨zCz (env:=X.env) hf,c,?_,cellK hc _ hcell⟩
   show (cellsFrom (C + 1) scope.names (uZ X.env scope.names [])).lookup y = some c
   rw [xO,lookup_append,zQb I sc hm hc]
   cases e:(cellsFrom (C + 1) scope.names []).lookup y with
   | none=>rfl
   | some d =>
    have q:=sc.clk _ (uP _ _ _ _ (PySem.mem_of_lookup e)) rfl
    have q':scope.names.lookup y = some .cell:=q
    rw [hf] at q'; cases q'
 ·rcases uG I sc h with q | q
  ·exact ⟨_,(co.empty _ _ q).1⟩
  ·obtain ⟨v,z⟩:=I.cell x c q
   exact ⟨v,cellK q v z⟩
 ·rcases uG I sc h with q | q
  ·exact I.hok.fresh (Nat.le_trans hC (Nat.le_of_succ_le (co.empty _ _ q).2))
  ·exact I.freeC x c q
 ·exact absurd (show p ∈ ([]:List (Addr × Obj)) from hp) (by simp)
 ·show (σIn σ own.length ix).length = (nIn X.N own ix).length
  unfold σIn nIn
  simp
end
def PIfs (X:Cx) (ifs:List Expr) (t:TT):Prop :=
 ∀ (pins:List (Addr × Obj)) (s:Shared) (σ:St) (H:Hp) (Q:Bool->Hp->Prop),Inv X pins σ H s->t σ H Q ->
  wpAny (model X.prog X.w) X.A (forIn ifs true λc r=>if r = true then do let ok <- isTrue c X.env (eval c X.env); pure (ForInStep.yield ok) else pure (ForInStep.yield r)) (TP X pins σ Q) X.xe s
def tIf0:TT:=λ_ H Q=>Q true H
theorem vN:PIfs X [] tIf0:=λ_ _ _ H _ I h=>wpAny_tests_nil ⟨H,I,h⟩
theorem zCd (h:PT X c t):PIfs X [c] t:=λpins s σ H Q I q=>wpAny_tests_one (h pins s σ H Q I q)
def rComp (n:Nat) (ix:List Nat) (g:TG) (tc:TT) (te:TE) (σ:St) (Q:VK) (J:It) (H1:Hp):Prop :=
 ∃ W:Nat->Nat->List V->St->Hp->Prop,(∃ m,W 0 m [] (σIn σ n ix) H1) /\ ∀ i m ys σ2 H2,W i m ys σ2 H2 ->
  (J.stop i H2 /\ ys.length <= sizeLine /\ ∀ p,H2 p = none->Q (.ref p) (upd H2 p (.lst ys))) \/
  (J.go i H2 /\ ys.length < sizeLine /\ ∃ N:List V->St->Hp->Prop,(∀ ys' σ' H',N ys' σ' H'->∃ m',m' < m /\ W (i + 1) m' ys' σ' H') /\
   ∀ x H3,J.yld i H2 x H3->g x σ2 H3 λσ4 H4=>tc σ4 H4 λb H5=>if b = true then te σ4 H5 λy H6=>N (ys ++ [y]) σ4 H6 else N ys σ4 H5)
def zOu (n:Nat) (ix:List Nat) (wi:TI) (g:TG) (tc:TT) (te:TE):TE:=λσ H Q=>wi σ H (rComp n ix g tc te σ Q)
def BEnd (X:Cx) (pins:List (Addr × Obj)) (σ:St) (Q:VK) (acc:Value) (C:Addr) (s':Shared):Prop :=
 ∃ p H',acc = .ref p /\ Inv X pins σ H' s' /\ (∃ m,s'.heap.Ns C m) /\ FpOk X pins H' C /\ Q (.ref p) H'
theorem thx {X:Cx} {α:Type} {t:Sem α} {Q Q':α->Shared->Prop} (hx:X.xe = λ_ _=>False) (h:wpAny M A t Q X.xe s) (hQ:∀ a s,Q a s->Q' a s):wpAny M A t Q' E s :=
 wpAny_mono h hQ λe s' z=>by rw [hx] at z; exact z.elim
section
variable {X:Cx} {elt tg iter:Expr} {ifs:List Expr} {scope:Scope} {pos:Pos} {own:List Str} {ix:List Nat} {wi:TI} {g:TG} {tc:TT} {te:TE}
theorem zE2 {RR:Value->Addr->Result->Shared->Prop}
  (hx:X.xe = λ_ _=>False) (hc:X.calm = true) (sc:CompSc X.env.scope X.N scope ix) (I:Inv X pins σ H s) (T:Turn X.prog X.w X.K tg J fp it tn) (st:tn 0 s.heap) (fo:∀ b ∈ fp,FpOk X pins H b)
  (hg:∀ C s H fp,PG (cxIn X scope own ix C s H fp) tg g) (hif:∀ C s H fp,PIfs (cxIn X scope own ix C s H fp) ifs tc) (he:∀ C s H fp,PE (cxIn X scope own ix C s H fp) elt te)
  (rd:rComp own.length ix g tc te σ Q J H) (hRR:∀ acc C s',BEnd X pins σ Q acc C s'->RR acc C (.ok .next) s') :
  wpAny (model X.prog X.w) X.A (newList []) (λacc s₃=>wpAny (model X.prog X.w) X.A (newFunctionEnv scope X.env.globals (uZ X.env scope.names []) [] X.env.qual none .none (some X.env)) (λcenv s₄ =>
   codeAny (model X.prog X.w) X.A (.compStart (.ListComp elt [⟨tg,iter,ifs,0⟩] scope pos) 0 (.ref it) acc { cenv with scope:=relabel scope X.env }) (RR acc cenv.locals) s₄) E s₃) E s:=by
 refine wpAny_newObj_type (zC2 (λh₁ hns₁ hsb₁ co=>?_))
 dsimp only at hns₁ hsb₁ co ⊢
 generalize hD':s.heap.objs.size = D at hns₁ hsb₁ co ⊢
 generalize hH2:s.heap.push { cls:=.type "list",dict:=none,data:=.seq ([]:List Value).toArray } = G at hns₁ hsb₁ co ⊢
 generalize hC':G.objs.size = C at hns₁ hsb₁ co ⊢
 have hC:C = D + 1:=by rw [<- hC',<- hH2,size_push,hD']
 have hDC:D ≠ C:=by rw [hC]; exact Nat.ne_of_lt (Nat.lt_succ_self _)
 have hle:s.heap.objs.size <= C:=by rw [hC,hD']; exact Nat.le_succ _
 have old:∀ b o,s.heap.get? b = some o->h₁.get? b = some o:=λb o e=>by
  exact hsb₁ b o (hH2 ▸ get?_push_of_some _ e)
 have oD:h₁.get? D = some { cls:=.type "list",data:=.seq ([]:List Value).toArray 0 }:=by
  refine hsb₁ D _ ?_
  rw [<- hH2,<- hD']
  exact get?_push_size _ rfl
 have fex:∀ b ∈ fp,b < s.heap.objs.size:=λb hb=>by
  obtain ⟨o,e,_⟩:=T.obj 0 _ st b hb
  exact lt_size e
 have nDf:∀ b ∈ fp,b ≠ D:=λb hb=>by rw [<- hD']; exact Nat.ne_of_lt (fex b hb)
 have sD:s.heap.get? D = none:=by
  cases e:s.heap.get? D with
  | none=>rfl
  | some o=>exact absurd (lt_size e) (by rw [hD']; exact Nat.lt_irrefl _)
 have hDn:H D = none:=I.hok.fresh (by rw [hD']; exact Nat.le_refl _)
 have I0:Inv (cxIn X scope own ix C s H fp) [] (σIn σ own.length ix) H { s with heap:=h₁ }:=I.comp sc fo fex hle hns₁ old co
 have st0:tn 0 h₁:=T.keep 0 _ _ st λb _ o e=>old b o e
 have hx':(cxIn X scope own ix C s H fp).xe = λ_ _=>False:=hx
 have Dloc:D ≠ (cxIn X scope own ix C s H fp).env.locals:=hDC
 have Dex:D ∈ (cxIn X scope own ix C s H fp).ex \/ (cxIn X scope own ix C s H fp).s₀.heap.objs.size <= D:=.inr (by show s.heap.objs.size <= D; rw [hD']; exact Nat.le_refl _)
 have Dfs:D ∉ (cxIn X scope own ix C s H fp).fs:=I0.nofs (a:=D) |> λk=>λz=>by
  have z':D ∈ frs X.stack:=z
  rcases mem_cons.mp (I.stkSub D z') with q | q
  ·exact absurd (q ▸ I.lt) (by rw [hD']; exact Nat.lt_irrefl _)
  ·exact I.nofs (by rw [hD']; exact Nat.le_refl _) q
 have Dcell:∀ x c,(cxIn X scope own ix C s H fp).env.cells.lookup x = some c->c ≠ D:=λx c e z=>by
  rcases uG I sc e with q | q
  ·have w1:=(co.empty _ _ q).2
   rw [z,hC] at w1
   omega
  ·obtain ⟨v,q⟩:=I.cell x c q
   exact absurd (Nat.lt_of_lt_of_le q.lt (by rw [z,hD']; exact Nat.le_refl _)) (Nat.lt_irrefl _)
 have fo':∀ {H':Hp} {pl:List (Addr × Obj)},(∀ b ∈ fp,H' b = none)->(∀ p ∈ pl,p.1 = D)->∀ b ∈ fp,FpOk (cxIn X scope own ix C s H fp) pl H' b:=λ{H' pl} hn hp b hb=>by
  obtain ⟨f0,f1,f2,f3,f4,f5⟩:=fo b hb
  refine ⟨hn b hb,(I0.ok.exf b hb).1,I0.ok.exfs b hb,.inl hb,(I0.ok.exf b hb).2,λp hp' z=>?_⟩
  rcases mem_append.mp hp' with q | q
  ·exact absurd (show p ∈ ([]:List (Addr × Obj)) from q) (by simp)
  ·exact nDf b hb (by rw [<- z]; exact hp p q)
 obtain ⟨W,⟨m0,w0⟩,step⟩:=rd
 have loop:codeAny (model X.prog X.w) X.A (.compLoop (.ListComp elt [⟨tg,iter,ifs,0⟩] scope pos) 0 (.ref it) (.ref D) (cxIn X scope own ix C s H fp).env) (RR (.ref D) C) { s with heap:=h₁ }:=by
  refine zHq (λn s'=>∃ i ys σ' H' its k,Inv (cxIn X scope own ix C s H fp) [] σ' H' s' /\ tn i s'.heap /\ (∀ b ∈ fp,H' b = none) /\ H' D = none /\ s'.heap.get? D = some { cls:=.type "list",data:=.seq (toArray its) k } /\ Vals ys its /\ W i n ys σ' H') ?_ m0
   ⟨0,[],_,H,[],0,I0,st0,λb hb=>(fo b hb).1,hDn,oD,.nil,w0⟩
  rintro n s1 ⟨i,ys,σ1,H1,its,k,I1,tn1,fr1,D1,o1,rv1,w1⟩
  have J1:Inv (cxIn X scope own ix C s H fp) [(D,{ cls:=.type "list",data:=.seq (toArray its) k })] σ1 H1 s1:=I1.pins_of λp hp=>by
   have e:p = (D,{ cls:=.type "list",data:=.seq (toArray its) k }):=by simpa using hp
   subst e
   exact ⟨o1,D1,Dloc,Dfs,λv z=>by cases z⟩
  have single:∀ p ∈ [((D,{ cls:=.type "list",data:=.seq (toArray its) k }):Addr × Obj)],p.1 = D:=λp hp=>by
   have e:p = (D,{ cls:=.type "list",data:=.seq (toArray its) k }):=by simpa using hp
   rw [e]
  rcases step i n ys σ1 H1 w1 with ⟨stop,hz,qn⟩ | ⟨go,hz,N,hN,stp⟩
  ·refine thn (T.done (cxIn X scope own ix C s H fp) rfl rfl rfl hc i _ s1 σ1 H1 _ J1 (fo' fr1 single) tn1 stop) λr s2 ⟨hr,I2⟩=>?_
   subst hr
   obtain ⟨e2,_⟩:=I2.pin (D,{ cls:=.type "list",data:=.seq (toArray its) k }) (mem_append_right _ (by simp))
   obtain ⟨m2,hns2,_⟩:=I2.loc
   refine hRR _ _ _ ⟨D,upd H1 D (.lst ys),rfl,?_,⟨m2,hns2⟩,?_,qn D D1⟩
   ·refine I.call' (ch:=fp) I2.os (Un.track I2.base sD hDn) (I2.hok.track D1 ⟨hz,its,k,rv1,e2⟩) I2.bare λb hb=>?_
    obtain ⟨f0,f1,f2,f3,f4,f5⟩:=fo b hb
    exact ⟨f3,f1,f4,f5⟩
   ·refine I.fpOk hle ?_
    rw [zO hDC.symm]
    exact I2.free
  ·refine thn (T.item (cxIn X scope own ix C s H fp) rfl rfl rfl hc i _ s1 σ1 H1 _ J1 (fo' fr1 single) tn1 go) λr s2 ⟨u,hr,h2⟩=>?_
   subst hr
   refine thn h2 λ_ s3 ⟨x,H3,I3,rx,y3,tn3,fr3⟩=>?_
   have I3':=I3.pinned (fo' fr3 single) (T.obj _ _ tn3)
   refine thx hx' (hg C s H fp _ s3 σ1 H3 x u _ I3' rx (stp x H3 y3)) λ_ s4 ⟨σ4,H4,I4,q4⟩=>?_
   refine thx hx' (hif C s H fp _ s4 σ4 H4 _ I4 q4) λb s5 ⟨H5,I5,q5⟩=>?_
   have back:∀ {σ7:St} {H7:Hp} {s7:Shared},Inv (cxIn X scope own ix C s H fp) ([(D,{ cls:=.type "list",data:=.seq (toArray its) k })] ++ zEp fp s3.heap) σ7 H7 s7 ->
     tn (i + 1) s7.heap /\ (∀ b ∈ fp,H7 b = none) /\ H7 D = none /\ s7.heap.get? D = some { cls:=.type "list",data:=.seq (toArray its) k }:=λ{σ7 H7 s7} I7=>by
    have pinD:=I7.pin (D,{ cls:=.type "list",data:=.seq (toArray its) k }) (mem_append_right _ (mem_append_left _ (by simp)))
    refine ⟨T.keep _ _ _ tn3 λb hb o e=>(I7.pin (b,o) (mem_append_right _ (mem_append_right _ (uV hb e)))).1,λb hb=>?_,pinD.2.1,pinD.1⟩
    obtain ⟨o,e,d⟩:=T.obj _ _ tn3 b hb
    exact (I7.pin (b,o) (mem_append_right _ (mem_append_right _ (uV hb e)))).2.1
   cases b with
   | false =>
    obtain ⟨m',hm,w'⟩:=hN _ _ _ (show N ys σ4 H5 from q5)
    obtain ⟨b1,b2,b3,b4⟩:=back I5
    exact ⟨m',hm,i + 1,ys,σ4,H5,its,k,I5.pins_of (λp hp=>absurd hp (by simp)),b1,b2,b3,b4,rv1,w'⟩
   | true =>
    rw [if_pos rfl]
    refine thx hx' (he C s H fp _ s5 σ4 H5 _ I5 q5) λv s6 ⟨y,H6,I6,ry,q6⟩=>?_
    obtain ⟨m',hm,w'⟩:=hN _ _ _ q6
    obtain ⟨b1,b2,b3,b4⟩:=back I6
    have zl:its.length = ys.length:=rv1.length.symm
    refine call_meets F.slot_list_append ⟨_,b4,rfl⟩ F.entry_list_append (F.args_list_append_2 _ _) (PySem.list_append D its.toArray k v (by rw [size_toArray]; omega)) ⟨b4,?_⟩
    have q:=PySem.IsL.update b4 (λxs=>xs.push v)
    have keep:∀ b o,b ≠ D->s6.heap.get? b = some o->(s6.heap.update D (Obj.mapSeq λxs=>xs.push v)).get? b = some o:=λb o hb e=>(get?_update_other s6.heap _ (Ne.symm hb)).trans e
    refine ⟨m',hm,i + 1,ys ++ [y],σ4,H6,its ++ [v],(if (its.toArray.push v).size == its.toArray.size then k else k + 1),?_,T.keep _ _ _ b1 (λb hb o e=>keep b o (nDf b hb) e),b2,b3,?_,rv1.append (.cons ry .nil),w'⟩
    ·exact (I6.pins_of (pins':=[]) λp hp=>absurd hp (by simp)).turned (t':=s6.toks) keep b3 Dloc Dex Dcell λp hp=>absurd (show p ∈ ([]:List (Addr × Obj)) from hp) (by simp)
    ·rw [show (its ++ [v]).toArray = its.toArray.push v by simp]
     exact q
 exact codeAny_compStart_list loop (T.self X.A 0 _ _ _ st0 loop)
theorem wO (hx:X.xe = λ_ _=>False) (hc:X.calm = true) (ho:zJ3 X.env.scope X.N scope ix = true) (hi:PI X tg iter wi)
  (hg:∀ C s H fp,PG (cxIn X scope own ix C s H fp) tg g) (hif:∀ C s H fp,PIfs (cxIn X scope own ix C s H fp) ifs tc) (he:∀ C s H fp,PE (cxIn X scope own ix C s H fp) elt te)
  (hs:∀ x,foldedSetIterable iter X.env x = pure x:=by intro _; rfl):PE X (.ListComp elt [⟨tg,iter,ifs,0⟩] scope pos) (zOu own.length ix wi g tc te):=by
 intro pins s σ H Q I h
 have sc:=zHn ho
 rw [eval_ListComp]
 refine wpAny_comprehension_free (use:=none) rfl hs (zB5 (zCs I sc)) sc.kind sc.nm (thn (hi pins s σ H _ I h) λv s1 h1=>thn h1 λitv s2 h2=>?_)
 obtain ⟨it,fp,tn,J,H2,e,I2,T,st2,f2,rd⟩:=h2
 subst e
 refine zE2 (RR:=λacc C=>compPost (model X.prog X.w) X.A X.xe none (EP X pins σ Q) acc C) hx hc sc I2 T st2 f2 hg hif he rd ?_
 rintro acc C s' ⟨p,H',rfl,I',⟨m,hns⟩,fC,q⟩
 obtain ⟨f0,f1,f2,f3,f4,f5⟩:=fC
 exact ⟨m,hns,λh' hs'=>⟨.ref p,H',I'.turned (t':=s'.toks) (λb o hb e=>(hs'.2 b hb).trans e) f0 f1 f3 f4 f5,rfl,q⟩⟩
theorem zFs {spos:Pos} (hN:X.N.Nodup) (hi':X.N[i]? = some x) (hxl:X.env.scope.names.lookup x = some .local) (hx:X.xe = λ_ _=>False) (hc:X.calm = true) (ho:zJ3 X.env.scope X.N scope ix = true) (hi:PI X tg iter wi)
  (hg:∀ C s H fp,PG (cxIn X scope own ix C s H fp) tg g) (hif:∀ C s H fp,PIfs (cxIn X scope own ix C s H fp) ifs tc) (he:∀ C s H fp,PE (cxIn X scope own ix C s H fp) elt te)
  (hsw:swapsWith (.ListComp elt [⟨tg,iter,ifs,0⟩] scope pos) (some (.Name x pos')) spos.line X.env = pure true:=by rfl)
  (hs:∀ x,foldedSetIterable iter X.env x = pure x:=by intro _; rfl):PS X (.Assign [.Name x pos'] (.ListComp elt [⟨tg,iter,ifs,0⟩] scope pos) spos) (tAsg (zOu own.length ix wi g tc te) (zAd i)):=by
 intro pins s σ H D I h
 have sc:=zHn ho
 rw [exec_Assign_Name_used _ _ _ _ hsw]
 refine wpAny_bind (wpAny_standAt (wpAny_bind ?_))
 show wpAny _ X.A (do let _ <- comprehension (.ListComp elt [⟨tg,iter,ifs,0⟩] scope pos) scope X.env _ (newList []) false (eval iter X.env) (some (assign (.Name x pos') X.env))) _ _ s
 refine wpAny_bind (wpAny_mono (wpAny_comprehension_free (use:=some (assign (.Name x pos') X.env)) (Q:=λ_ s'=>SP X pins D .next s') rfl hs (zB5 (zCs I sc)) sc.kind sc.nm
  (thn (hi pins s σ H _ I h) λv s1 h1=>thn h1 λitv s2 h2=>?_)) (λ_ s' hq=>wpAny_pure (wpAny_pure hq)) λ_ _ e=>e)
 obtain ⟨it,fp,tn,J,H2,e,I2,T,st2,f2,rd⟩:=h2
 subst e
 refine zE2 (RR:=λacc C=>compPost (model X.prog X.w) X.A X.xe (some (assign (.Name x pos') X.env)) (λ_ s'=>SP X pins D .next s') acc C) hx hc sc I2 T st2 f2 hg hif he rd ?_
 rintro acc C s' ⟨p,H',rfl,I',⟨m,hns⟩,fC,q⟩
 obtain ⟨f0,f1,f2,f3,f4,f5⟩:=fC
 show wpAny _ X.A (assign (.Name x pos') X.env (.ref p)) _ _ _
 refine wpAny_assign_Name (zGl (v:=.ref p) I' hN hi' (.inl hxl) rfl (λs'' I'' ⟨a,hsa,ha⟩=>?_) (.inr hxl))
 have haC:C ≠ a:=by
  rcases ha with ha | ha
  ·rw [ha]; exact f1
  ·exact (f4 x a ha).symm
 exact ⟨m,hns.sameBut hsa haC,λh' hs'=>⟨_,H',I''.turned (t':=s''.toks) (λb o hb e=>(hs'.2 b hb).trans e) f0 f1 f3 f4 f5,q⟩⟩
end
section
variable {n:Nat} {ix:List Nat} {g:TG} {tc:TT} {te:TE} {σ:St} {Q:VK} {H:Hp}
theorem zHm {K:PySem.W.Frag} {a:Addr} {xs:List V} (Pv:Nat->List V->St->Hp->Prop) (h0:Pv 0 [] (σIn σ n ix) H) (hl:∀ i ys σ H,i <= xs.length->Pv i ys σ H->SqL K H a xs /\ ys.length <= i) (hz:xs.length < sizeLine)
  (hs:∀ i x ys σ H,xs[i]? = some x->Pv i ys σ H->g x σ H λσ4 H4=>tc σ4 H4 λb H5=>if b = true then te σ4 H5 λy H6=>Pv (i + 1) (ys ++ [y]) σ4 H6 else Pv (i + 1) ys σ4 H5)
  (hd:∀ ys σ H,Pv xs.length ys σ H->∀ p,H p = none->Q (.ref p) (upd H p (.lst ys))):rComp n ix g tc te σ Q (Itl K a) H:=by
 refine ⟨λi m ys σ H=>m = xs.length - i /\ i <= xs.length /\ Pv i ys σ H,⟨xs.length,by simp,Nat.zero_le _,h0⟩,?_⟩
 rintro i m ys σ H ⟨rfl,hi,p⟩
 obtain ⟨q,hy⟩:=hl i ys σ H hi p
 by_cases hlt:i < xs.length
 ·refine .inr ⟨⟨xs,xs[i],q,by simp [hlt]⟩,by omega,Pv (i + 1),λys' σ' H' p'=>⟨xs.length - (i + 1),by omega,rfl,hlt,p'⟩,λx H' y=>?_⟩
  obtain ⟨e,y⟩:=y
  subst e
  exact hs i x ys σ _ (y xs q) p
 ·have e:i = xs.length:=by omega
  subst e
  exact .inl ⟨⟨xs,q,Nat.le_refl _⟩,by omega,hd ys σ H p⟩
end
def Ite (K:PySem.W.Frag) (a:Addr):It :=
 ⟨λi H=>∃ xs x,SqL K H a xs /\ xs[i]? = some x,λi H v H'=>∃ t x,v = .ref t /\ H t = none /\ H' = upd H t (.tup [.int i,x]) /\ ∀ xs,SqL K H a xs->xs[i]? = some x,λi H=>∃ xs,SqL K H a xs /\ xs.length <= i⟩
theorem zLr {P:Program} {w:World} {K:PySem.W.Frag} {elts:List Expr} {k:Nat} {tp:Pos} (a e it:Addr) (hne:e ≠ it) :
  Turn P w K (.Tuple elts k tp) (Ite K a) [e,it] e (λi h=>(∃ old,IsEnum h e it ((i:Nat):Int) old) /\ h.IsListIter it a i) where
 mem:=by simp
 obj:=λi h st b hb=>by
  obtain ⟨⟨old,he⟩,o,ho,c,d⟩:=st
  have hb':b = e \/ b = it:=by simpa using hb
  rcases hb' with rfl | rfl
  ·exact ⟨_,he,λv z=>by
    have z':Data.fields _ = Data.cell v:=z
    cases z'⟩
  ·exact ⟨o,ho,λv z=>by rw [d] at z; cases z⟩
 keep:=λi h h' st k=>⟨let ⟨old,he⟩:=st.1; ⟨old,k e (by simp) _ he⟩,st.2.at λo q=>k it (by simp) o q⟩
 item:=by
  intro X hP hw hK hc i pins s σ H E I hf st hg
  subst hP hw hK
  obtain ⟨xs,x,hq,hx⟩:=hg
  obtain ⟨its,rv,p,hz⟩:=I.list hq
  obtain ⟨u,hu,ru⟩:=rv.get hx
  obtain ⟨⟨old,he⟩,hit⟩:=st
  obtain ⟨f0,f1,f2,f3,f4,f5⟩:=hf e (by simp)
  obtain ⟨g0,g1,g2,g3,g4,g5⟩:=hf it (by simp)
  refine wpAny_pyNext_enum_item he hit p.isList (x:=u) (by simpa using hu) hne λh₁ heo hit₁ ht₁ hz₁ hk₁=>?_
  refine ⟨_,rfl,wpAny_letOwnedTupleGo_enum (s:={ s with heap:=h₁,toks:=s.toks + 1 }) heo λh₂ he₂ hs₂=>?_⟩
  replace hs₂:SameBut e h₁ h₂:=hs₂
  have hel:e < s.heap.objs.size:=lt_size he
  have nT:H s.heap.objs.size = none:=I.hok.fresh (Nat.le_refl _)
  have ht₂:h₂.get? s.heap.objs.size = some { cls:=.type "tuple",data:=.seq #[.int i s.toks,u] }:=(hs₂.2 _ (Nat.ne_of_gt hel)).trans ht₁
  have kk:∀ b o,b ≠ e->b ≠ it->s.heap.get? b = some o->h₂.get? b = some o:=λb o h1 h2 q=>(hs₂.2 b h1).trans (hk₁ b o h1 h2 q)
  have lt:∀ b o,s.heap.get? b = some o->b ≠ s.heap.objs.size:=λb o q=>Nat.ne_of_lt (lt_size q)
  have there:∀ b o,s.heap.get? b = some o->b ∉ [e,it]->∃ o',h₂.get? b = some o':=λb o q hx=>⟨o,kk b o (λz=>hx (by simp [z])) (λz=>hx (by simp [z])) q⟩
  have U:Un (frs X.stack) [e,it] H (upd H s.heap.objs.size (.tup [.int i,x])) s.heap h₂ :=
   ⟨λb o q _ _ hx=>kk b o (λz=>hx (by simp [z])) (λz=>hx (by simp [z])) q,λb o q _ _ hx=>⟨o.slots,kk b o (λz=>hx (by simp [z])) (λz=>hx (by simp [z])) q⟩,
    λb o q n _=>by rw [zO (lt b o q)]; exact n,there,λb ys q=>by rw [zO (zS q nT)]; exact q,λb o ys q=>by rw [zO (zS q nT)]; exact q,λb ps q=>⟨#[],by rw [zO (zS q nT),q]; simp⟩⟩
  have ok:HOk X.prog X.w (upd H s.heap.objs.size (.tup [.int i,x])) h₂:=λb o q=>by
   by_cases hb:b = s.heap.objs.size
   ·subst hb
    rw [zR] at q
    cases q
    exact ⟨by show 2 <= sizeLine; decide,[.int i s.toks,u],.cons ⟨_,rfl⟩ (.cons ru .nil),⟨_,ht₂,rfl,_,rfl⟩⟩
   ·rw [zO hb] at q
    refine (I.hok b o q).stay (λc v hc' z=>?_) (λc z=>by rw [zO (zS z nT)]; exact z) λc ys z=>by rw [zO (zS z nT)]; exact z
    have hcs:∃ o',H c = some o':=by
     rcases hc' with rfl | hc'
     ·exact ⟨o,q⟩
     ·exact ⟨_,hc'⟩
    obtain ⟨o',ho'⟩:=hcs
    exact kk c v (zS ho' f0) (zS ho' g0) z
  have I2:=I.call (h':=h₂) (g':=s.gens) (t':=s.toks + 1) (d':=s.drawn) (ch:=[e,it]) U ok I.bare λb hb=>by
   have hb':b = e \/ b = it:=by simpa using hb
   rcases hb' with rfl | rfl
   ·exact ⟨f3,f1,f4,f5⟩
   ·exact ⟨g3,g1,g4,g5⟩
  refine ⟨.ref s.heap.objs.size,_,I2,rfl,⟨s.heap.objs.size,x,rfl,nT,rfl,λys hy=>by rw [I.list_inj hy hq]; exact hx⟩,⟨⟨_,by rw [show ((i + 1:Nat):Int) = (i:Int) + 1 by push_cast; rfl]; exact he₂⟩,hit₁.extBut hs₂.extBut hne.symm⟩,λb hb=>?_⟩
  have hb':b = e \/ b = it:=by simpa using hb
  obtain ⟨o2,ho2,_⟩:=hit
  rcases hb' with rfl | rfl
  ·rw [zO (Nat.ne_of_lt hel)]; exact f0
  ·rw [zO (Nat.ne_of_lt (lt_size ho2))]; exact g0
 done:=by
  intro X hP hw hK hc i pins s σ H E I hf st hg
  subst hP hw hK
  obtain ⟨xs,hq,hx⟩:=hg
  obtain ⟨its,rv,p,hz⟩:=I.list hq
  obtain ⟨⟨old,he⟩,hit⟩:=st
  obtain ⟨g0,g1,g2,g3,g4,g5⟩:=hf it (by simp)
  have hl:=rv.length
  exact wpAny_pyNext_enum_end (I.ok.hd hc) he hit p.isList (by simp; omega) λh' eb=>⟨rfl,I.turned (t':=s.toks) (λb o hb e=>eb b o hb e) g0 g1 g3 g4 g5⟩
 self:=λ_ _ _ _ _ st h=>let ⟨⟨_,he⟩,_⟩:=st; wpAny_pyIter_enum he h
def iEnum (K:PySem.W.Frag) (ta:TA):TI:=λσ H R=>ta σ H λvs H1=>∃ a,vs = [.ref a] /\ (∃ xs,SqL K H1 a xs) /\ R (Ite K a) H1
theorem boot_enumerate':bootBuiltins "enumerate" = some (.type "enumerate"):=by decide +kernel
theorem zMl (hg:Gl X "enumerate") (hm:X.mg "enumerate" = none) (ha:PA X [a] ta) (hs:starEach [a] X.env = [(false,eval a X.env)]:=by rfl) :
  PI X (.Tuple elts k tp) (.Call (.Name "enumerate" p) [a] [] pos) (iEnum X.K ta):=by
 intro pins s σ H R I h
 refine Call_ (zB0 I hg hm boot_enumerate' (PyProof.Rows.callWith_type1 (thn (ha pos pins s σ H _ I h) λus s1 ⟨vs,H1,I1,r1,q1⟩=>?_) hs rfl))
 obtain ⟨l,e,⟨xs,hq⟩,q⟩:=q1
 subst e
 cases r1 with
 | cons r rr =>
  cases rr
  cases r
  obtain ⟨its,rv,p,hz⟩:=I1.list hq
  refine call_enumerate_list p.isList λh' hE hI hsz hk=>wpAny_pyIter_enum hE ?_
  have I2:Inv X pins σ H1 { s1 with heap:=h',toks:=s1.toks }:=I1.kept hk
  refine ⟨s1.heap.objs.size + 1,[s1.heap.objs.size + 1,s1.heap.objs.size],_,_,H1,rfl,I2,zLr l _ _ (Nat.succ_ne_self _),⟨⟨.none,hE⟩,hI⟩,λb hb=>?_,q⟩
  have hb':b = s1.heap.objs.size + 1 \/ b = s1.heap.objs.size:=by simpa using hb
  rcases hb' with rfl | rfl
  ·exact I1.fpOk (Nat.le_succ _) (I1.hok.fresh (Nat.le_succ _))
  ·exact I1.fpOk (Nat.le_refl _) (I1.hok.fresh (Nat.le_refl _))
theorem zP3 {K:PySem.W.Frag} {a:Addr} {xs:List V} {g:TG} {tb:TS} {D:Ends} {σ:St} {H:Hp} (Pv:Nat->St->Hp->Prop) (h0:Pv 0 σ H) (hl:∀ i σ H,i <= xs.length->Pv i σ H->SqL K H a xs)
  (hs:∀ i x t σ H,xs[i]? = some x->H t = none->Pv i σ H->g (.ref t) σ (upd H t (.tup [.int i,x])) λσ2 H2=>tb { D with nx:=Pv (i + 1),ct:=Pv (i + 1),bk:=D.nx } σ2 H2) (hd:∀ σ H,Pv xs.length σ H->D.nx σ H) :
  ∃ W:Nat->Nat->St->Hp->Prop,(∃ m,W 0 m σ H) /\ ∀ i m σ H,W i m σ H ->
   ((Ite K a).stop i H /\ D.nx σ H) \/ ((Ite K a).go i H /\ ∃ N:St->Hp->Prop,(∀ σ' H',N σ' H'->∃ m',m' < m /\ W (i + 1) m' σ' H') /\ ∀ x H',(Ite K a).yld i H x H'->g x σ H' λσ2 H2=>tb { D with nx:=N,ct:=N,bk:=D.nx } σ2 H2):=by
 refine ⟨λi m σ H=>m = xs.length - i /\ i <= xs.length /\ Pv i σ H,⟨xs.length,by simp,Nat.zero_le _,h0⟩,?_⟩
 rintro i m σ H ⟨rfl,hi,p⟩
 have q:=hl i σ H hi p
 by_cases hlt:i < xs.length
 ·refine .inr ⟨⟨xs,xs[i],q,by simp [hlt]⟩,Pv (i + 1),λσ' H' p'=>⟨xs.length - (i + 1),by omega,rfl,hlt,p'⟩,λx H' y=>?_⟩
  obtain ⟨t,x',rfl,ht,rfl,y⟩:=y
  exact hs i x' t σ H (y xs q) ht p
 ·have e:i = xs.length:=by omega
  subst e
  exact .inl ⟨⟨xs,q,Nat.le_refl _⟩,hd σ H p⟩
def tFs (a:Str) (te:TE):TE:=λσ H Q=>te σ H λx H1=>(∃ i,x = .int i /\ i.natAbs.log2 < 1920 /\ Q (.str (a ++ Str.ofString (toString i))) H1) \/ ∃ z,x = .str z /\ z.length <= 1000 /\ Q (.str (a ++ z)) H1
theorem zDe (x y:Str):(x ++ y).length = x.length + y.length:=by rw [<- strLen_append]
theorem pe_fs {a:Str} (he:PE X e te) (hl:a.length <= 1000):PE X (.JoinedStr [.Constant (.str a) j p1,.FormattedValue e (-1) none p2] pos) (tFs a te):=by
 intro pins s σ H Q I h
 refine JoinedStr_many (joinParts_cons (Calls.Constant_str ?_))
 have e0:(Str.empty ++ a) = a:=by
  cases a with
  | mk c=>show Str.mk _ = _; simp [Str.empty]
 refine ⟨by rw [e0]; exact Nat.le_trans hl (by decide),?_⟩
 rw [e0]
 have I0:=I.tok (s.toks + 1)
 refine joinParts_cons (FormattedValue_plain (thn (he pins _ σ H _ I0 h) λu s1 ⟨x,H1,I1,r1,q1⟩=>?_))
 rcases q1 with ⟨i,rfl,hd,q⟩ | ⟨z,rfl,hz,q⟩
 ·obtain ⟨t,rfl⟩:=r1
  refine formatField_int_small hd ?_
  have len:(a ++ Str.ofString (toString i)).length <= sizeLine:=by
   have:=int_text_len_1921 hd
   rw [zDe]
   exact Nat.le_trans (show a.length + (Str.ofString (toString i)).length <= 4000 by omega) (by decide)
  refine ⟨len,joinParts_nil ?_ len⟩
  exact ⟨.str (a ++ Str.ofString (toString i)),H1,(I1.tok (s1.toks + 1 + 1)).tok _,⟨_,rfl⟩,q⟩
 ·obtain ⟨t,rfl⟩:=r1
  have len:(a ++ z).length <= sizeLine:=by
   rw [zDe]
   exact Nat.le_trans (show a.length + z.length <= 4000 by omega) (by decide)
  refine formatField_str (λt' tk=>?_) (Nat.le_trans hz (by decide))
  refine ⟨len,joinParts_nil ?_ len⟩
  exact ⟨.str (a ++ z),H1,(I1.tok tk).tok _,⟨_,rfl⟩,q⟩
def rIsi (K:PySem.W.Frag) (c:Value):List V->Hp->VK->Prop:=λxs H Q=>∃ x y t b,xs = [x,y] /\ RelV y c /\ TyOf K H x t /\ kitOne K t c = some b /\ Q (.bl b) H
theorem zQe (hc:∀ y u,RelV y c->RelV y u->u = c):zBu X (.builtin "isinstance") (rIsi X.K c):=by
 intro pins s σ H xs us Q I r h
 obtain ⟨x,y,t,b,rfl,ry,ty,e,q⟩:=h
 obtain ⟨u,v,rfl,ru,rv⟩:=r.two
 obtain rfl:=hc y v ry rv
 exact zNi I ru ty e λtk=>⟨.bl b,H,I.tok tk,rfl,q⟩
theorem zAr:∀ y u,RelV y (.type n)->RelV y u->u = .type n:=λy u h1 h2=>by
 cases y <;> first
  | (cases h1; done)
  | (obtain ⟨_,e⟩:=h1; cases e; done)
  | (cases h1; cases h2; rfl)
theorem zPo {σ:St} {A B:St->Hp->Prop} (h:A (σ.set i (some x)) H):zAd i x σ H (λσ4 H4=>tIf0 σ4 H4 λb H5=>if b = true then A σ4 H5 else B σ4 H5):=by
 show if true = true then A (σ.set i (some x)) H else B (σ.set i (some x)) H
 rw [if_pos rfl]
 exact h
theorem zCe {X:Cx} {K:PySem.W.Frag} (h:X.K = K) {es:List Expr} {k:Nat} {t:TGs} {n:Nat} {pos:Pos} (hc:X.calm = true) (ht:PGs X es t)
  (hn:(assignEach es X.env).length = n:=by rfl) (hst:(assignEach es X.env).findIdx? (·.1) = none:=by rfl):PG X (.Tuple es k pos) (gTup K n t):=by
 subst h
 exact zAt hc ht hn hst
end L2
namespace Ts
open PySem L2
theorem same_new (h:H p = none) (o:HO):Same H (upd H p o):=λb u q=>by rw [zO (zS q h)]; exact q
theorem _root_.L2.Same.put (s:Same H H') (h:H p = none) (o:HO):Same H (upd H' p o):=λb u q=>by rw [zO (zS q h)]; exact s b u q
def A2 {α β:Type} (R:α->β->Prop):List α->List β->Prop
 | [],[]=>True
 | x :: xs,y :: ys=>R x y /\ A2 R xs ys
 | _,_=>False
section
variable {α β:Type} {R R':α->β->Prop}
theorem A2.len:∀ {xs:List α} {ys:List β},A2 R xs ys->xs.length = ys.length
 | [],[],_=>rfl
 | _ :: _,_ :: _,h=>congrArg (· + 1) (A2.len h.2)
 | [],_ :: _,h=>h.elim
 | _ :: _,[],h=>h.elim
theorem A2.imp (f:∀ x y,R x y->R' x y):∀ {xs:List α} {ys:List β},A2 R xs ys->A2 R' xs ys
 | [],[],_=>trivial
 | _ :: _,_ :: _,h=>⟨f _ _ h.1,A2.imp f h.2⟩
 | [],_ :: _,h=>h.elim
 | _ :: _,[],h=>h.elim
theorem A2.app:∀ {xs:List α} {ys:List β} {xs':List α} {ys':List β},A2 R xs ys->A2 R xs' ys'->A2 R (xs ++ xs') (ys ++ ys')
 | [],[],_,_,_,h=>h
 | _ :: _,_ :: _,_,_,h,h'=>⟨h.1,A2.app h.2 h'⟩
 | [],_ :: _,_,_,h,_=>h.elim
 | _ :: _,[],_,_,h,_=>h.elim
theorem A2.snoc (h:A2 R xs ys) (r:R x y):A2 R (xs ++ [x]) (ys ++ [y]):=h.app ⟨r,trivial⟩
theorem A2.at1:∀ {xs:List α} {ys:List β} {i:Nat} {x:α},A2 R xs ys->xs[i]? = some x->∃ y,ys[i]? = some y /\ R x y
 | [],_,_,_,_,e=>by simp at e
 | _ :: _,_ :: _,0,_,h,e=>by simp at e; subst e; exact ⟨_,rfl,h.1⟩
 | _ :: _,_ :: _,i + 1,_,h,e=>by
  obtain ⟨y,h1,h2⟩:=A2.at1 (i:=i) h.2 (by simpa using e)
  exact ⟨y,by simpa using h1,h2⟩
 | _ :: _,[],_,_,h,_=>h.elim
theorem A2.at2:∀ {xs:List α} {ys:List β} {i:Nat} {y:β},A2 R xs ys->ys[i]? = some y->∃ x,xs[i]? = some x /\ R x y
 | _,[],_,_,_,e=>by simp at e
 | _ :: _,_ :: _,0,_,h,e=>by simp at e; subst e; exact ⟨_,rfl,h.1⟩
 | _ :: _,_ :: _,i + 1,_,h,e=>by
  obtain ⟨y,h1,h2⟩:=A2.at2 (i:=i) h.2 (by simpa using e)
  exact ⟨y,by simpa using h1,h2⟩
 | [],_ :: _,_,_,h,_=>h.elim
theorem A2.set (r:R x y):∀ {xs:List α} {ys:List β} (i:Nat),A2 R xs ys->A2 R (xs.set i x) (ys.set i y)
 | [],[],_,_=>trivial
 | _ :: _,_ :: _,0,h=>⟨r,h.2⟩
 | _ :: _,_ :: _,i + 1,h=>⟨h.1,A2.set r i h.2⟩
 | [],_ :: _,_,h=>h.elim
 | _ :: _,[],_,h=>h.elim
theorem A2.rev:∀ {xs:List α} {ys:List β},A2 R xs ys->A2 R xs.reverse ys.reverse
 | [],[],_=>trivial
 | _ :: _,_ :: _,h=>by
  rw [reverse_cons,reverse_cons]
  exact (A2.rev h.2).snoc h.1
 | [],_ :: _,h=>h.elim
 | _ :: _,[],h=>h.elim
theorem A2.tk:∀ {xs:List α} {ys:List β} (i:Nat),A2 R xs ys->A2 R (xs.take i) (ys.take i)
 | [],[],_,_=>by simp [A2]
 | _ :: _,_ :: _,0,h=>trivial
 | _ :: _,_ :: _,i + 1,h=>⟨h.1,A2.tk i h.2⟩
 | [],_ :: _,_,h=>h.elim
 | _ :: _,[],_,h=>h.elim
theorem A2.dr:∀ {xs:List α} {ys:List β} (i:Nat),A2 R xs ys->A2 R (xs.drop i) (ys.drop i)
 | [],[],_,_=>by simp [A2]
 | _ :: _,_ :: _,0,h=>h
 | _ :: _,_ :: _,i + 1,h=>A2.dr i h.2
 | [],_ :: _,_,h=>h.elim
 | _ :: _,[],_,h=>h.elim
theorem A2.of_map {f:β->α} (h:∀ y,R (f y) y):∀ ys:List β,A2 R (ys.map f) ys
 | []=>trivial
 | y :: ys=>⟨h y,A2.of_map h ys⟩
end
theorem A2.eq_map {α β:Type} {f:β->α}:∀ {xs:List α} {ys:List β},A2 (λx y=>x = f y) xs ys->xs = ys.map f
 | [],[],_=>rfl
 | _ :: _,_ :: _,h=>by rw [map_cons,h.1,A2.eq_map h.2]
 | [],_ :: _,h=>h.elim
 | _ :: _,[],h=>h.elim
class Rp (K:PySem.W.Frag) (α:Type) where
 rp:Hp->V->α->Prop
 mono:∀ {F F':Hp} {v:V} {a:α},Same F F'->rp F v a->rp F' v a
abbrev rp (K:PySem.W.Frag) {α:Type} [Rp K α]:Hp->V->α->Prop:=Rp.rp (K:=K)
class Nn (K:PySem.W.Frag) (α:Type) [Rp K α]:Prop where
 nn:∀ {F:Hp} {v:V} {a:α},rp K F v a->v ≠ .non
class Sc (K:PySem.W.Frag) (α:Type) [Rp K α] where
 val:α->V
 is:∀ {F:Hp} {v:V} {a:α},rp K F v a ↔ v = val a
 inj:∀ {a b:α},val a = val b->a = b
section
variable {K:PySem.W.Frag}
instance:Rp K Int:=⟨λ_ v n=>v = .int n,λ_ h=>h⟩
instance:Rp K Bool:=⟨λ_ v n=>v = .bl n,λ_ h=>h⟩
instance:Rp K Str:=⟨λ_ v n=>v = .str n,λ_ h=>h⟩
instance:Rp K Unit:=⟨λ_ v _=>v = .non,λ_ h=>h⟩
instance {α:Type} [Rp K α]:Rp K (Option α):=⟨λF v a=>match a with
 | none=>v = .non
 | some x=>v ≠ .non /\ rp K F v x,λ{F F' v a} s h=>match a,h with
 | none,h=>h
 | some x,h=>⟨h.1,Rp.mono s h.2⟩⟩
instance {α:Type} [Rp K α]:Rp K (List α):=⟨λF v xs=>∃ p vs,v = .ref p /\ F p = some (.lst vs) /\ A2 (rp K F) vs xs,λs ⟨p,vs,h1,h2,h3⟩=>⟨p,vs,h1,s _ _ h2,h3.imp λ_ _=>Rp.mono s⟩⟩
instance {α β:Type} [Rp K α] [Rp K β]:Rp K (α × β):=⟨λF v x=>∃ p a b,v = .ref p /\ F p = some (.tup [a,b]) /\ rp K F a x.1 /\ rp K F b x.2,λs ⟨p,a,b,h1,h2,h3,h4⟩=>⟨p,a,b,h1,s _ _ h2,Rp.mono s h3,Rp.mono s h4⟩⟩
structure Scr where
 ns:LI
instance:Rp K Scr:=⟨λF v x=>∃ p,v = .ref p /\ SqL K F p (x.ns.map V.int),λs ⟨p,h1,h2⟩=>⟨p,h1,s.seq h2⟩⟩
instance:Nn K Int:=⟨λh=>by cases h; intro e; cases e⟩
instance:Nn K Bool:=⟨λh=>by cases h; intro e; cases e⟩
instance:Nn K Str:=⟨λh=>by cases h; intro e; cases e⟩
instance {α:Type} [Rp K α]:Nn K (List α):=⟨λ⟨_,_,h,_⟩=>by rw [h]; intro e; cases e⟩
instance {α β:Type} [Rp K α] [Rp K β]:Nn K (α × β):=⟨λ⟨_,_,_,h,_⟩=>by rw [h]; intro e; cases e⟩
instance:Sc K Int:=⟨V.int,Iff.rfl,λh=>by cases h; rfl⟩
instance:Sc K Bool:=⟨V.bl,Iff.rfl,λh=>by cases h; rfl⟩
instance:Sc K Str:=⟨V.str,Iff.rfl,λh=>by cases h; rfl⟩
instance {α:Type} [Rp K α] [Sc K α] [Nn K α]:Sc K (Option α):=⟨λa=>match a with
 | none=>.non
 | some x=>Sc.val K x,λ{F v a}=>match a with
 | none=>Iff.rfl
 | some x=>⟨λh=>Sc.is.mp h.2,λh=>⟨Nn.nn (K:=K) (F:=F) (a:=x) (Sc.is.mpr h),Sc.is.mpr h⟩⟩,λ{a b} h=>match a,b,h with
 | none,none,_=>rfl
 | some x,some y,h=>by rw [Sc.inj (K:=K) (a:=x) (b:=y) h]
 | none,some y,h=>absurd h.symm (Nn.nn (K:=K) (F:=λ_=>none) (a:=y) (Sc.is.mpr rfl))
 | some x,none,h=>absurd h (Nn.nn (K:=K) (F:=λ_=>none) (a:=x) (Sc.is.mpr rfl))⟩
theorem zPb {α:Type} [Rp K α] [Sc K α] {a:α} (h:rp K F v a):rp K F' v a:=Sc.is.mpr (Sc.is.mp h)
inductive Md | nw | fz | hp
def dif (H H0:Hp):Hp:=λb=>match H0 b with
 | none=>H b
 | some _=>none
def ext (Fa H0 H:Hp):Hp:=λb=>match H0 b with
 | none=>H b
 | some _=>Fa b
structure Bs where
 Fa:Hp
 H0:Hp
abbrev Own:=List (Addr × HO)
class Ob (K:PySem.W.Frag) (α:Type) where
 β:Type
 rpβ:Rp K β
 ro:Hp->V->α->Own->Prop
 mono:∀ {F F':Hp} {v:V} {a:α} {O:Own},Same F F'->ro F v a O->ro F' v a O
 val:α->β
 frz:∀ {F:Hp} {v:V} {a:α} {O:Own},ro F v a O->(∀ x ∈ O,F x.1 = some x.2)->Rp.rp (K:=K) F v (val a)
def reg (B:Bs) (F H:Hp):Md->Hp
 | .nw=>dif F B.H0
 | .fz=>F
 | .hp=>H
theorem dif_le:Same (dif H H0) H:=λb o h=>by
 unfold dif at h
 cases e:H0 b with
 | none=>rw [e] at h; exact h
 | some u=>rw [e] at h; cases h
theorem xA (h:H0 b = none):dif H H0 b = H b:=by
 unfold dif
 rw [h]
theorem xG (s:Same H H'):Same (dif H H0) (dif H' H0):=λb o h=>by
 unfold dif at h ⊢
 cases e:H0 b with
 | none=>rw [e] at h; exact s b o h
 | some u=>rw [e] at h; cases h
structure Ok (B:Bs) (F:Hp) (O:Own) (H:Hp):Prop where
 fh:Same F H
 h0:Same B.H0 H
 fa:∀ b o,F b = some o->B.Fa b = some o \/ B.H0 b = none
 fo:∀ x ∈ O,F x.1 = none /\ B.H0 x.1 = none /\ H x.1 = some x.2
 nd:(O.map (·.1)).Nodup
structure Grow (B:Bs) (F H:Hp) (O:Own) (F' H':Hp):Prop where
 ff:Same F F'
 hh:Same H H'
 ok:Ok B F' O H'
 nw:∀ b,F b = none->H b ≠ none->F' b = none
section
variable {B:Bs} {F H F' H' F2 H2:Hp} {O:Own}
theorem Grow.refl (k:Ok B F O H):Grow B F H O F H:=⟨.refl _,.refl _,k,λ_ h _=>h⟩
theorem Grow.trans (a:Grow B F H O F' H') (b:Grow B F' H' O F2 H2):Grow B F H O F2 H2 :=
 ⟨a.ff.trans b.ff,a.hh.trans b.hh,b.ok,λq h1 h2=>b.nw q (a.nw q h1 h2) λe=>h2 (a.hh.free e)⟩
theorem Grow.new (k:Ok B F O H) (h:H p = none) (o:HO):Grow B F H O (upd F p o) (upd H p o):=by
 have fp:=k.fh.free h
 refine ⟨same_new fp o,same_new h o,⟨λb u e=>?_,k.h0.put (k.h0.free h) o,λb u e=>?_,λx hx=>?_,k.nd⟩,λb h1 h2=>?_⟩
 ·by_cases q:b = p
  ·subst q; rw [zR] at e ⊢; exact e
  ·rw [zO q] at e ⊢; exact k.fh b u e
 ·by_cases q:b = p
  ·subst q; exact .inr (k.h0.free h)
  ·rw [zO q] at e; exact k.fa b u e
 ·obtain ⟨a1,a2,a3⟩:=k.fo x hx
  have q:x.1 ≠ p:=zS a3 h
  exact ⟨by rw [zO q]; exact a1,a2,by rw [zO q]; exact a3⟩
 ·rw [zO λe=>h2 (by rw [e]; exact h)]; exact h1
theorem wA (g:Grow B F H O F' H') (md:Md):Same (reg B F H md) (reg B F' H' md):=match md with
 | .nw=>xG g.ff
 | .fz=>g.ff
 | .hp=>g.hh
end
inductive Slot (K:PySem.W.Frag):Type 1
 | un
 | fz (n:Bool) {α:Type} [Rp K α] (a:α)
 | hs {α:Type} [Rp K α] (a:α)
 | nu {α:Type} [Rp K α] (a:α)
 | ow (n:Bool) {α:Type} [Rp K α] (xs:List α)
 | od {α:Type} [Rp K α] (kvs:List (Key × α))
 | ob (n:Bool) {α:Type} [Ob K α] (a:α)
abbrev SL (K:PySem.W.Frag):=List (Slot K)
abbrev mdb:Bool->Md
 | true=>.nw
 | false=>.fz
def lo (F:Hp) (O:Own) (H:Hp):Hp:=λb=>if (F b).isSome || (O.any λx=>x.1 == b) then none else H b
inductive SlotsOk (B:Bs) (F L H:Hp):SL K->St->Own->Prop
 | nil:SlotsOk B F L H [] [] []
 | un {sl:SL K} {σ:St} {O:Own} {x:Option V}:SlotsOk B F L H sl σ O->SlotsOk B F L H (.un :: sl) (x :: σ) O
 | fz {n:Bool} {α:Type} [Rp K α] {a:α} {sl:SL K} {σ:St} {O:Own} {v:V}:rp K (reg B F H (mdb n)) v a->SlotsOk B F L H sl σ O->SlotsOk B F L H (.fz n a :: sl) (some v :: σ) O
 | hs {α:Type} [Rp K α] {a:α} {sl:SL K} {σ:St} {O:Own} {v:V}:rp K H v a->SlotsOk B F L H sl σ O->SlotsOk B F L H (.hs a :: sl) (some v :: σ) O
 | nu {α:Type} [Rp K α] {a:α} {sl:SL K} {σ:St} {O:Own} {v:V}:rp K (dif L B.H0) v a->SlotsOk B F L H sl σ O->SlotsOk B F L H (.nu a :: sl) (some v :: σ) O
 | ow {n:Bool} {α:Type} [Rp K α] {xs:List α} {sl:SL K} {σ:St} {O:Own} {p:Addr} {vs:List V}:A2 (rp K (reg B F H (mdb n))) vs xs->SlotsOk B F L H sl σ O->SlotsOk B F L H (.ow n xs :: sl) (some (.ref p) :: σ) ((p,.lst vs) :: O)
 | od {α:Type} [Rp K α] {kvs:List (Key × α)} {sl:SL K} {σ:St} {O:Own} {p:Addr} {ks:List (Key × V)}:A2 (λ(x:Key × V) (y:Key × α)=>x.1 = y.1 /\ rp K F x.2 y.2) ks kvs->SlotsOk B F L H sl σ O->SlotsOk B F L H (.od kvs :: sl) (some (.ref p) :: σ) ((p,.dK ks) :: O)
 | ob {n:Bool} {α:Type} [Ob K α] {a:α} {sl:SL K} {σ:St} {O Oc:Own} {v:V}:Ob.ro K (reg B F H (mdb n)) v a Oc->SlotsOk B F L H sl σ O->SlotsOk B F L H (.ob n a :: sl) (some v :: σ) (Oc ++ O)
def At (B:Bs) (sl:SL K) (F:Hp) (O:Own) (H:Hp) (σ:St):Prop:=Ok B F O H /\ SlotsOk B F (lo F O H) H sl σ O
abbrev isOw:Slot K->Bool
 | @Slot.ow _ _ _ _ _=>true
 | @Slot.od _ _ _ _=>true
 | @Slot.ob _ _ _ _ _=>true
 | _=>false
abbrev isHs:Slot K->Bool
 | @Slot.hs _ _ _ _=>true
 | _=>false
section
variable {B:Bs} {F H F' H' L L':Hp} {O O':Own} {sl:SL K} {σ:St}
theorem xJ (n:Bool) (hF:Same F F'):Same (reg B F H (mdb n)) (reg B F' H' (mdb n)):=match n with
 | true=>xG hF
 | false=>hF
theorem SlotsOk.mono (hF:Same F F') (hL:Same L L') (hH:Same H H') (h:SlotsOk B F L H sl σ O):SlotsOk B F' L' H' sl σ O:=by
 induction h with
 | nil=>exact .nil
 | un _ ih=>exact .un ih
 | fz r _ ih=>exact .fz (Rp.mono (xJ _ hF) r) ih
 | hs r _ ih=>exact .hs (Rp.mono hH r) ih
 | nu r _ ih=>exact .nu (Rp.mono (xG hL) r) ih
 | ow r _ ih=>exact .ow (r.imp λ_ _=>Rp.mono (xJ _ hF)) ih
 | od r _ ih=>exact .od (r.imp λ_ _ z=>⟨z.1,Rp.mono hF z.2⟩) ih
 | ob r _ ih=>exact .ob (Ob.mono (xJ _ hF) r) ih
theorem SlotsOk.mut (hL:Same L L') (h:SlotsOk B F L H sl σ O) (hn:sl.all (λs=>!isHs s) = true):SlotsOk B F L' H' sl σ O:=by
 induction h with
 | nil=>exact .nil
 | un _ ih=>exact .un (ih (by rw [all_cons,Bool.and_eq_true] at hn; exact hn.2))
 | fz r _ ih=>exact .fz (Rp.mono (xJ _ (.refl _)) r) (ih (by rw [all_cons,Bool.and_eq_true] at hn; exact hn.2))
 | hs r _ ih=>rw [all_cons,Bool.and_eq_true] at hn; exact absurd hn.1 (by simp)
 | nu r _ ih=>exact .nu (Rp.mono (xG hL) r) (ih (by rw [all_cons,Bool.and_eq_true] at hn; exact hn.2))
 | ow r _ ih=>exact .ow (r.imp λ_ _=>Rp.mono (xJ _ (.refl _))) (ih (by rw [all_cons,Bool.and_eq_true] at hn; exact hn.2))
 | od r _ ih=>exact .od r (ih (by rw [all_cons,Bool.and_eq_true] at hn; exact hn.2))
 | ob r _ ih=>exact .ob (Ob.mono (xJ _ (.refl _)) r) (ih (by rw [all_cons,Bool.and_eq_true] at hn; exact hn.2))
theorem zNa (g:Grow B F H O F' H'):Same (lo F O H) (lo F' O H'):=λb o h=>by
 unfold lo at h ⊢
 cases e:(F b).isSome || (O.any λx=>x.1 == b) with
 | true=>rw [e] at h; cases h
 | false =>
  rw [e] at h
  have hb:H b = some o:=h
  rw [Bool.or_eq_false_iff] at e
  have f':F' b = none:=g.nw b (by cases q:F b with | none=>rfl | some u=>rw [q] at e; cases e.1) (by rw [hb]; intro z; cases z)
  rw [f',e.2]
  exact g.hh b o hb
theorem At.grow (h:At B sl F O H σ) (g:Grow B F H O F' H'):At B sl F' O H' σ:=⟨g.ok,h.2.mono g.ff (zNa g) g.hh⟩
theorem SlotsOk.len (h:SlotsOk B F L H sl σ O):σ.length = sl.length:=by
 induction h with
 | nil=>rfl
 | un _ ih=>rw [length_cons,length_cons,ih]
 | fz _ _ ih=>rw [length_cons,length_cons,ih]
 | hs _ _ ih=>rw [length_cons,length_cons,ih]
 | nu _ _ ih=>rw [length_cons,length_cons,ih]
 | ow _ _ ih=>rw [length_cons,length_cons,ih]
 | od _ _ ih=>rw [length_cons,length_cons,ih]
 | ob _ _ ih=>rw [length_cons,length_cons,ih]
theorem SlotsOk.fz_at {α:Type} [Rp K α] {a:α} (h:SlotsOk B F L H sl σ O):∀ {i:Nat},sl[i]? = some (.fz n a)->∃ v,σ[i]? = some (some v) /\ rp K (reg B F H (mdb n)) v a:=by
 induction h with
 | nil=>intro i e; simp at e
 | fz r _ ih =>
  intro i e
  cases i with
  | zero=>simp only [getElem?_cons_zero] at e; cases e; exact ⟨_,rfl,r⟩
  | succ i=>exact ih (by simpa using e)
 | _ =>
  rename_i ih
  intro i e
  cases i with
  | zero=>simp only [getElem?_cons_zero] at e; cases e
  | succ i=>exact ih (by simpa using e)
theorem SlotsOk.hs_at {α:Type} [Rp K α] {a:α} (h:SlotsOk B F L H sl σ O):∀ {i:Nat},sl[i]? = some (.hs a)->∃ v,σ[i]? = some (some v) /\ rp K H v a:=by
 induction h with
 | nil=>intro i e; simp at e
 | hs r _ ih =>
  intro i e
  cases i with
  | zero=>simp only [getElem?_cons_zero] at e; cases e; exact ⟨_,rfl,r⟩
  | succ i=>exact ih (by simpa using e)
 | _ =>
  rename_i ih
  intro i e
  cases i with
  | zero=>simp only [getElem?_cons_zero] at e; cases e
  | succ i=>exact ih (by simpa using e)
theorem SlotsOk.nu_at {α:Type} [Rp K α] {a:α} (h:SlotsOk B F L H sl σ O):∀ {i:Nat},sl[i]? = some (.nu a)->∃ v,σ[i]? = some (some v) /\ rp K (dif L B.H0) v a:=by
 induction h with
 | nil=>intro i e; simp at e
 | nu r _ ih =>
  intro i e
  cases i with
  | zero=>simp only [getElem?_cons_zero] at e; cases e; exact ⟨_,rfl,r⟩
  | succ i=>exact ih (by simpa using e)
 | _ =>
  rename_i ih
  intro i e
  cases i with
  | zero=>simp only [getElem?_cons_zero] at e; cases e
  | succ i=>exact ih (by simpa using e)
theorem SlotsOk.put (h:SlotsOk B F L H sl σ O) (new:∀ (sl:SL K) (σ:St) (O:Own),SlotsOk B F L H sl σ O->SlotsOk B F L H (s' :: sl) (x :: σ) O):∀ {i:Nat},sl[i]? = some s->isOw s = false->SlotsOk B F L H (sl.set i s') (σ.set i x) O:=by
 induction h with
 | nil=>intro i e; simp at e
 | un g ih =>
  intro i e o
  cases i with
  | zero=>exact new _ _ _ g
  | succ i=>exact .un (ih (by simpa using e) o)
 | fz r g ih =>
  intro i e o
  cases i with
  | zero=>exact new _ _ _ g
  | succ i=>exact .fz r (ih (by simpa using e) o)
 | hs r g ih =>
  intro i e o
  cases i with
  | zero=>exact new _ _ _ g
  | succ i=>exact .hs r (ih (by simpa using e) o)
 | nu r g ih =>
  intro i e o
  cases i with
  | zero=>exact new _ _ _ g
  | succ i=>exact .nu r (ih (by simpa using e) o)
 | ow r g ih =>
  intro i e o
  cases i with
  | zero=>simp only [getElem?_cons_zero] at e; cases e; cases o
  | succ i=>exact .ow r (ih (by simpa using e) o)
 | od r g ih =>
  intro i e o
  cases i with
  | zero=>simp only [getElem?_cons_zero] at e; cases e; cases o
  | succ i=>exact .od r (ih (by simpa using e) o)
 | ob r g ih =>
  intro i e o
  cases i with
  | zero=>simp only [getElem?_cons_zero] at e; cases e; cases o
  | succ i=>exact .ob r (ih (by simpa using e) o)
theorem SlotsOk.own (h:SlotsOk B F L H sl σ O) (new:∀ (sl:SL K) (σ:St) (O:Own),SlotsOk B F L H sl σ O->SlotsOk B F L H (s' :: sl) (x :: σ) (c :: O)) :
  ∀ {i:Nat},sl[i]? = some s->isOw s = false->∃ O1 O2,O = O1 ++ O2 /\ SlotsOk B F L H (sl.set i s') (σ.set i x) (O1 ++ c :: O2):=by
 induction h with
 | nil=>intro i e; simp at e
 | un g ih =>
  intro i e o
  cases i with
  | zero=>exact ⟨[],_,rfl,new _ _ _ g⟩
  | succ i=>obtain ⟨O1,O2,q,z⟩:=ih (by simpa using e) o; exact ⟨O1,O2,q,.un z⟩
 | fz r g ih =>
  intro i e o
  cases i with
  | zero=>exact ⟨[],_,rfl,new _ _ _ g⟩
  | succ i=>obtain ⟨O1,O2,q,z⟩:=ih (by simpa using e) o; exact ⟨O1,O2,q,.fz r z⟩
 | hs r g ih =>
  intro i e o
  cases i with
  | zero=>exact ⟨[],_,rfl,new _ _ _ g⟩
  | succ i=>obtain ⟨O1,O2,q,z⟩:=ih (by simpa using e) o; exact ⟨O1,O2,q,.hs r z⟩
 | nu r g ih =>
  intro i e o
  cases i with
  | zero=>exact ⟨[],_,rfl,new _ _ _ g⟩
  | succ i=>obtain ⟨O1,O2,q,z⟩:=ih (by simpa using e) o; exact ⟨O1,O2,q,.nu r z⟩
 | ow r g ih =>
  intro i e o
  cases i with
  | zero=>simp only [getElem?_cons_zero] at e; cases e; cases o
  | succ i=>obtain ⟨O1,O2,q,z⟩:=ih (by simpa using e) o; exact ⟨_ :: O1,O2,by rw [q] <;> rfl,.ow r z⟩
 | od r g ih =>
  intro i e o
  cases i with
  | zero=>simp only [getElem?_cons_zero] at e; cases e; cases o
  | succ i=>obtain ⟨O1,O2,q,z⟩:=ih (by simpa using e) o; exact ⟨_ :: O1,O2,by rw [q] <;> rfl,.od r z⟩
 | @ob _ _ _ _ _ _ _ Oc _ r g ih =>
  intro i e o
  cases i with
  | zero=>simp only [getElem?_cons_zero] at e; cases e; cases o
  | succ i =>
   obtain ⟨O1,O2,q,z⟩:=ih (by simpa using e) o
   refine ⟨Oc ++ O1,O2,by rw [q,append_assoc],?_⟩
   rw [append_assoc]
   exact .ob r z
theorem SlotsOk.ow_at {α:Type} [Rp K α] {xs:List α} (h:SlotsOk B F L H sl σ O):∀ {i:Nat},sl[i]? = some (.ow n xs) ->
  ∃ O1 O2 p vs,O = O1 ++ (p,.lst vs) :: O2 /\ σ[i]? = some (some (.ref p)) /\ A2 (rp K (reg B F H (mdb n))) vs xs /\
   (∀ (s':Slot K) (x:Option V) (c:Addr × HO),(∀ (sl:SL K) (σ:St) (O:Own),SlotsOk B F L H sl σ O->SlotsOk B F L H (s' :: sl) (x :: σ) (c :: O))->SlotsOk B F L H (sl.set i s') (σ.set i x) (O1 ++ c :: O2)) /\
   (∀ (s':Slot K) (x:Option V),(∀ (sl:SL K) (σ:St) (O:Own),SlotsOk B F L H sl σ O->SlotsOk B F L H (s' :: sl) (x :: σ) O)->SlotsOk B F L H (sl.set i s') (σ.set i x) (O1 ++ O2)):=by
 induction h with
 | nil=>intro i e; simp at e
 | un g ih =>
  intro i e
  cases i with
  | zero=>simp only [getElem?_cons_zero] at e; cases e
  | succ i=>obtain ⟨O1,O2,p,vs,q,h1,h2,h3,h4⟩:=ih (by simpa using e); exact ⟨O1,O2,p,vs,q,h1,h2,λs' x c z=>.un (h3 s' x c z),λs' x z=>.un (h4 s' x z)⟩
 | fz r g ih =>
  intro i e
  cases i with
  | zero=>simp only [getElem?_cons_zero] at e; cases e
  | succ i=>obtain ⟨O1,O2,p,vs,q,h1,h2,h3,h4⟩:=ih (by simpa using e); exact ⟨O1,O2,p,vs,q,h1,h2,λs' x c z=>.fz r (h3 s' x c z),λs' x z=>.fz r (h4 s' x z)⟩
 | hs r g ih =>
  intro i e
  cases i with
  | zero=>simp only [getElem?_cons_zero] at e; cases e
  | succ i=>obtain ⟨O1,O2,p,vs,q,h1,h2,h3,h4⟩:=ih (by simpa using e); exact ⟨O1,O2,p,vs,q,h1,h2,λs' x c z=>.hs r (h3 s' x c z),λs' x z=>.hs r (h4 s' x z)⟩
 | nu r g ih =>
  intro i e
  cases i with
  | zero=>simp only [getElem?_cons_zero] at e; cases e
  | succ i=>obtain ⟨O1,O2,p,vs,q,h1,h2,h3,h4⟩:=ih (by simpa using e); exact ⟨O1,O2,p,vs,q,h1,h2,λs' x c z=>.nu r (h3 s' x c z),λs' x z=>.nu r (h4 s' x z)⟩
 | ow r g ih =>
  intro i e
  cases i with
  | zero=>simp only [getElem?_cons_zero] at e; cases e; exact ⟨[],_,_,_,rfl,rfl,r,λs' x c z=>z _ _ _ g,λs' x z=>z _ _ _ g⟩
  | succ i=>obtain ⟨O1,O2,p,vs,q,h1,h2,h3,h4⟩:=ih (by simpa using e); exact ⟨_ :: O1,O2,p,vs,by rw [q] <;> rfl,h1,h2,λs' x c z=>.ow r (h3 s' x c z),λs' x z=>.ow r (h4 s' x z)⟩
 | od r g ih =>
  intro i e
  cases i with
  | zero=>simp only [getElem?_cons_zero] at e; cases e
  | succ i=>obtain ⟨O1,O2,p,vs,q,h1,h2,h3,h4⟩:=ih (by simpa using e); exact ⟨_ :: O1,O2,p,vs,by rw [q] <;> rfl,h1,h2,λs' x c z=>.od r (h3 s' x c z),λs' x z=>.od r (h4 s' x z)⟩
 | @ob _ _ _ _ _ _ _ Oc _ r g ih =>
  intro i e
  cases i with
  | zero=>simp only [getElem?_cons_zero] at e; cases e
  | succ i =>
   obtain ⟨O1,O2,p,vs,q,h1,h2,h3,h4⟩:=ih (by simpa using e)
   refine ⟨Oc ++ O1,O2,p,vs,by rw [q,append_assoc],h1,h2,λs' x c z=>?_,λs' x z=>?_⟩
   ·rw [append_assoc]; exact .ob r (h3 s' x c z)
   ·rw [append_assoc]; exact .ob r (h4 s' x z)
theorem SlotsOk.od_at {α:Type} [Rp K α] {kvs:List (Key × α)} (h:SlotsOk B F L H sl σ O):∀ {i:Nat},sl[i]? = some (.od kvs) ->
  ∃ O1 O2 p ks,O = O1 ++ (p,.dK ks) :: O2 /\ σ[i]? = some (some (.ref p)) /\ A2 (λ(x:Key × V) (y:Key × α)=>x.1 = y.1 /\ rp K F x.2 y.2) ks kvs /\
   (∀ (s':Slot K) (x:Option V) (c:Addr × HO),(∀ (sl:SL K) (σ:St) (O:Own),SlotsOk B F L H sl σ O->SlotsOk B F L H (s' :: sl) (x :: σ) (c :: O))->SlotsOk B F L H (sl.set i s') (σ.set i x) (O1 ++ c :: O2)) /\
   (∀ (s':Slot K) (x:Option V),(∀ (sl:SL K) (σ:St) (O:Own),SlotsOk B F L H sl σ O->SlotsOk B F L H (s' :: sl) (x :: σ) O)->SlotsOk B F L H (sl.set i s') (σ.set i x) (O1 ++ O2)):=by
 induction h with
 | nil=>intro i e; simp at e
 | un g ih =>
  intro i e
  cases i with
  | zero=>simp only [getElem?_cons_zero] at e; cases e
  | succ i=>obtain ⟨O1,O2,p,vs,q,h1,h2,h3,h4⟩:=ih (by simpa using e); exact ⟨O1,O2,p,vs,q,h1,h2,λs' x c z=>.un (h3 s' x c z),λs' x z=>.un (h4 s' x z)⟩
 | fz r g ih =>
  intro i e
  cases i with
  | zero=>simp only [getElem?_cons_zero] at e; cases e
  | succ i=>obtain ⟨O1,O2,p,vs,q,h1,h2,h3,h4⟩:=ih (by simpa using e); exact ⟨O1,O2,p,vs,q,h1,h2,λs' x c z=>.fz r (h3 s' x c z),λs' x z=>.fz r (h4 s' x z)⟩
 | hs r g ih =>
  intro i e
  cases i with
  | zero=>simp only [getElem?_cons_zero] at e; cases e
  | succ i=>obtain ⟨O1,O2,p,vs,q,h1,h2,h3,h4⟩:=ih (by simpa using e); exact ⟨O1,O2,p,vs,q,h1,h2,λs' x c z=>.hs r (h3 s' x c z),λs' x z=>.hs r (h4 s' x z)⟩
 | nu r g ih =>
  intro i e
  cases i with
  | zero=>simp only [getElem?_cons_zero] at e; cases e
  | succ i=>obtain ⟨O1,O2,p,vs,q,h1,h2,h3,h4⟩:=ih (by simpa using e); exact ⟨O1,O2,p,vs,q,h1,h2,λs' x c z=>.nu r (h3 s' x c z),λs' x z=>.nu r (h4 s' x z)⟩
 | od r g ih =>
  intro i e
  cases i with
  | zero=>simp only [getElem?_cons_zero] at e; cases e; exact ⟨[],_,_,_,rfl,rfl,r,λs' x c z=>z _ _ _ g,λs' x z=>z _ _ _ g⟩
  | succ i=>obtain ⟨O1,O2,p,vs,q,h1,h2,h3,h4⟩:=ih (by simpa using e); exact ⟨_ :: O1,O2,p,vs,by rw [q] <;> rfl,h1,h2,λs' x c z=>.od r (h3 s' x c z),λs' x z=>.od r (h4 s' x z)⟩
 | ow r g ih =>
  intro i e
  cases i with
  | zero=>simp only [getElem?_cons_zero] at e; cases e
  | succ i=>obtain ⟨O1,O2,p,vs,q,h1,h2,h3,h4⟩:=ih (by simpa using e); exact ⟨_ :: O1,O2,p,vs,by rw [q] <;> rfl,h1,h2,λs' x c z=>.ow r (h3 s' x c z),λs' x z=>.ow r (h4 s' x z)⟩
 | @ob _ _ _ _ _ _ _ Oc _ r g ih =>
  intro i e
  cases i with
  | zero=>simp only [getElem?_cons_zero] at e; cases e
  | succ i =>
   obtain ⟨O1,O2,p,vs,q,h1,h2,h3,h4⟩:=ih (by simpa using e)
   refine ⟨Oc ++ O1,O2,p,vs,by rw [q,append_assoc],h1,h2,λs' x c z=>?_,λs' x z=>?_⟩
   ·rw [append_assoc]; exact .ob r (h3 s' x c z)
   ·rw [append_assoc]; exact .ob r (h4 s' x z)
theorem SlotsOk.ob_at {α:Type} [Ob K α] {a:α} (h:SlotsOk B F L H sl σ O):∀ {i:Nat},sl[i]? = some (.ob n a) ->
  ∃ O1 Oc O2 v,O = O1 ++ (Oc ++ O2) /\ σ[i]? = some (some v) /\ Ob.ro K (reg B F H (mdb n)) v a Oc /\
   (∀ (s':Slot K) (x:Option V) (c:Own),(∀ (sl:SL K) (σ:St) (O:Own),SlotsOk B F L H sl σ O->SlotsOk B F L H (s' :: sl) (x :: σ) (c ++ O))->SlotsOk B F L H (sl.set i s') (σ.set i x) (O1 ++ (c ++ O2))):=by
 induction h with
 | nil=>intro i e; simp at e
 | un g ih =>
  intro i e
  cases i with
  | zero=>simp only [getElem?_cons_zero] at e; cases e
  | succ i=>obtain ⟨O1,Oc,O2,v,q,h1,h2,h3⟩:=ih (by simpa using e); exact ⟨O1,Oc,O2,v,q,h1,h2,λs' x c z=>.un (h3 s' x c z)⟩
 | fz r g ih =>
  intro i e
  cases i with
  | zero=>simp only [getElem?_cons_zero] at e; cases e
  | succ i=>obtain ⟨O1,Oc,O2,v,q,h1,h2,h3⟩:=ih (by simpa using e); exact ⟨O1,Oc,O2,v,q,h1,h2,λs' x c z=>.fz r (h3 s' x c z)⟩
 | hs r g ih =>
  intro i e
  cases i with
  | zero=>simp only [getElem?_cons_zero] at e; cases e
  | succ i=>obtain ⟨O1,Oc,O2,v,q,h1,h2,h3⟩:=ih (by simpa using e); exact ⟨O1,Oc,O2,v,q,h1,h2,λs' x c z=>.hs r (h3 s' x c z)⟩
 | nu r g ih =>
  intro i e
  cases i with
  | zero=>simp only [getElem?_cons_zero] at e; cases e
  | succ i=>obtain ⟨O1,Oc,O2,v,q,h1,h2,h3⟩:=ih (by simpa using e); exact ⟨O1,Oc,O2,v,q,h1,h2,λs' x c z=>.nu r (h3 s' x c z)⟩
 | ow r g ih =>
  intro i e
  cases i with
  | zero=>simp only [getElem?_cons_zero] at e; cases e
  | succ i=>obtain ⟨O1,Oc,O2,v,q,h1,h2,h3⟩:=ih (by simpa using e); exact ⟨_ :: O1,Oc,O2,v,by rw [q] <;> rfl,h1,h2,λs' x c z=>.ow r (h3 s' x c z)⟩
 | od r g ih =>
  intro i e
  cases i with
  | zero=>simp only [getElem?_cons_zero] at e; cases e
  | succ i=>obtain ⟨O1,Oc,O2,v,q,h1,h2,h3⟩:=ih (by simpa using e); exact ⟨_ :: O1,Oc,O2,v,by rw [q] <;> rfl,h1,h2,λs' x c z=>.od r (h3 s' x c z)⟩
 | @ob _ _ _ _ _ _ _ Oc _ r g ih =>
  intro i e
  cases i with
  | zero=>simp only [getElem?_cons_zero] at e; cases e; exact ⟨[],Oc,_,_,rfl,rfl,r,λs' x c z=>z _ _ _ g⟩
  | succ i =>
   obtain ⟨O1,Oc',O2,v,q,h1,h2,h3⟩:=ih (by simpa using e)
   refine ⟨Oc ++ O1,Oc',O2,v,by rw [q,append_assoc],h1,h2,λs' x c z=>?_⟩
   rw [append_assoc]; exact .ob r (h3 s' x c z)
end
end
section
variable {K:PySem.W.Frag} {B:Bs} {F H F' H' L L':Hp} {O O' O1 O2:Own} {sl:SL K} {σ:St} {p:Addr} {o o':HO}
theorem zM1 {α:Type} {a b:List α} {x:α}:(a ++ x :: b).Nodup ↔ (a ++ b).Nodup /\ x ∉ a ++ b:=by
 have q:(a ++ x :: b).Perm (x :: (a ++ b)):=List.perm_middle
 rw [q.nodup_iff,nodup_cons]
 exact ⟨λh=>⟨h.2,h.1⟩,λh=>⟨h.2,h.1⟩⟩
theorem Ok.add (k:Ok B F (O1 ++ O2) H) (h:H p = none):Ok B F (O1 ++ (p,o) :: O2) (upd H p o):=by
 refine ⟨λb u e=>?_,k.h0.put (k.h0.free h) o,k.fa,λx hx=>?_,?_⟩
 ·rw [zO (zS (k.fh b u e) h)]; exact k.fh b u e
 ·have hx':x = (p,o) \/ x ∈ O1 ++ O2:=by
   rcases mem_append.mp hx with z | z
   ·exact .inr (mem_append.mpr (.inl z))
   ·rcases mem_cons.mp z with z | z
    ·exact .inl z
    ·exact .inr (mem_append.mpr (.inr z))
  rcases hx' with rfl | hx'
  ·exact ⟨k.fh.free h,k.h0.free h,zR⟩
  ·obtain ⟨a1,a2,a3⟩:=k.fo x hx'
   exact ⟨a1,a2,by rw [zO (zS a3 h)]; exact a3⟩
 ·rw [map_append,map_cons,zM1,<- map_append]
  refine ⟨k.nd,λz=>?_⟩
  obtain ⟨x,hx,e⟩:=mem_map.mp z
  obtain ⟨_,_,a3⟩:=k.fo x hx
  have e':x.1 = p:=e
  rw [e',h] at a3
  cases a3
theorem Ok.one (k:Ok B F (O1 ++ (p,o) :: O2) H):F p = none /\ B.H0 p = none /\ H p = some o:=k.fo (p,o) (mem_append.mpr (.inr mem_cons_self))
theorem Ok.ndp (k:Ok B F (O1 ++ (p,o) :: O2) H):∀ x ∈ O1 ++ O2,x.1 ≠ p:=λx hx e=>by
 have q:=k.nd
 rw [map_append,map_cons,zM1,<- map_append] at q
 exact q.2 (mem_map.mpr ⟨x,hx,e⟩)
theorem Ok.drop (k:Ok B F (O1 ++ (p,o) :: O2) H):Ok B F (O1 ++ O2) H:=by
 refine ⟨k.fh,k.h0,k.fa,λx hx=>k.fo x ?_,?_⟩
 ·rcases mem_append.mp hx with z | z
  ·exact mem_append.mpr (.inl z)
  ·exact mem_append.mpr (.inr (mem_cons_of_mem _ z))
 ·have q:=k.nd
  rw [map_append,map_cons,zM1,<- map_append] at q
  exact q.1
theorem Ok.chg (k:Ok B F (O1 ++ (p,o) :: O2) H) (o':HO):Ok B F (O1 ++ (p,o') :: O2) (upd H p o'):=by
 obtain ⟨a1,a2,a3⟩:=k.one
 refine ⟨k.fh.put a1 o',k.h0.put a2 o',k.fa,λx hx=>?_,?_⟩
 ·have hx':x = (p,o') \/ x ∈ O1 ++ O2:=by
   rcases mem_append.mp hx with z | z
   ·exact .inr (mem_append.mpr (.inl z))
   ·rcases mem_cons.mp z with z | z
    ·exact .inl z
    ·exact .inr (mem_append.mpr (.inr z))
  rcases hx' with rfl | hx'
  ·exact ⟨a1,a2,zR⟩
  ·obtain ⟨b1,b2,b3⟩:=k.drop.fo x hx'
   exact ⟨b1,b2,by rw [zO (k.ndp x hx')]; exact b3⟩
 ·have q:=k.nd
  rw [map_append,map_cons] at q ⊢
  exact q
theorem Ok.freeze (k:Ok B F (O1 ++ (p,o) :: O2) H):Ok B (upd F p o) (O1 ++ O2) H:=by
 obtain ⟨a1,a2,a3⟩:=k.one
 refine ⟨λb u e=>?_,k.h0,λb u e=>?_,λx hx=>?_,k.drop.nd⟩
 ·by_cases q:b = p
  ·subst q; rw [zR] at e; cases e; exact a3
  ·rw [zO q] at e; exact k.fh b u e
 ·by_cases q:b = p
  ·subst q; exact .inr a2
  ·rw [zO q] at e; exact k.fa b u e
 ·obtain ⟨b1,b2,b3⟩:=k.drop.fo x hx
  exact ⟨by rw [zO (k.ndp x hx)]; exact b1,b2,b3⟩
theorem zNb (h:H p = none):Same (lo F (O1 ++ O2) H) (lo F (O1 ++ (p,o) :: O2) (upd H p o)):=λb u e=>by
 unfold lo at e ⊢
 by_cases q:b = p
 ·subst q
  split at e
  ·cases e
  ·rw [h] at e; cases e
 ·rw [zO q]
  have z:((O1 ++ (p,o) :: O2).any λx=>x.1 == b) = ((O1 ++ O2).any λx=>x.1 == b):=by
   rw [any_append,any_append,any_cons]
   have:(p == b) = false:=by simp; exact λe=>q e.symm
   simp [this]
  rw [z]
  exact e
theorem zRb:Same (lo F (O1 ++ (p,o) :: O2) H) (lo F (O1 ++ (p,o') :: O2) (upd H p o')):=λb u e=>by
 unfold lo at e ⊢
 by_cases q:b = p
 ·subst q
  rw [any_append,any_cons] at e
  simp at e
 ·rw [zO q]
  have z:((O1 ++ (p,o) :: O2).any λx=>x.1 == b) = ((O1 ++ (p,o') :: O2).any λx=>x.1 == b):=by
   rw [any_append,any_append,any_cons,any_cons]
  rw [<- z]
  exact e
theorem lo_drop:Same (lo F (O1 ++ (p,o) :: O2) H) (lo F (O1 ++ O2) H):=λb u e=>by
 unfold lo at e ⊢
 split at e
 ·cases e
 ·rename_i h
  rw [if_neg]
  ·exact e
  ·rw [any_append,any_cons] at h
   rw [any_append]
   simp at h ⊢
   exact ⟨h.1,h.2.1,h.2.2.2⟩
theorem lo_freeze:Same (lo F (O1 ++ (p,o) :: O2) H) (lo (upd F p o) (O1 ++ O2) H):=λb u e=>by
 unfold lo at e ⊢
 split at e
 ·cases e
 ·rename_i h
  rw [any_append,any_cons] at h
  simp at h
  have q:b ≠ p:=λz=>h.2.2.1 z.symm
  rw [zO q,if_neg]
  ·exact e
  ·rw [any_append]
   simp
   exact ⟨h.1,h.2.1,h.2.2.2⟩
theorem Ok.called (k:Ok B F O H) (s:Same H H'):Grow B F H O (ext F H H') H':=by
 have e1:∀ b o,ext F H H' b = some o->F b = some o \/ H b = none:=λb o h=>by
  unfold ext at h
  cases q:H b with
  | none=>exact .inr rfl
  | some u=>rw [q] at h; exact .inl h
 refine ⟨λb o h=>?_,s,⟨λb o h=>?_,k.h0.trans s,λb o h=>?_,λx hx=>?_,k.nd⟩,λb h1 h2=>?_⟩
 ·unfold ext
  rw [k.fh b o h]
  exact h
 ·unfold ext at h
  cases q:H b with
  | none=>rw [q] at h; exact h
  | some u=>rw [q] at h; rw [<- k.fh b o h]; exact (s b u q).trans q.symm
 ·rcases e1 b o h with z | z
  ·exact k.fa b o z
  ·exact .inr (k.h0.free z)
 ·obtain ⟨a1,a2,a3⟩:=k.fo x hx
  refine ⟨?_,a2,s _ _ a3⟩
  unfold ext
  rw [a3]
  exact a1
 ·unfold ext
  cases q:H b with
  | none=>exact absurd q h2
  | some u=>exact h1
theorem zF6 (h0:Same B.H0 H) (s:Same H H'):Same (dif H' H) (dif (ext F H H') B.H0):=λb o h=>by
 unfold dif at h
 cases q:H b with
 | none =>
  rw [q] at h
  rw [xA (h0.free q)]
  unfold ext
  rw [q]
  exact h
 | some u=>rw [q] at h; cases h
variable {md md1 md2:Md} {α β γ:Type} [Rp K α] [Rp K β] [Rp K γ] {t t1 t2:TE} {m:Option α} {m1:Option β} {m2:Option γ}
def Ex (B:Bs) (sl:SL K) (md:Md) (t:TE) {α:Type} [Rp K α] (m:Option α):Prop :=
 ∀ a,m = some a->∀ (F:Hp) (O:Own) (H:Hp) (σ:St) (Q:VK),At B sl F O H σ->(∀ (v:V) (F' H':Hp),Grow B F H O F' H'->rp K (reg B F' H' md) v a->Q v H')->t σ H Q
def Et (B:Bs) (sl:SL K) (t:TT) (m:Option Bool):Prop :=
 ∀ a,m = some a->∀ (F:Hp) (O:Own) (H:Hp) (σ:St) (Q:Bool->Hp->Prop),At B sl F O H σ->(∀ (F' H':Hp),Grow B F H O F' H'->Q a H')->t σ H Q
inductive Ar (R:Hp):SL K->List V->Prop
 | nil:Ar R [] []
 | cons {n:Bool} {α:Type} [Rp K α] {a:α} {v:V} {sl:SL K} {vs:List V}:rp K R v a->Ar R sl vs->Ar R (.fz n a :: sl) (v :: vs)
def Ea (B:Bs) (sl:SL K) (md:Md) (t:TA) {A:Type} (as:A->SL K) (m:Option A):Prop :=
 ∀ a,m = some a->∀ (F:Hp) (O:Own) (H:Hp) (σ:St) (Q:List V->Hp->Prop),At B sl F O H σ->(∀ (vs:List V) (F' H':Hp),Grow B F H O F' H'->Ar (reg B F' H' md) (as a) vs->Q vs H')->t σ H Q
theorem Ex.sc [Sc K α] (h:Ex B sl md t m):Ex B sl md1 t m:=λa ha F O H σ Q s k=>h a ha F O H σ Q s λv F' H' g r=>k v F' H' g (zPb r)
theorem zNv [Nn K α] (h:Ex B sl md t m):Ex B sl md t (m.bind λa=>some (some a)):=λa ha F O H σ Q s k=>by
 cases m with
 | none=>cases ha
 | some a' =>
  cases (show some (some a') = some a from ha)
  exact h a' rfl F O H σ Q s λv F' H' g r=>k v F' H' g ⟨Nn.nn (K:=K) r,r⟩
theorem yZ {n:Bool} {a:α} (i:Nat) (hs:sl[i]? = some (.fz n a)):Ex B sl (mdb n) (tVar i) (some a):=λa' ha F O H σ Q s k=>by
 cases ha
 obtain ⟨v,h1,h2⟩:=s.2.fz_at hs
 exact ⟨v,h1,k v F H (.refl s.1) h2⟩
theorem zD [Sc K α] {n:Bool} {a:α} (i:Nat) (hs:sl[i]? = some (.fz n a)):Ex B sl md (tVar i) (some a):=(yZ i hs).sc
theorem zPs:Same (lo F O H) H:=λb o h=>by
 unfold lo at h
 split at h
 ·cases h
 ·exact h
theorem zAs (k:Ok B F O H) (n:Bool):Same (reg B F H (mdb n)) H:=match n with
 | true=>dif_le.trans k.fh
 | false=>k.fh
theorem zF {n:Bool} {a:α} (i:Nat) (hs:sl[i]? = some (.fz n a)):Ex B sl .hp (tVar i) (some a):=λa' ha F O H σ Q s k=>by
 cases ha
 obtain ⟨v,h1,h2⟩:=s.2.fz_at hs
 exact ⟨v,h1,k v F H (.refl s.1) (Rp.mono (zAs s.1 n) h2)⟩
theorem wD {n:Bool} {xs:List α} (i:Nat) (hs:sl[i]? = some (.ow n xs)):Ex B sl .hp (tVar i) (some xs):=λa' ha F O H σ Q s k=>by
 cases ha
 obtain ⟨O1,O2,p,vs,rfl,h1,h2,_⟩:=s.2.ow_at hs
 exact ⟨_,h1,k _ F H (.refl s.1) ⟨p,vs,rfl,s.1.one.2.2,h2.imp λ_ _=>Rp.mono (zAs s.1 n)⟩⟩
theorem ex_c [Sc K α] (a:α):Ex B sl md (tC (Sc.val K a)) (some a):=λa' ha F O H σ Q s k=>by cases ha; exact k _ F H (.refl s.1) (Sc.is.mpr rfl)
theorem zI (i:Int):Ex B sl md (tC (.int i)) (some i):=ex_c (K:=K) i
theorem zCn (i:Bool):Ex B sl md (tC (.bl i)) (some i):=ex_c (K:=K) i
theorem vI (i:Str):Ex B sl md (tC (.str i)) (some i):=ex_c (K:=K) i
theorem ex_none:Ex B sl md (tC .non) (some (none:Option α)):=λa' ha F O H σ Q s k=>by cases ha; exact k _ F H (.refl s.1) rfl
theorem zAo {f:β->γ->Option α} (h:(m1.bind λa=>m2.bind λb=>f a b) = some c):∃ a b,m1 = some a /\ m2 = some b /\ f a b = some c:=by
 cases m1 with
 | none=>cases h
 | some a =>
  cases m2 with
  | none=>cases h
  | some b=>exact ⟨a,b,rfl,rfl,h⟩
theorem zC6 {f:β->γ->Option α} [Sc K α] (hr:∀ (a:β) (b:γ) (c:α) (v w:V) (H:Hp) (Q:VK),f a b = some c->rp K H v a->rp K H w b->Q (Sc.val K c) H->r v w H Q)
  (h1:Ex B sl .hp t1 m1) (h2:Ex B sl .hp t2 m2):Ex B sl md (tOp r t1 t2) (m1.bind λa=>m2.bind λb=>f a b):=λc hc F O H σ Q s k=>by
 obtain ⟨a,b,ha,hb,hf⟩:=zAo hc
 refine h1 a ha F O H σ _ s λv F' H' g r1=>?_
 refine h2 b hb F' O H' σ _ (s.grow g) λw F2 H2 g2 r2=>?_
 exact hr a b c v w H2 Q hf (Rp.mono g2.hh r1) r2 (k _ F2 H2 (g.trans g2) (Sc.is.mpr rfl))
theorem zY (h:Ex B sl md t m'):Et B sl (tTest t) m':=λc hc F O H σ Q s k=>h c hc F O H σ _ s λv F' H' g r=>⟨c,r,k F' H' g⟩
theorem et_b (h:Ex B sl md t m'):Et B sl (tB t) m':=λc hc F O H σ Q s k=>h c hc F O H σ _ s λv F' H' g r=>⟨c,r,k F' H' g⟩
theorem zAk {t:TT} {n:Option Bool} (h:Et B sl t n):Et B sl (tNot t) (n.bind λc=>some !c):=λc hc F O H σ Q s k=>by
 cases n with
 | none=>cases hc
 | some c' =>
  cases (show some (!c') = some c from hc)
  exact h c' rfl F O H σ _ s λF' H' g=>k F' H' g
theorem zRe (h:Ex B sl .hp t n):Ex B sl md (tNotV t) (n.bind λc=>some !c):=λc hc F O H σ Q s k=>by
 cases n with
 | none=>cases hc
 | some c' =>
  cases (show some (!c') = some c from hc)
  refine h c' rfl F O H σ _ s λv F' H' g r=>?_
  cases r
  exact ⟨c',rfl,k _ F' H' g rfl⟩
theorem zN0 {t u:TT} {n n':Option Bool} (h:Et B sl t n) (h':Et B sl u n'):Et B sl (tAnd t u) (n.bind λc=>if c = true then n' else some false):=λc hc F O H σ Q s k=>by
 cases n with
 | none=>cases hc
 | some c' =>
  refine h c' rfl F O H σ _ s λF' H' g=>?_
  cases c' with
  | true=>exact iteT (h' c (by simpa using hc) F' O H' σ _ (s.grow g) λF2 H2 g2=>k F2 H2 (g.trans g2))
  | false=>cases (show some false = some c from by simpa using hc); exact iteF (k F' H' g)
theorem zCo {t u:TT} {n n':Option Bool} (h:Et B sl t n) (h':Et B sl u n'):Et B sl (tOr t u) (n.bind λc=>if c = true then some true else n'):=λc hc F O H σ Q s k=>by
 cases n with
 | none=>cases hc
 | some c' =>
  refine h c' rfl F O H σ _ s λF' H' g=>?_
  cases c' with
  | true=>cases (show some true = some c from by simpa using hc); exact iteT (k F' H' g)
  | false=>exact iteF (h' c (by simpa using hc) F' O H' σ _ (s.grow g) λF2 H2 g2=>k F2 H2 (g.trans g2))
theorem zD1 (h:Ex B sl .hp t1 n) (h':Ex B sl .hp t2 n'):Ex B sl md (tAndV t1 t2) (n.bind λc=>if c = true then n' else some false):=λc hc F O H σ Q s k=>by
 cases n with
 | none=>cases hc
 | some c' =>
  refine h c' rfl F O H σ _ s λv F' H' g r=>?_
  cases r
  refine ⟨c',rfl,?_⟩
  cases c' with
  | true=>exact iteT (h' c (by simpa using hc) F' O H' σ _ (s.grow g) λv F2 H2 g2 r2=>k v F2 H2 (g.trans g2) (zPb r2))
  | false=>cases (show some false = some c from by simpa using hc); exact iteF (k _ F' H' g rfl)
theorem zRg {t:TT} {n:Option Bool} {m m':Option α} (h:Et B sl t n) (h1:Ex B sl md t1 m) (h2:Ex B sl md t2 m'):Ex B sl md (tIf t t1 t2) (n.bind λc=>if c = true then m else m'):=λc hc F O H σ Q s k=>by
 cases n with
 | none=>cases hc
 | some c' =>
  refine h c' rfl F O H σ _ s λF' H' g=>?_
  cases c' with
  | true=>exact iteT (h1 c (by simpa using hc) F' O H' σ _ (s.grow g) λv F2 H2 g2 r2=>k v F2 H2 (g.trans g2) r2)
  | false=>exact iteF (h2 c (by simpa using hc) F' O H' σ _ (s.grow g) λv F2 H2 g2 r2=>k v F2 H2 (g.trans g2) r2)
theorem zQ:Ea B sl md tNil (λ_:Unit=>[]) (some ()):=λa ha F O H σ Q s k=>k [] F H (.refl s.1) .nil
theorem zG {A:Type} {as:A->SL K} {ma:Option A} (h1:Ex B sl md t m) (h2:Ea B sl md tr as ma):Ea B sl md (xF t tr) (λx:α × A=>.fz false x.1 :: as x.2) (m.bind λa=>ma.bind λb=>some (a,b)):=λc hc F O H σ Q s k=>by
 cases m with
 | none=>cases hc
 | some a =>
  cases ma with
  | none=>cases hc
  | some b =>
   cases (show some (a,b) = some c from hc)
   refine h1 a rfl F O H σ _ s λv F' H' g r1=>?_
   refine h2 b rfl F' O H' σ _ (s.grow g) λvs F2 H2 g2 r2=>?_
   exact k (v :: vs) F2 H2 (g.trans g2) (.cons (Rp.mono (wA g2 md) r1) r2)
theorem zH7 (k:Ok B F O H) (h:H p = none) (md:Md):reg B (upd F p o) (upd H p o) md p = some o:=match md with
 | .nw=>by show dif (upd F p o) B.H0 p = _; rw [xA (k.h0.free h)]; exact zR
 | .fz=>zR
 | .hp=>zR
def cap:Nat:=100000
theorem zA0 (h:n < cap):n < sizeLine:=Nat.lt_trans h (by decide)
theorem zRk (h:n <= cap):n <= sizeLine:=Nat.le_trans h (by decide)
def El (B:Bs) (sl:SL K) (md:Md) (t:TA) {α:Type} [Rp K α] (m:Option (List α)):Prop :=
 ∀ a,m = some a->∀ (F:Hp) (O:Own) (H:Hp) (σ:St) (Q:List V->Hp->Prop),At B sl F O H σ->(∀ (vs:List V) (F' H':Hp),Grow B F H O F' H'->A2 (rp K (reg B F' H' md)) vs a->Q vs H')->t σ H Q
theorem zJ2:El B sl md tNil (some ([]:List α)):=λa ha F O H σ Q s k=>by cases ha; exact k [] F H (.refl s.1) trivial
theorem wT (h1:Ex B sl md t m) (h2:El B sl md tr ma):El B sl md (xF t tr) (m.bind λa=>ma.bind λb=>some (a :: b)):=λc hc F O H σ Q s k=>by
 cases m with
 | none=>cases hc
 | some a =>
  cases ma with
  | none=>cases hc
  | some b =>
   cases (show some (a :: b) = some c from hc)
   refine h1 a rfl F O H σ _ s λv F' H' g r1=>?_
   refine h2 b rfl F' O H' σ _ (s.grow g) λvs F2 H2 g2 r2=>?_
   exact k (v :: vs) F2 H2 (g.trans g2) ⟨Rp.mono (wA g2 md) r1,r2⟩
def Eo (B:Bs) (sl:SL K) (md:Md) (t:TE) {α:Type} [Rp K α] (m:Option (List α)):Prop :=
 ∀ a,m = some a->∀ (F:Hp) (O:Own) (H:Hp) (σ:St) (Q:VK),At B sl F O H σ->(∀ (p:Addr) (vs:List V) (F' H':Hp),Grow B F H O F' H'->H' p = none->A2 (rp K (reg B F' H' md)) vs a->Q (.ref p) (upd H' p (.lst vs)))->t σ H Q
theorem Eo.ex {m:Option (List α)} (h:Eo B sl md t m):Ex B sl md t m:=λa ha F O H σ Q s k=>h a ha F O H σ Q s λp vs F' H' g hp r=>by
 have g2:=Grow.new g.ok hp (.lst vs)
 exact k _ _ _ (g.trans g2) ⟨p,vs,rfl,zH7 g.ok hp md,r.imp λ_ _=>Rp.mono (wA g2 md)⟩
theorem uX:Eo B sl md (tLst tNil) (some ([]:List α)):=λa ha F O H σ Q s k=>by
 cases ha
 exact ⟨Nat.zero_le _,λp hp=>k p [] F H (.refl s.1) hp trivial⟩
theorem zJ0 {t:TA} {ma:Option (List α)} (h:El B sl md t ma) (hl:∀ a,ma = some a->a.length <= cap):Eo B sl md (tLst t) ma:=λa ha F O H σ Q s k =>
 h a ha F O H σ _ s λvs F' H' g r=>⟨by rw [r.len]; exact zRk (hl a ha),λp hp=>k p vs F' H' g hp r⟩
theorem xZ (h1:Ex B sl md t1 m1) (h2:Ex B sl md t2 m2):Ex B sl md (tTup (xF t1 (xF t2 tNil))) (m1.bind λa=>m2.bind λb=>some (a,b)):=λc hc F O H σ Q s kk=>by
 obtain ⟨a,b,ha,hb,hf⟩:=zAo hc
 cases hf
 refine h1 a ha F O H σ _ s λv F' H' g r1=>?_
 refine h2 b hb F' O H' σ _ (s.grow g) λw F2 H2 g2 r2=>?_
 refine ⟨by show 2 <= sizeLine; decide,λp hp=>?_⟩
 have g3:=Grow.new g2.ok hp (.tup [v,w])
 exact kk _ _ _ (g.trans (g2.trans g3)) ⟨p,v,w,rfl,zH7 g2.ok hp md,Rp.mono (wA (g2.trans g3) md) r1,Rp.mono (wA g3 md) r2⟩
def spF (K:PySem.W.Frag) (al:Bool) {A β:Type} [Rp K β] (as:A->SL K) (f:A->Option β):Sp:=λvs H Q _ =>
 ∃ a b Fa,Same Fa H /\ f a = some b /\ Ar Fa (as a) vs /\ ∀ v H',Same H H'->rp K (if al = true then ext Fa H H' else dif H' H) v b->Q v H'
theorem zP {A:Type} {as:A->SL K} {f:A->Option β} {ma:Option A} (h:Ea B sl .hp ta as ma):Ex B sl md (zKi (spF K false as f) [] E0 ta) (ma.bind f):=λc hc F O H σ Q s kk=>by
 cases ma with
 | none=>cases hc
 | some a =>
  refine h a rfl F O H σ _ s λvs F' H' g r=>?_
  rw [append_nil]
  refine ⟨a,c,H',.refl _,hc,r,λv H2 s2 r2=>?_⟩
  have g2:=g.ok.called s2
  refine kk v _ H2 (g.trans g2) ?_
  have r3:=Rp.mono (zF6 (F:=F') g.ok.h0 s2) r2
  exact match md with
  | .nw=>r3
  | .fz=>Rp.mono dif_le r3
  | .hp=>Rp.mono (dif_le.trans g2.ok.fh) r3
end
def push {α:Type} (xs:List α) (a:α):Option (List α):=if xs.length < cap then some (xs ++ [a]) else none
def zFn {α:Type} (xs:List α) (i:Int) (a:α):Option (List α):=(ixN xs.length i).bind λj=>some (xs.set j a)
def wL (n:Int):Option LI:=if -(2 ^ 62) <= n /\ n < 2 ^ 62 then some ((List.range n.toNat).map Int.ofNat) else none
def xC {S α:Type} (step:S->α->Option S):List α->S->Option S
 | [],s=>some s
 | x :: xs,s=>(step s x).bind λs'=>xC step xs s'
inductive Out (S β:Type) | nx (s:S) | rt (b:β)
def uD {S α β:Type} (step:S->α->Option (Out S β)):List α->S->Option (Out S β)
 | [],s=>some (.nx s)
 | x :: xs,s=>(step s x).bind λo=>match o with
  | .nx s'=>uD step xs s'
  | .rt b=>some (.rt b)
def zCx {S:Type} (c:S->Option Bool) (body:S->Option S):Nat->S->Option S
 | 0,_=>none
 | k + 1,s=>(c s).bind λb=>if b = true then (body s).bind λs'=>zCx c body k s' else some s
def xV {α β:Type} (c:α->Option Bool) (f:α->Option β):List α->Option (List β)
 | []=>some []
 | x :: xs=>(c x).bind λb=>if b = true then (f x).bind λy=>(xV c f xs).bind λys=>some (y :: ys) else xV c f xs
def Out.els {S β:Type} (o:Out S β) (f:S->Option β):Option β:=match o with
 | .nx s=>f s
 | .rt b=>some b
def Out.thn {S S' β:Type} (o:Out S β) (f:S->Option (Out S' β)):Option (Out S' β):=match o with
 | .nx s=>f s
 | .rt b=>some (.rt b)
theorem zDz {S α:Type} (step:S->α->Option S):∀ (xs ys:List α) (s:S),xC step (xs ++ ys) s = (xC step xs s).bind λs'=>xC step ys s'
 | [],ys,s=>rfl
 | x :: xs,ys,s=>by
  show (step s x).bind _ = ((step s x).bind _).bind _
  cases step s x with
  | none=>rfl
  | some s'=>exact zDz step xs ys s'
theorem zE0 {S α:Type} {step:S->α->Option S} {xs:List α} {s s1:S} (h:xC step xs s = some s1) {x:α} (hx:xs[i]? = some x):∃ a b,xC step (xs.take i) s = some a /\ step a x = some b /\ xC step (xs.take (i + 1)) s = some b:=by
 have e:xs = xs.take (i + 1) ++ xs.drop (i + 1):=(take_append_drop _ _).symm
 have e2:xs.take (i + 1) = xs.take i ++ [x]:=by rw [take_add_one,hx] <;> rfl
 rw [e,zDz] at h
 cases q:xC step (xs.take (i + 1)) s with
 | none=>rw [q] at h; cases h
 | some b =>
  have q':=q
  rw [e2,zDz] at q'
  cases z:xC step (xs.take i) s with
  | none=>rw [z] at q'; cases q'
  | some a =>
   rw [z] at q'
   have q2:(step a x).bind (λs'=>some s') = some b:=q'
   refine ⟨a,b,rfl,?_,rfl⟩
   cases w:step a x with
   | none=>rw [w] at q2; cases q2
   | some c=>rw [w] at q2; exact q2
section
variable {K:PySem.W.Frag} {B:Bs} {F H F' H' G:Hp} {O:Own} {sl sl2:SL K} {σ:St} {md:Md} {α β γ:Type} [Rp K α] [Rp K β] [Rp K γ] {t u v:TS} {te:TE} {m:Option α} {S S':Type} {al:Bool}
def Sg (B:Bs) (G:Hp) (sl:SL K) (σ:St) (H:Hp):Prop:=∃ F O,Same G F /\ At B sl F O H σ
def Rt (K:PySem.W.Frag) {β:Type} [Rp K β] (B:Bs) (al:Bool) (b:β) (v:V) (H':Hp):Prop:=Same B.H0 H' /\ rp K (if al = true then ext B.Fa B.H0 H' else dif H' B.H0) v b
def Sn (B:Bs) (sl:SL K) (t:TS) {S:Type} (L:S->SL K) (m:Option S):Prop :=
 ∀ a,m = some a->∀ (G:Hp) (D:Ends) (σ:St) (H:Hp),Sg B G sl σ H->(∀ σ' H',Sg B G (L a) σ' H'->D.nx σ' H')->t D σ H
def SB (B:Bs) (sl:SL K) (t:TS) (al:Bool) {β:Type} [Rp K β] (m:Option β):Prop :=
 ∀ b,m = some b->∀ (G:Hp) (D:Ends) (σ:St) (H:Hp),Sg B G sl σ H->(∀ v H',Rt K B al b v H'->D.rt v H')->t D σ H
def XE (B:Bs) (G:Hp) (al:Bool) (L:S->SL K) (D:Ends) (o:Out S β):Prop:=match o with
 | .nx s=>∀ σ' H',Sg B G (L s) σ' H'->D.nx σ' H'
 | .rt b=>∀ v H',Rt K B al b v H'->D.rt v H'
def Sx (B:Bs) (sl:SL K) (t:TS) (al:Bool) {S β:Type} [Rp K β] (L:S->SL K) (m:Option (Out S β)):Prop :=
 ∀ o,m = some o->∀ (G:Hp) (D:Ends) (σ:St) (H:Hp),Sg B G sl σ H->XE B G al L D o->t D σ H
theorem SB.of (h:SB B sl t al m) (q:m = m'):SB B sl t al m':=q ▸ h
theorem Sn.of (h:Sn B sl t L m) (q:m = m'):Sn B sl t L m':=q ▸ h
inductive Le:SL K->SL K->Prop
 | nil:Le [] []
 | eq {s:Slot K} {a b:SL K}:Le a b->Le (s :: a) (s :: b)
 | un {s:Slot K} {a b:SL K}:Le a b->Le (s :: a) (.un :: b)
 | fr {n:Bool} {α:Type} [Rp K α] {xs:List α} {a b:SL K}:Le a b->Le (.ow n xs :: a) (.fz n xs :: b)
 | old {α:Type} [Rp K α] {x:α} {a b:SL K}:Le a b->Le (.fz true x :: a) (.fz false x :: b)
 | fo {n:Bool} {α:Type} [Ob K α] {x:α} {a b:SL K}:Le a b->Le (.ob n x :: a) (@Slot.fz K n (Ob.β K α) (Ob.rpβ) (Ob.val x) :: b)
theorem Ok.sub (k:Ok B F O H) (s:Sublist O' O):Ok B F O' H:=⟨k.fh,k.h0,k.fa,λx hx=>k.fo x (s.subset hx),(s.map _).nodup k.nd⟩
theorem zRa (s:Sublist O' O):Same (lo F O H) (lo F O' H):=λb u e=>by
 unfold lo at e ⊢
 split at e
 ·cases e
 ·rename_i h
  rw [if_neg]
  ·exact e
  ·intro z
   apply h
   rw [Bool.or_eq_true] at z ⊢
   rcases z with z | z
   ·exact .inl z
   ·refine .inr ?_
    obtain ⟨x,hx,q⟩:=any_eq_true.mp z
    exact any_eq_true.mpr ⟨x,s.subset hx,q⟩
theorem Ok.freezeC:∀ (Oc:Own) {F:Hp} {O:Own},Ok B F (P ++ (Oc ++ O)) H->∃ F2,Same F F2 /\ Ok B F2 (P ++ O) H /\ Same (lo F (P ++ (Oc ++ O)) H) (lo F2 (P ++ O) H) /\ ∀ x ∈ Oc,F2 x.1 = some x.2 /\ B.H0 x.1 = none
 | [],F,O,k=>⟨F,.refl _,k,.refl _,λx hx=>(by cases hx)⟩
 | (p,o) :: Oc,F,O,k=>by
  obtain ⟨a1,a2,a3⟩:=k.one
  have sf:Same F (upd F p o):=same_new a1 _
  obtain ⟨F2,s2,k2,l2,m2⟩:=Ok.freezeC Oc (k.freeze)
  refine ⟨F2,sf.trans s2,k2,lo_freeze.trans l2,λx hx=>?_⟩
  rcases mem_cons.mp hx with e | hx
  ·subst e; exact ⟨s2 _ _ zR,a2⟩
  ·exact m2 x hx
theorem SlotsOk.le (h:Le sl sl2):∀ {F:Hp} {σ:St} {O:Own},Ok B F (P ++ O) H->SlotsOk B F (lo F (P ++ O) H) H sl σ O->∃ F' O',Same F F' /\ Ok B F' (P ++ O') H /\ Same (lo F (P ++ O) H) (lo F' (P ++ O') H) /\ SlotsOk B F' (lo F' (P ++ O') H) H sl2 σ O':=by
 induction h generalizing P with
 | nil=>intro F σ O k h; cases h; exact ⟨F,[],.refl _,k,.refl _,.nil⟩
 | eq _ ih =>
  intro F σ O k h
  cases h with
  | un h=>obtain ⟨F',O',a,b,c,d⟩:=ih k h; exact ⟨F',O',a,b,c,.un d⟩
  | fz r h=>obtain ⟨F',O',a,b,c,d⟩:=ih k h; exact ⟨F',O',a,b,c,.fz (Rp.mono (xJ _ a) r) d⟩
  | hs r h=>obtain ⟨F',O',a,b,c,d⟩:=ih k h; exact ⟨F',O',a,b,c,.hs r d⟩
  | nu r h=>obtain ⟨F',O',a,b,c,d⟩:=ih k h; exact ⟨F',O',a,b,c,.nu (Rp.mono (xG c) r) d⟩
  | @ow _ _ _ _ _ _ O p vs r h =>
   have e:P ++ (p,HO.lst vs) :: O = (P ++ [(p,HO.lst vs)]) ++ O:=by simp
   rw [e] at k h
   obtain ⟨F',O',a,b,c,d⟩:=ih k h
   have e':(P ++ [(p,HO.lst vs)]) ++ O' = P ++ (p,HO.lst vs) :: O':=by simp
   rw [e'] at b c d
   rw [<- e] at c
   exact ⟨F',_ :: O',a,b,c,.ow (r.imp λ_ _=>Rp.mono (xJ _ a)) d⟩
  | @od _ _ _ _ _ O p vs r h =>
   have e:P ++ (p,HO.dK vs) :: O = (P ++ [(p,HO.dK vs)]) ++ O:=by simp
   rw [e] at k h
   obtain ⟨F',O',a,b,c,d⟩:=ih k h
   have e':(P ++ [(p,HO.dK vs)]) ++ O' = P ++ (p,HO.dK vs) :: O':=by simp
   rw [e'] at b c d
   rw [<- e] at c
   exact ⟨F',_ :: O',a,b,c,.od (r.imp λ_ _ z=>⟨z.1,Rp.mono a z.2⟩) d⟩
  | @ob _ _ _ _ _ _ O Oc v r h =>
   rw [<- append_assoc] at k h
   obtain ⟨F',O',a,b,c,d⟩:=ih k h
   rw [append_assoc] at b c d
   rw [append_assoc] at c
   exact ⟨F',Oc ++ O',a,b,c,.ob (Ob.mono (xJ _ a) r) d⟩
 | un _ ih =>
  intro F σ O k h
  cases h with
  | un h=>obtain ⟨F',O',a,b,c,d⟩:=ih k h; exact ⟨F',O',a,b,c,.un d⟩
  | fz r h=>obtain ⟨F',O',a,b,c,d⟩:=ih k h; exact ⟨F',O',a,b,c,.un d⟩
  | hs r h=>obtain ⟨F',O',a,b,c,d⟩:=ih k h; exact ⟨F',O',a,b,c,.un d⟩
  | nu r h=>obtain ⟨F',O',a,b,c,d⟩:=ih k h; exact ⟨F',O',a,b,c,.un d⟩
  | ow r h=>obtain ⟨F',O',a,b,c,d⟩:=ih k.drop (h.mono (.refl _) lo_drop (.refl _)); exact ⟨F',O',a,b,lo_drop.trans c,.un d⟩
  | od r h=>obtain ⟨F',O',a,b,c,d⟩:=ih k.drop (h.mono (.refl _) lo_drop (.refl _)); exact ⟨F',O',a,b,lo_drop.trans c,.un d⟩
  | @ob _ _ _ _ _ _ O Oc v r h =>
   have sb:Sublist (P ++ O) (P ++ (Oc ++ O)):=Sublist.append (Sublist.refl P) (List.sublist_append_right Oc O)
   obtain ⟨F',O',a,b,c,d⟩:=ih (k.sub sb) (h.mono (.refl _) (zRa sb) (.refl _))
   exact ⟨F',O',a,b,(zRa sb).trans c,.un d⟩
 | @fr n _ _ _ _ _ _ ih =>
  intro F σ O k h
  cases h with
  | @ow _ _ _ _ _ _ O p vs r h =>
   obtain ⟨a1,a2,a3⟩:=k.one
   have sf:Same F (upd F p (.lst vs)):=same_new a1 _
   obtain ⟨F',O',a,b,c,d⟩:=ih k.freeze (h.mono sf lo_freeze (.refl _))
   refine ⟨F',O',sf.trans a,b,lo_freeze.trans c,.fz ⟨p,vs,rfl,?_,r.imp λ_ _=>Rp.mono (xJ _ (sf.trans a))⟩ d⟩
   cases n with
   | true=>exact (xA a2).trans (a _ _ zR)
   | false=>exact a _ _ zR
 | old _ ih =>
  intro F σ O k h
  cases h with
  | fz r h=>obtain ⟨F',O',a,b,c,d⟩:=ih k h; exact ⟨F',O',a,b,c,.fz (Rp.mono (dif_le.trans a) r) d⟩
 | @fo n _ _ _ _ _ _ ih =>
  intro F σ O k h
  cases h with
  | @ob _ _ _ _ _ _ O Oc v r h =>
   obtain ⟨F2,s2,k2,l2,m2⟩:=Ok.freezeC Oc k
   obtain ⟨F',O',a,b,c,d⟩:=ih k2 (h.mono s2 l2 (.refl _))
   refine ⟨F',O',s2.trans a,b,l2.trans c,@SlotsOk.fz _ _ _ _ _ _ _ Ob.rpβ _ _ _ _ _ (Ob.frz (Ob.mono (xJ _ (s2.trans a)) r) λx hx=>?_) d⟩
   obtain ⟨e1,e2⟩:=m2 x hx
   cases n with
   | true=>exact (xA e2).trans (a _ _ e1)
   | false=>exact a _ _ e1
theorem Sg.le (h:Sg B G sl σ H) (l:Le sl sl2):Sg B G sl2 σ H:=by
 obtain ⟨F,O,g,k,s⟩:=h
 obtain ⟨F',O',a,b,_,d⟩:=SlotsOk.le (P:=[]) l k s
 exact ⟨F',O',g.trans a,b,d⟩
theorem Sg.grow (g:Same G F) (h:At B sl F O' H σ) (gr:Grow B F H O' F' H'):Sg B G sl σ H':=⟨F',O',g.trans gr.ff,h.grow gr⟩
theorem zT (L:S->SL K) (s:S) (h:Le sl (L s)):Sn B sl zLs L (some s):=λa ha G D σ H q k=>by cases ha; exact k σ H (q.le h)
theorem zL {f:S->Option S'} (h1:Sn B sl t L m1) (h2:∀ s,Sn B (L s) u L' (f s)):Sn B sl (tSeq t u) L' (m1.bind f):=λa ha G D σ H q k=>by
 cases m1 with
 | none=>cases ha
 | some s=>exact h1 s rfl G _ σ H q λσ' H' q'=>h2 s a ha G D σ' H' q' k
theorem zM {f:S->Option β} (h1:Sn B sl t L m1) (h2:∀ s,SB B (L s) u al (f s)):SB B sl (tSeq t u) al (m1.bind f):=λa ha G D σ H q k=>by
 cases m1 with
 | none=>cases ha
 | some s=>exact h1 s rfl G _ σ H q λσ' H' q'=>h2 s a ha G D σ' H' q' k
theorem zJe {f:S->Option β} (h1:Sx B sl t al L m1) (h2:∀ s,SB B (L s) u al (f s)):SB B sl (tSeq t u) al (m1.bind λo=>o.els f):=λa ha G D σ H q k=>by
 cases m1 with
 | none=>cases ha
 | some o =>
  cases o with
  | nx s=>exact h1 _ rfl G _ σ H q λσ' H' q'=>h2 s a ha G D σ' H' q' k
  | rt b=>cases ha; exact h1 _ rfl G { D with nx:=u D } σ H q k
theorem zFd {f:S->Option (Out S' β)} (h1:Sx B sl t al L m1) (h2:∀ s,Sx B (L s) u al L' (f s)):Sx B sl (tSeq t u) al L' (m1.bind λo=>o.thn f):=λa ha G D σ H q k=>by
 cases m1 with
 | none=>cases ha
 | some o =>
  cases o with
  | nx s=>exact h1 _ rfl G _ σ H q λσ' H' q'=>h2 s a ha G D σ' H' q' k
  | rt b=>cases ha; exact h1 _ rfl G { D with nx:=u D } σ H q k
theorem zEm (L:S->SL K) (s:S) (h:Le sl (L s)):Sx B sl zLs al L (some (.nx s):Option (Out S β)):=λa ha G D σ H q k=>by cases ha; exact k σ H (q.le h)
theorem rt_of (k:Ok B F' O H') (n:Bool) {v:V} {b:β} (r:rp K (reg B F' H' (mdb n)) v b) (hn:n = !al):Rt K B al b v H':=by
 refine ⟨k.h0,?_⟩
 cases al with
 | false=>subst hn; exact Rp.mono (xG k.fh) r
 | true =>
  subst hn
  refine Rp.mono (λb o h=>?_) r
  have h:F' b = some o:=h
  show ext B.Fa B.H0 H' b = some o
  unfold ext
  cases q:B.H0 b with
  | none=>exact k.fh b o h
  | some u =>
   rcases k.fa b o h with z | z
   ·exact z
   ·rw [q] at z; cases z
theorem yO (h:Ex B sl (mdb !al) te m):SB B sl (tSeq (tRet te) u) al m:=λb hb G D σ H s k=>by
 obtain ⟨F,O,g,a⟩:=s
 exact h b hb F O H σ _ a λv F' H' gr r=>k v H' (rt_of gr.ok (!al) r rfl)
theorem dif_upd (h:F p = none):Same (dif F H0) (dif (upd F p o) H0):=xG (same_new h o)
theorem zDh {n:Bool} {xs:List α} (i:Nat) (hs:sl[i]? = some (.ow n xs)) (hn:n = !al):SB B sl (tSeq (tRet (tVar i)) u) al (some xs):=λb hb G D σ H s k=>by
 cases hb
 obtain ⟨F,O,g,a⟩:=s
 obtain ⟨O1,O2,p,vs,rfl,h1,h2,_⟩:=a.2.ow_at hs
 obtain ⟨a1,a2,a3⟩:=a.1.one
 refine ⟨_,h1,k _ H (rt_of a.1.freeze n ⟨p,vs,rfl,?_,h2.imp λ_ _=>Rp.mono ?_⟩ hn)⟩
 ·cases n with
  | true=>exact (xA a2).trans zR
  | false=>exact zR
 ·cases n with
  | true=>exact dif_upd a1
  | false=>exact same_new a1 _
theorem uI (hc:Et B sl c n) (h1:Sn B sl t L m1) (h2:Sn B sl u L m2):Sn B sl (tIfS c t u) L (n.bind λb=>if b = true then m1 else m2):=λa ha G D σ H s k=>by
 cases n with
 | none=>cases ha
 | some b =>
  obtain ⟨F,O,g,z⟩:=s
  refine hc b rfl F O H σ _ z λF' H' gr=>?_
  cases b with
  | true=>exact iteT (h1 a (by simpa using ha) G D σ H' (Sg.grow g z gr) k)
  | false=>exact iteF (h2 a (by simpa using ha) G D σ H' (Sg.grow g z gr) k)
theorem sx_if {c:TT} {n:Option Bool} {L:S->SL K} {m1 m2:Option (Out S β)} (hc:Et B sl c n) (h1:Sx B sl t al L m1) (h2:Sx B sl u al L m2):Sx B sl (tIfS c t u) al L (n.bind λb=>if b = true then m1 else m2):=λa ha G D σ H s k=>by
 cases n with
 | none=>cases ha
 | some b =>
  obtain ⟨F,O,g,z⟩:=s
  refine hc b rfl F O H σ _ z λF' H' gr=>?_
  cases b with
  | true=>exact iteT (h1 a (by simpa using ha) G D σ H' (Sg.grow g z gr) k)
  | false=>exact iteF (h2 a (by simpa using ha) G D σ H' (Sg.grow g z gr) k)
theorem zDi {c:TT} {n:Option Bool} {m1 m2:Option β} (hc:Et B sl c n) (h1:SB B sl t al m1) (h2:SB B sl u al m2):SB B sl (tSeq (tIfS c t zLs) u) al (n.bind λb=>if b = true then m1 else m2):=λa ha G D σ H s k=>by
 cases n with
 | none=>cases ha
 | some b =>
  obtain ⟨F,O,g,z⟩:=s
  refine hc b rfl F O H σ _ z λF' H' gr=>?_
  cases b with
  | true=>exact iteT (h1 a (by simpa using ha) G _ σ H' (Sg.grow g z gr) k)
  | false=>exact iteF (h2 a (by simpa using ha) G D σ H' (Sg.grow g z gr) k)
theorem zGk {c:TT} {n:Option Bool} {m1:Option β} {L:S->SL K} {m2:Option (Out S β)} (hc:Et B sl c n) (h1:SB B sl t al m1) (h2:Sx B sl u al L m2) :
  Sx B sl (tSeq (tIfS c t zLs) u) al L (n.bind λb=>if b = true then m1.bind λb=>some (.rt b) else m2):=λa ha G D σ H s k=>by
 cases n with
 | none=>cases ha
 | some b =>
  obtain ⟨F,O,g,z⟩:=s
  refine hc b rfl F O H σ _ z λF' H' gr=>?_
  cases b with
  | true =>
   have e:=(show (m1.bind λb=>some (Out.rt b)) = some a by simpa using ha)
   cases m1 with
   | none=>cases e
   | some b=>cases e; exact iteT (h1 b rfl G _ σ H' (Sg.grow g z gr) k)
  | false=>exact iteF (h2 a (by simpa using ha) G D σ H' (Sg.grow g z gr) k)
theorem Sg.set {s:Slot K} {i:Nat} {n:Bool} {a:α} {v:V} {O:Own} (g:Same G F) (h:At B sl F O H σ) (hs:sl[i]? = some s) (ho:isOw s = false) (r:rp K (reg B F H (mdb n)) v a):Sg B G (sl.set i (.fz n a)) (σ.set i (some v)) H :=
 ⟨F,O,g,h.1,h.2.put (λ_ _ _ z=>.fz r z) hs ho⟩
theorem yF (n:Bool) (i:Nat) (hs:sl[i]? = some s) (ho:isOw s = false) (h:Ex B sl (mdb n) te m):Sn B sl (tAsg te (zAd i)) (λa=>sl.set i (.fz n a)) m:=λa ha G D σ H s k=>by
 obtain ⟨F,O,g,z⟩:=s
 exact h a ha F O H σ _ z λv F' H' gr r=>k _ _ (Sg.set (g.trans gr.ff) (z.grow gr) hs ho r)
theorem zB9 (h:Ex B sl md te m):Sn B sl (zEf te) (λ_=>sl) m:=λa ha G D σ H s k=>by
 obtain ⟨F,O,g,z⟩:=s
 exact h a ha F O H σ _ z λv F' H' gr r=>k _ _ (Sg.grow g z gr)
theorem At.own {s:Slot K} {i:Nat} {n:Bool} {xs:List α} {vs:List V} {p:Addr} (h:At B sl F O H σ) (hs:sl[i]? = some s) (ho:isOw s = false) (hp:H p = none) (r:A2 (rp K (reg B F H (mdb n))) vs xs) :
  ∃ O',At B (sl.set i (.ow n xs)) F O' (upd H p (.lst vs)) (σ.set i (some (.ref p))):=by
 obtain ⟨k,z0⟩:=h
 obtain ⟨O1,O2,rfl,z⟩:=z0.own (s':=.ow n xs) (x:=some (.ref p)) (c:=(p,.lst vs)) (λ_ _ _ z=>.ow r z) hs ho
 exact ⟨_,k.add hp,z.mono (.refl _) (zNb hp) (same_new hp _)⟩
theorem zBg {s:Slot K} {m:Option (List α)} (n:Bool) (i:Nat) (hs:sl[i]? = some s) (ho:isOw s = false) (h:Eo B sl (mdb n) te m):Sn B sl (tAsg te (zAd i)) (λa=>sl.set i (.ow n a)) m:=λa ha G D σ H s k=>by
 obtain ⟨F,O,g,z⟩:=s
 refine h a ha F O H σ _ z λp vs F' H' gr hp r=>k _ _ ?_
 obtain ⟨O',z'⟩:=(z.grow gr).own hs ho hp r
 exact ⟨F',O',g.trans gr.ff,z'⟩
theorem zL0 (i:Nat) (hs:sl[i]? = some s) (ho:isOw s = false):Sn B sl (tAsg zQq (zAd i)) (λ_=>sl.set i (.od ([]:List (Key × α)))) (some ()):=λa ha G D σ H s k=>by
 obtain ⟨F,O,g,k0,z0⟩:=s
 intro p hp
 refine k _ _ ?_
 obtain ⟨O1,O2,rfl,z'⟩:=z0.own (s':=.od ([]:List (Key × α))) (x:=some (.ref p)) (c:=(p,.dK [])) (λ_ _ _ z=>.od trivial z) hs ho
 exact ⟨F,_,g,k0.add hp,z'.mono (.refl _) (zNb hp) (same_new hp _)⟩
theorem uJ {α:Type}:∀ {l:List α} {i:Nat} {x:α},l[i]? = some x->l.set i x = l
 | [],_,_,h=>by simp at h
 | _ :: _,0,_,h=>by simp at h; subst h; rfl
 | _ :: l,i + 1,_,h=>congrArg _ (uJ (l:=l) (i:=i) (by simpa using h))
theorem zCu {P:Slot K->Bool} (hs:P s = true):∀ {l:SL K} {i:Nat},l.all P = true->(l.set i s).all P = true
 | [],_,h=>h
 | _ :: _,0,h=>by rw [all_cons,Bool.and_eq_true] at h; rw [List.set_cons_zero,all_cons,Bool.and_eq_true]; exact ⟨hs,h.2⟩
 | _ :: l,i + 1,h=>by rw [all_cons,Bool.and_eq_true] at h; rw [List.set_cons_succ,all_cons,Bool.and_eq_true]; exact ⟨h.1,zCu hs h.2⟩
theorem At.chg {i:Nat} {n:Bool} {xs:List α} (h:At B sl F O H σ) (hs:sl[i]? = some (.ow n xs)) (hh:sl.all (λs=>!isHs s) = true):∃ p vs,σ[i]? = some (some (.ref p)) /\ H p = some (.lst vs) /\ A2 (rp K (reg B F H (mdb n))) vs xs /\
  ∀ (ws:List V) (ys:List α),A2 (rp K (reg B F H (mdb n))) ws ys->∃ O',At B (sl.set i (.ow n ys)) F O' (upd H p (.lst ws)) σ:=by
 obtain ⟨k,z0⟩:=h
 obtain ⟨O1,O2,p,vs,rfl,h1,h2,h3,_⟩:=z0.ow_at hs
 refine ⟨p,vs,h1,k.one.2.2,h2,λws ys r=>⟨_,k.chg (.lst ws),?_⟩⟩
 have z:=h3 (.ow n ys) (some (.ref p)) (p,.lst ws) λ_ _ _ z=>.ow r z
 rw [uJ h1] at z
 exact z.mut zRb (zCu rfl hh)
theorem At.chgD (h:At B sl F O H σ) (hs:sl[i]? = some (.od kvs)) (hh:sl.all (λs=>!isHs s) = true):∃ p ks,σ[i]? = some (some (.ref p)) /\ H p = some (.dK ks) /\ A2 (λ(x:Key × V) (y:Key × α)=>x.1 = y.1 /\ rp K F x.2 y.2) ks kvs /\
  ∀ (ws:List (Key × V)) (ys:List (Key × α)),A2 (λ(x:Key × V) (y:Key × α)=>x.1 = y.1 /\ rp K F x.2 y.2) ws ys->∃ O',At B (sl.set i (.od ys)) F O' (upd H p (.dK ws)) σ:=by
 obtain ⟨k,z0⟩:=h
 obtain ⟨O1,O2,p,vs,rfl,h1,h2,h3,_⟩:=z0.od_at hs
 refine ⟨p,vs,h1,k.one.2.2,h2,λws ys r=>⟨_,k.chg (.dK ws),?_⟩⟩
 have z:=h3 (.od ys) (some (.ref p)) (p,.dK ws) λ_ _ _ z=>.od r z
 rw [uJ h1] at z
 exact z.mut zRb (zCu rfl hh)
theorem xP (i:Nat) (hs:sl[i]? = some (.ow n xs)) (hh:sl.all (λs=>!isHs s) = true) (h:Ex B sl (mdb n) te m) :
  Sn B sl (zEf (tBM K "list" zBq (tVar i) (xF te tNil))) (λys=>sl.set i (.ow n ys)) (m.bind λa=>push xs a):=λys ha G D σ H s k=>by
 cases m with
 | none=>cases ha
 | some a =>
  have ha':push xs a = some ys:=ha
  unfold push at ha'
  split at ha'
  case isFalse=>cases ha'
  rename_i hl
  cases ha'
  obtain ⟨F,O,g,z⟩:=s
  obtain ⟨p,vs,h1,h2,h3,_⟩:=z.chg hs hh
  refine ⟨_,h1,.inl ⟨rfl,_,SqL.of h2⟩,?_⟩
  refine h a rfl F O H σ _ z λv F' H' gr r=>?_
  obtain ⟨p',vs',h1',h2',h3',h4'⟩:=(z.grow gr).chg hs hh
  have e:=h1.symm.trans h1'
  cases e
  obtain ⟨O',z'⟩:=h4' (vs' ++ [v]) (xs ++ [a]) (h3'.snoc r)
  exact ⟨p,vs',v,rfl,rfl,h2',zA0 (by rw [h3'.len]; exact hl),k _ _ ⟨F',O',g.trans gr.ff,z'⟩⟩
end
section
variable {K:PySem.W.Frag} {B:Bs} {F H F' H' G:Hp} {O:Own} {sl sl2:SL K} {σ:St} {md:Md} {α β γ:Type} [Rp K α] [Rp K β] [Rp K γ] {tb u v:TS} {te:TE} {m:Option α} {S S':Type} {al n:Bool}
theorem zB1 {S α β:Type} (step:S->α->Option (Out S β)):∀ (xs ys:List α) (s:S),uD step (xs ++ ys) s = (uD step xs s).bind λo=>o.thn λs'=>uD step ys s'
 | [],ys,s=>rfl
 | x :: xs,ys,s=>by
  show (step s x).bind _ = ((step s x).bind _).bind _
  cases step s x with
  | none=>rfl
  | some o =>
   cases o with
   | nx s'=>exact zB1 step xs ys s'
   | rt b=>rfl
theorem zK3 {S α β:Type} {step:S->α->Option (Out S β)} {xs:List α} {s a:S} {x:α} (h:uD step (xs.take i) s = some (.nx a)) (hx:xs[i]? = some x):uD step (xs.take (i + 1)) s = step a x:=by
 have e2:xs.take (i + 1) = xs.take i ++ [x]:=by rw [take_add_one,hx] <;> rfl
 rw [e2,zB1,h]
 show (step a x).bind _ = step a x
 cases step a x with
 | none=>rfl
 | some o=>cases o <;> rfl
theorem zNp {S α β:Type} {step:S->α->Option (Out S β)} {xs:List α} {s:S} {o:Out S β} {b:β} (h:uD step xs s = some o) (hi:uD step (xs.take i) s = some (.rt b)):o = .rt b:=by
 rw [<- take_append_drop i xs,zB1,hi] at h
 cases h
 rfl
theorem zK4 {S α β:Type} {step:S->α->Option (Out S β)} {xs:List α} {s:S} {o:Out S β} (i:Nat) (h:uD step xs s = some o):∃ o',uD step (xs.take i) s = some o':=by
 rw [<- take_append_drop i xs,zB1] at h
 cases q:uD step (xs.take i) s with
 | none=>rw [q] at h; cases h
 | some o'=>exact ⟨o',rfl⟩
def Yl (K:PySem.W.Frag) (B:Bs) (F':Hp) (n:Bool) (J:It) {α:Type} [Rp K α] (xs:List α):Prop:=∀ (i:Nat) (F2:Hp) (O2:Own) (H2:Hp),Same F' F2->Ok B F2 O2 H2 ->
 (xs.length <= i->J.stop i H2) /\ ∀ x,xs[i]? = some x->J.go i H2 /\ ∀ v H3,J.yld i H2 v H3->∃ F3,Grow B F2 H2 O2 F3 H3 /\ rp K (reg B F3 H3 (mdb n)) v x
def Ei (B:Bs) (sl:SL K) (n:Bool) (wi:TI) {α:Type} [Rp K α] (mi:Option (List α)):Prop :=
 ∀ xs,mi = some xs->∀ (F:Hp) (O:Own) (H:Hp) (σ:St) (R:It->Hp->Prop),At B sl F O H σ->(∀ (J:It) (F' H':Hp),Grow B F H O F' H'->Yl K B F' n J xs->R J H')->wi σ H R
def Tg (B:Bs) (sl:SL K) (n:Bool) (g:TG) {α:Type} [Rp K α] (L:α->SL K):Prop :=
 ∀ (v:V) (x:α) (F:Hp) (O:Own) (H:Hp) (σ:St) (Q:St->Hp->Prop),At B sl F O H σ->rp K (reg B F H (mdb n)) v x->(∀ σ',At B (L x) F O H σ'->Q σ' H)->g v σ H Q
theorem yK (i:Nat) (hs:sl[i]? = some s) (ho:isOw s = false):Tg B sl n (zAd i) (λx:α=>sl.set i (.fz n x)):=λv x F O H σ Q a r k=>k _ ⟨a.1,a.2.put (λ_ _ _ z=>.fz r z) hs ho⟩
theorem tup_reg (k:Ok B F O H) (h:reg B F H (mdb n) p = some o):H p = some o:=zAs k n p o h
theorem vX (i j:Nat) (hs:sl[i]? = some s) (ho:isOw s = false) (hs':∀ x:Slot K,(sl.set i x)[j]? = some s') (ho':isOw s' = false) :
  Tg B sl n (gTup K 2 (gCons (zAd i) (gCons (zAd j) gNil))) (λx:α × β=>(sl.set i (.fz n x.1)).set j (.fz n x.2)):=λv x F O H σ Q a r k=>by
 obtain ⟨p,w1,w2,rfl,h1,h2,h3⟩:=r
 refine ⟨p,[w1,w2],rfl,.inl (.inl (tup_reg a.1 h1)),rfl,w1,[w2],rfl,w2,[],rfl,rfl,?_⟩
 exact k _ ⟨a.1,(a.2.put (s':=.fz n x.1) (λ_ _ _ z=>.fz h2 z) hs ho).put (λ_ _ _ z=>.fz h3 z) (hs' _) ho'⟩
theorem wV {L:S->SL K} {Lx:S->α->SL K} {step:S->α->Option S} (s0:S) (h0:Le sl (L s0)) (hi:Ei B (L s0) n wi mi) (hg:∀ s,Tg B (L s) n g (Lx s)) (hb:∀ s x,Sn B (Lx s x) tb L (step s x)) :
  Sn B sl (tFor wi g tb) L (mi.bind λxs=>xC step xs s0):=λs1 hs1 G D σ H q k=>by
 cases mi with
 | none=>cases hs1
 | some xs =>
  have hs1:xC step xs s0 = some s1:=hs1
  obtain ⟨F,O,g0,a⟩:=q.le h0
  refine hi xs rfl F O H σ _ a λJ F' H' gr yl=>?_
  refine ⟨λi m σ H=>m = xs.length - i /\ i <= xs.length /\ ∃ s,xC step (xs.take i) s0 = some s /\ Sg B F' (L s) σ H,⟨xs.length,rfl,Nat.zero_le _,s0,rfl,F',O,.refl _,a.grow gr⟩,?_⟩
  rintro i m σ H ⟨rfl,hil,s,hs,F2,O2,sf,a2⟩
  obtain ⟨y1,y2⟩:=yl i F2 O2 H sf a2.1
  by_cases hlt:i < xs.length
  ·obtain ⟨go,y3⟩:=y2 xs[i] (List.getElem?_eq_getElem hlt)
   obtain ⟨s',s'',e1,e2,e3⟩:=zE0 hs1 (List.getElem?_eq_getElem hlt)
   rw [hs] at e1
   cases e1
   refine .inr ⟨go,Sg B F' (L s''),λσ' H' z=>⟨xs.length - (i + 1),by omega,rfl,hlt,s'',e3,z⟩,λv H3 yd=>?_⟩
   obtain ⟨F3,g3,r3⟩:=y3 v H3 yd
   exact hg s v xs[i] F3 O2 H3 σ _ (a2.grow g3) r3 λσ' a'=>hb s xs[i] s'' e2 F' _ σ' H3 ⟨F3,O2,sf.trans g3.ff,a'⟩ λσ2 H2 z=>z
  ·have e:i = xs.length:=by omega
   subst e
   rw [take_length,hs1] at hs
   cases hs
   exact .inl ⟨y1 (Nat.le_refl _),k σ H ⟨F2,O2,(g0.trans gr.ff).trans sf,a2⟩⟩
theorem zI5 {L:S->SL K} {Lx:S->α->SL K} {step:S->α->Option (Out S β)} (s0:S) (h0:Le sl (L s0)) (hi:Ei B (L s0) n wi mi) (hg:∀ s,Tg B (L s) n g (Lx s)) (hb:∀ s x,Sx B (Lx s x) tb al L (step s x)) :
  Sx B sl (tFor wi g tb) al L (mi.bind λxs=>uD step xs s0):=λo ho G D σ H q k=>by
 cases mi with
 | none=>cases ho
 | some xs =>
  have ho:uD step xs s0 = some o:=ho
  obtain ⟨F,O,g0,a⟩:=q.le h0
  refine hi xs rfl F O H σ _ a λJ F' H' gr yl=>?_
  refine ⟨λi m σ H=>m = xs.length - i /\ i <= xs.length /\ ∃ s,uD step (xs.take i) s0 = some (.nx s) /\ Sg B F' (L s) σ H,⟨xs.length,rfl,Nat.zero_le _,s0,rfl,F',O,.refl _,a.grow gr⟩,?_⟩
  rintro i m σ H ⟨rfl,hil,s,hs,F2,O2,sf,a2⟩
  obtain ⟨y1,y2⟩:=yl i F2 O2 H sf a2.1
  by_cases hlt:i < xs.length
  ·obtain ⟨go,y3⟩:=y2 xs[i] (List.getElem?_eq_getElem hlt)
   have e2:=zK3 hs (List.getElem?_eq_getElem hlt)
   obtain ⟨o',e3⟩:=zK4 (i + 1) ho
   refine .inr ⟨go,λσ H=>∃ s',o' = .nx s' /\ Sg B F' (L s') σ H,λσ' H' ⟨s',e,z⟩=>⟨xs.length - (i + 1),by omega,rfl,hlt,s',by rw [e3,e],z⟩,λv H3 yd=>?_⟩
   obtain ⟨F3,g3,r3⟩:=y3 v H3 yd
   refine hg s v xs[i] F3 O2 H3 σ _ (a2.grow g3) r3 λσ' a'=>hb s xs[i] o' (by rw [<- e2,e3]) F' _ σ' H3 ⟨F3,O2,sf.trans g3.ff,a'⟩ ?_
   cases o' with
   | nx s'=>exact λσ2 H2 z=>⟨s',rfl,z⟩
   | rt b =>
    have:=zNp ho e3
    subst this
    exact k
  ·have e:i = xs.length:=by omega
   subst e
   rw [take_length,ho] at hs
   cases hs
   exact .inl ⟨y1 (Nat.le_refl _),k σ H ⟨F2,O2,(g0.trans gr.ff).trans sf,a2⟩⟩
theorem zOz {L:S->SL K} {cM:S->Option Bool} {bM:S->Option S} (fuel:Nat) (s0:S) (h0:Le sl (L s0)) (hc:∀ s,Et B (L s) c (cM s)) (hb:∀ s,Sn B (L s) tb L (bM s)):Sn B sl (zQn c tb) L (zCx cM bM fuel s0):=λs1 hs1 G D σ H q k=>by
 refine ⟨λm σ H=>∃ s,zCx cM bM m s = some s1 /\ Sg B G (L s) σ H,⟨fuel,s0,hs1,q.le h0⟩,?_⟩
 rintro m σ H ⟨s,hs,F,O,g,a⟩
 cases m with
 | zero=>cases hs
 | succ m =>
  have hs:((cM s).bind λb=>if b = true then (bM s).bind λs'=>zCx cM bM m s' else some s) = some s1:=hs
  cases e:cM s with
  | none=>rw [e] at hs; cases hs
  | some b =>
   rw [e] at hs
   refine hc s b e F O H σ _ a λF' H' gr=>?_
   cases b with
   | true =>
    have hs:((bM s).bind λs'=>zCx cM bM m s') = some s1:=by simpa using hs
    cases e2:bM s with
    | none=>rw [e2] at hs; cases hs
    | some s' =>
     rw [e2] at hs
     exact iteT ⟨Sg B G (L s'),λσ' H' z=>⟨m,Nat.lt_succ_self _,s',hs,z⟩,hb s s' e2 G _ σ H' (Sg.grow g a gr) λ_ _ z=>z⟩
   | false =>
    have hs:some s = some s1:=by simpa using hs
    cases hs
    exact iteF (k σ H' (Sg.grow g a gr))
theorem xM {mi:Option (List α)} (h:Ex B sl (mdb n) te mi):Ei B sl n (zK1 K te) mi:=λxs hx F O H σ R a k=>by
 refine h xs hx F O H σ _ a λv F' H' gr r=>?_
 obtain ⟨p,vs,rfl,h1,h2⟩:=r
 refine ⟨p,rfl,⟨vs,SqL.of (zAs gr.ok n p _ h1)⟩,k _ F' H' gr λi F2 O2 H2 sf k2=>?_⟩
 have hq:SqL K H2 p vs:=SqL.of (k2.fh _ _ (sf _ _ (by cases n with | true=>exact dif_le _ _ h1 | false=>exact h1)))
 refine ⟨λhl=>⟨vs,hq,by rw [h2.len]; exact hl⟩,λx hx=>?_⟩
 obtain ⟨w,hw,rw⟩:=h2.at2 hx
 refine ⟨⟨vs,w,hq,hw⟩,λv H3 yd=>?_⟩
 obtain ⟨e,y⟩:=yd
 subst e
 have:=(hw.symm.trans (y vs hq))
 cases this
 exact ⟨F2,.refl k2,Rp.mono (xJ n sf) rw⟩
theorem zFq {k i:Nat} {x:Int} (h:((List.range k).map Int.ofNat)[i]? = some x):i < k /\ x = i:=by
 rw [getElem?_map] at h
 by_cases q:i < k
 ·rw [getElem?_range q] at h; cases h; exact ⟨q,rfl⟩
 ·rw [List.getElem?_eq_none (by rw [length_range]; omega)] at h; cases h
theorem wJ (h:Ex B sl .hp te mi):Ei B sl n (iRng1 (xF te tNil)) (mi.bind wL):=λxs hx F O H σ R a k=>by
 cases mi with
 | none=>cases hx
 | some j =>
  have hx:wL j = some xs:=hx
  unfold wL at hx
  split at hx
  case isFalse=>cases hx
  rename_i hb
  cases hx
  refine h j rfl F O H σ _ a λv F' H' gr r=>?_
  cases r
  refine ⟨j,rfl,hb.1,hb.2,k _ F' H' gr λi F2 O2 H2 sf k2=>⟨λhl=>?_,λx hx=>?_⟩⟩
  ·rw [length_map,length_range] at hl; exact hl
  ·obtain ⟨h1,rfl⟩:=zFq hx
   refine ⟨h1,λv H3 yd=>?_⟩
   obtain ⟨rfl,rfl⟩:=yd
   exact ⟨F2,.refl k2,by show V.int (0 + (i:Int)) = V.int i; rw [Int.zero_add]⟩
def uF {α:Type} (xs:List α):List (Int × α):=((List.range xs.length).map Int.ofNat).zip xs
theorem zB3 {α:Type} {xs:List α} {i:Nat} {x:Int × α} (h:(uF xs)[i]? = some x):x.1 = i /\ xs[i]? = some x.2:=by
 unfold uF at h
 rw [List.getElem?_zip_eq_some] at h
 exact ⟨(zFq h.1).2,h.2⟩
theorem zD3 {α:Type} (xs:List α):(uF xs).length = xs.length:=by unfold uF; simp
theorem zCr {mi:Option (List α)} (h:Ex B sl (mdb n) te mi):Ei B sl n (iEnum K (xF te tNil)) (mi.bind λxs=>some (uF xs)):=λxs hx F O H σ R a k=>by
 cases mi with
 | none=>cases hx
 | some zs =>
  cases (show some (uF zs) = some xs from hx)
  refine h zs rfl F O H σ _ a λv F' H' gr r=>?_
  obtain ⟨p,vs,rfl,h1,h2⟩:=r
  refine ⟨p,rfl,⟨vs,SqL.of (zAs gr.ok n p _ h1)⟩,k _ F' H' gr λi F2 O2 H2 sf k2=>?_⟩
  have hq:SqL K H2 p vs:=SqL.of (k2.fh _ _ (sf _ _ (by cases n with | true=>exact dif_le _ _ h1 | false=>exact h1)))
  refine ⟨λhl=>⟨vs,hq,by rw [h2.len,<- zD3]; exact hl⟩,λx hx=>?_⟩
  obtain ⟨e1,e2⟩:=zB3 hx
  obtain ⟨w,hw,rw⟩:=h2.at2 e2
  refine ⟨⟨vs,w,hq,hw⟩,λv H3 yd=>?_⟩
  obtain ⟨t,x',rfl,ht,rfl,y⟩:=yd
  have:=(hw.symm.trans (y vs hq))
  cases this
  have g3:=Grow.new k2 ht (.tup [.int i,w])
  refine ⟨_,g3,t,.int i,w,rfl,?_,?_,Rp.mono (xJ n (sf.trans g3.ff)) rw⟩
  ·exact zH7 k2 ht (mdb n)
  ·rw [e1]; rfl
def xN {α β:Type} (c:α->Option Bool) (f:α->Option β) (xs:List α):Option (List β):=if xs.length < cap then xV c f xs else none
theorem zB4 {α β:Type} (c:α->Option Bool) (f:α->Option β):∀ (xs ys:List α),xV c f (xs ++ ys) = (xV c f xs).bind λa=>(xV c f ys).bind λb=>some (a ++ b)
 | [],ys=>by
  rw [nil_append]
  show xV c f ys = (xV c f ys).bind λb=>some ([] ++ b)
  cases xV c f ys <;> rfl
 | x :: xs,ys=>by
  show (c x).bind _ = ((c x).bind _).bind _
  cases c x with
  | none=>rfl
  | some b =>
   cases b with
   | true =>
    show (f x).bind _ = ((f x).bind _).bind _
    cases f x with
    | none=>rfl
    | some y =>
     show (xV c f (xs ++ ys)).bind _ = ((xV c f xs).bind _).bind _
     rw [zB4 c f xs ys]
     cases xV c f xs with
     | none=>rfl
     | some a =>
      show ((xV c f ys).bind _).bind _ = (xV c f ys).bind _
      cases xV c f ys <;> rfl
   | false=>exact zB4 c f xs ys
theorem zD4 {α β:Type} (c:α->Option Bool) (f:α->Option β):∀ {xs:List α} {ys:List β},xV c f xs = some ys->ys.length <= xs.length
 | [],ys,h=>by cases h; exact Nat.le_refl _
 | x :: xs,ys,h=>by
  have h:((c x).bind λb=>if b = true then (f x).bind λy=>(xV c f xs).bind λys=>some (y :: ys) else xV c f xs) = some ys:=h
  cases e:c x with
  | none=>rw [e] at h; cases h
  | some b =>
   rw [e] at h
   cases b with
   | true =>
    have h:((f x).bind λy=>(xV c f xs).bind λys=>some (y :: ys)) = some ys:=by simpa using h
    cases e2:f x with
    | none=>rw [e2] at h; cases h
    | some y =>
     rw [e2] at h
     cases e3:xV c f xs with
     | none=>rw [e3] at h; cases h
     | some zs =>
      rw [e3] at h
      cases h
      exact Nat.succ_le_succ (zD4 c f e3)
   | false =>
    have h:xV c f xs = some ys:=by simpa using h
    exact Nat.le_succ_of_le (zD4 c f h)
theorem zLa {α β:Type} {c:α->Option Bool} {f:α->Option β} {xs:List α} {zs:List β} (i:Nat) (h:xV c f xs = some zs):∃ ys,xV c f (xs.take i) = some ys:=by
 rw [<- take_append_drop i xs,zB4] at h
 cases q:xV c f (xs.take i) with
 | none=>rw [q] at h; cases h
 | some o'=>exact ⟨o',rfl⟩
theorem zLb {α β:Type} {c:α->Option Bool} {f:α->Option β} {xs:List α} {zs ys:List β} {x:α} (h:xV c f (xs.take (i + 1)) = some zs) (hy:xV c f (xs.take i) = some ys) (hx:xs[i]? = some x) :
  (c x = some false /\ zs = ys) \/ ∃ y,c x = some true /\ f x = some y /\ zs = ys ++ [y]:=by
 have e2:xs.take (i + 1) = xs.take i ++ [x]:=by rw [take_add_one,hx] <;> rfl
 rw [e2,zB4,hy] at h
 have h:(((c x).bind λb=>if b = true then (f x).bind λy=>some [y] else some []).bind λb=>some (ys ++ b)) = some zs:=h
 cases e:c x with
 | none=>rw [e] at h; cases h
 | some b =>
  rw [e] at h
  cases b with
  | true =>
   have h:(((f x).bind λy=>some [y]).bind λb=>some (ys ++ b)) = some zs:=by simpa using h
   cases e2:f x with
   | none=>rw [e2] at h; cases h
   | some y=>rw [e2] at h; cases h; exact .inr ⟨y,rfl,rfl,rfl⟩
  | false =>
   have h:some (ys ++ []) = some zs:=by simpa using h
   rw [append_nil] at h
   cases h
   exact .inl ⟨rfl,rfl⟩
abbrev capS:Slot K->Slot K
 | .un=>.un
 | @Slot.fz _ n _ i a=>@Slot.fz _ n _ i a
 | @Slot.hs _ _ i a=>@Slot.hs _ _ i a
 | @Slot.nu _ _ i a=>@Slot.hs _ _ i a
 | @Slot.ow _ _ _ i xs=>@Slot.hs _ _ _ xs
 | @Slot.od _ _ _ _=>.un
 | @Slot.ob _ _ _ _ _=>.un
theorem Grow.lift (k:Ok B F O H) (g:Grow B F H [] F' H'):Grow B F H O F' H' :=
 ⟨g.ff,g.hh,⟨g.ok.fh,g.ok.h0,g.ok.fa,λx hx=>by
  obtain ⟨a1,a2,a3⟩:=k.fo x hx
  exact ⟨g.nw _ a1 (by rw [a3]; intro z; cases z),a2,g.hh _ _ a3⟩,k.nd⟩,g.nw⟩
theorem Ok.nil (k:Ok B F O H):Ok B F [] H:=⟨k.fh,k.h0,k.fa,λx hx=>(by cases hx),(by simp)⟩
theorem SlotsOk.one (a:At B sl F O H σ) (L:Hp) (j:Nat) (hs:sl[j]? = some s):∀ {sl':SL K} {σ':St},SlotsOk B F L H sl' σ' []->SlotsOk B F L H (capS s :: sl') ((σ[j]?).getD none :: σ') []:=λ{sl' σ'} h=>by
 cases s with
 | un=>exact .un h
 | fz n b=>obtain ⟨v,h1,h2⟩:=a.2.fz_at hs; rw [h1]; exact .fz h2 h
 | hs b=>obtain ⟨v,h1,h2⟩:=a.2.hs_at hs; rw [h1]; exact .hs h2 h
 | nu b=>obtain ⟨v,h1,h2⟩:=a.2.nu_at hs; rw [h1]; exact .hs (Rp.mono (dif_le.trans zPs) h2) h
 | ow n xs =>
  obtain ⟨k,z0⟩:=a
  obtain ⟨O1,O2,p,vs,rfl,h1,h2,_⟩:=z0.ow_at hs
  rw [h1]
  exact .hs ⟨p,vs,rfl,k.one.2.2,h2.imp λ_ _=>Rp.mono (zAs k n)⟩ h
 | od kvs=>exact .un h
 | ob n a=>exact .un h
def slIn (sl:SL K) (n:Nat) (ix:List Nat):SL K:=replicate n .un ++ ix.map λj=>capS ((sl[j]?).getD .un)
theorem slIn_ok (a:At B sl F O H σ) (L:Hp) (n:Nat):∀ (ix:List Nat),(∀ j ∈ ix,j < sl.length)->SlotsOk B F L H (slIn sl n ix) (σIn σ n ix) []:=λix hix=>by
 unfold slIn σIn
 induction n with
 | zero =>
  show SlotsOk B F L H ([] ++ _) ([] ++ _) []
  rw [nil_append,nil_append]
  induction ix with
  | nil=>exact .nil
  | cons j ix ih =>
   rw [map_cons,map_cons]
   have hl:=hix j mem_cons_self
   have hj:sl[j]? = some sl[j]:=List.getElem?_eq_getElem hl
   have z:=SlotsOk.one a L j hj (ih λk hk=>hix k (mem_cons_of_mem _ hk))
   rw [show (sl[j]?).getD .un = sl[j] by rw [hj] <;> rfl]
   exact z
 | succ n ih=>exact .un ih
inductive Le0:SL K->SL K->Prop
 | nil:Le0 [] []
 | eq {s:Slot K} {a b:SL K}:Le0 a b->Le0 (s :: a) (s :: b)
 | un {s:Slot K} {a b:SL K}:Le0 a b->Le0 (s :: a) (.un :: b)
theorem SlotsOk.le1 (l:Le0 sl sl2):∀ {σ:St} {O:Own},SlotsOk B F L H sl σ O->O = []->SlotsOk B F L H sl2 σ []:=by
 induction l with
 | nil=>intro σ O h e; subst e; exact h
 | eq _ ih =>
  intro σ O h e
  cases h with
  | un h=>exact .un (ih h e)
  | fz r h=>exact .fz r (ih h e)
  | hs r h=>exact .hs r (ih h e)
  | nu r h=>exact .nu r (ih h e)
  | ow r h=>cases e
  | od r h=>cases e
  | ob r h =>
   obtain ⟨e1,e2⟩:=List.append_eq_nil_iff.mp e
   subst e1
   exact .ob r (ih h e2)
 | un _ ih =>
  intro σ O h e
  cases h with
  | un h=>exact .un (ih h e)
  | fz r h=>exact .un (ih h e)
  | hs r h=>exact .un (ih h e)
  | nu r h=>exact .un (ih h e)
  | ow r h=>cases e
  | od r h=>cases e
  | ob r h=>exact .un (ih h (List.append_eq_nil_iff.mp e).2)
theorem SlotsOk.le0 (l:Le0 sl sl2) (h:SlotsOk B F L H sl σ []):SlotsOk B F L H sl2 σ []:=h.le1 l rfl
theorem wE {c:α->Option Bool} {f:α->Option β} {ix:List Nat} (hix:(ix.all λj=>decide (j < sl.length)) = true) (hI:slI = slIn sl no ix)
  (hi:Ei B sl n wi mi) (hg:Tg B slI n g Lx) (hc:∀ x,Et B (Lx x) tc (c x)) (he:∀ x,Ex B (Lx x) md te (f x)) (hle:∀ x,Le0 (Lx x) slI) :
  Eo B sl md (zOu no ix wi g tc te) (mi.bind λxs=>xN c f xs):=λzs hz F O H σ Q a k=>by
 cases mi with
 | none=>cases hz
 | some xs =>
  have hz:xN c f xs = some zs:=hz
  unfold xN at hz
  split at hz
  case isFalse=>cases hz
  rename_i hcap
  have hcl:=zA0 hcap
  refine hi xs rfl F O H σ _ a λJ F' H' gr yl=>?_
  have a':=a.grow gr
  refine ⟨λi m ys σ2 H2=>m = xs.length - i /\ i <= xs.length /\ ∃ (F2:Hp) (ws:List β),xV c f (xs.take i) = some ws /\ Grow B F' H' O F2 H2 /\ SlotsOk B F2 (lo F2 [] H2) H2 slI σ2 [] /\ A2 (rp K (reg B F2 H2 md)) ys ws,
   ⟨xs.length,rfl,Nat.zero_le _,F',[],rfl,.refl a'.1,?_,trivial⟩,?_⟩
  ·rw [hI]
   exact slIn_ok a' _ no ix λj hj=>by simpa using (all_eq_true.mp hix) j hj
  rintro i m ys σ2 H2 ⟨rfl,hil,F2,ws,hw,g2,s2,r2⟩
  have hyl:ys.length <= xs.length:=by
   rw [r2.len]
   exact Nat.le_trans (zD4 c f hw) (by rw [length_take]; omega)
  obtain ⟨y1,y2⟩:=yl i F2 O H2 g2.ff g2.ok
  by_cases hlt:i < xs.length
  ·obtain ⟨go,y3⟩:=y2 xs[i] (List.getElem?_eq_getElem hlt)
   obtain ⟨ws',hw'⟩:=zLa (i + 1) hz
   refine .inr ⟨go,by omega,λys σ2 H2=>∃ (F2:Hp),Grow B F' H' O F2 H2 /\ SlotsOk B F2 (lo F2 [] H2) H2 slI σ2 [] /\ A2 (rp K (reg B F2 H2 md)) ys ws',λys' σ' H' ⟨F3,z1,z2,z3⟩=>⟨xs.length - (i + 1),by omega,rfl,hlt,F3,ws',hw',z1,z2,z3⟩,λv H3 yd=>?_⟩
   obtain ⟨F3,g3,r3⟩:=y3 v H3 yd
   have g23:=g2.trans g3
   have at3:At B slI F3 [] H3 σ2:=⟨g3.ok.nil,s2.mono g3.ff (zNa ⟨g3.ff,g3.hh,g3.ok.nil,g3.nw⟩) g3.hh⟩
   refine hg v xs[i] F3 [] H3 σ2 _ at3 r3 λσ4 a4=>?_
   have back:∀ {F5 H5:Hp},Grow B F3 H3 [] F5 H5->Grow B F' H' O F5 H5 /\ SlotsOk B F5 (lo F5 [] H5) H5 slI σ4 []:=λ{F5 H5} g5=>⟨g23.trans (Grow.lift g3.ok g5),(a4.grow g5).2.le0 (hle xs[i])⟩
   rcases zLb hw' hw (List.getElem?_eq_getElem hlt) with ⟨e1,rfl⟩ | ⟨y,e1,e2,rfl⟩
   ·refine hc xs[i] false e1 F3 [] H3 σ4 _ a4 λF5 H5 g5=>iteF ?_
    obtain ⟨z1,z2⟩:=back g5
    exact ⟨F5,z1,z2,r2.imp λ_ _=>Rp.mono (wA (g3.trans (Grow.lift g3.ok g5)) md)⟩
   ·refine hc xs[i] true e1 F3 [] H3 σ4 _ a4 λF5 H5 g5=>iteT ?_
    refine he xs[i] y e2 F5 [] H5 σ4 _ (a4.grow g5) λw F6 H6 g6 r6=>?_
    obtain ⟨z1,z2⟩:=back (g5.trans g6)
    exact ⟨F6,z1,z2,(r2.imp λ_ _=>Rp.mono (wA (g3.trans (Grow.lift g3.ok (g5.trans g6))) md)).snoc r6⟩
  ·have e:i = xs.length:=by omega
   subst e
   rw [take_length,hz] at hw
   cases hw
   exact .inl ⟨y1 (Nat.le_refl _),by omega,λp hp=>k p ys F2 H2 (gr.trans g2) hp r2⟩
abbrev isF:Slot K->Bool
 | @Slot.fz _ false _ _ _=>true
 | _=>false
theorem zDg {as:SL K} (k:Nat) (hf:as.all isF = true) (r:Ar F as vs):SlotsOk ⟨F,H⟩ F L' H (as ++ replicate k .un) (vs.map some ++ replicate k none) []:=by
 induction r with
 | nil =>
  show SlotsOk _ _ _ _ ([] ++ _) ([] ++ _) []
  rw [nil_append,nil_append]
  induction k with
  | zero=>exact .nil
  | succ k ih=>exact .un ih
 | @cons n _ _ _ _ _ _ r _ ih =>
  rw [all_cons,Bool.and_eq_true] at hf
  cases n with
  | false=>exact .fz r (ih hf.2)
  | true=>exact absurd hf.1 (by simp)
theorem Ar.len (r:Ar F as vs):vs.length = as.length:=by
 induction r with
 | nil=>rfl
 | cons _ _ ih=>rw [length_cons,length_cons,ih]
theorem zOx {A:Type} {as:A->SL K} {f:A->Option β} {N:List Str} (hf:∀ a,(as a).all isF = true) (hl:∀ a,(as a).length = np)
  (hb:∀ Fa a,SB ⟨Fa,H⟩ (as a ++ replicate (N.length - np) .un) t al (f a)) (h:spF K al as f vs H Q E):t { nx:=λ_ H'=>Q .non H',rt:=Q } (L2.start N vs) H:=by
 obtain ⟨a,b,Fa,s,hfa,r,q⟩:=h
 have e:L2.start N vs = vs.map some ++ replicate (N.length - np) none:=by
  unfold L2.start
  rw [r.len,hl]
 rw [e]
 refine hb Fa a b hfa Fa _ _ H ⟨Fa,[],.refl _,⟨s,.refl _,λb o h=>.inl h,λx hx=>(by cases hx),(by simp)⟩,zDg _ (hf a) r⟩ (λv H' z=>q v H' z.1 z.2)
theorem zQs {A:Type} {as:A->SL K} {f:A->Option β} (hl:∀ a,(as a).length = np) (h:spF K al as f vs H Q E):vs.length = np:=by
 obtain ⟨a,b,Fa,s,hfa,r,q⟩:=h
 rw [r.len,hl]
end
open PySem.SeqAt (EqAt RcAt RcNeAt)
class Eqv (K:PySem.W.Frag) (α:Type) [Rp K α] [DecidableEq α] where
 dep:Nat
 det:∀ {H:Hp} {v:V} {a b:α},rp K H v a->rp K H v b->a = b
 eqA:∀ {X:Cx} {pins:List (Addr × Obj)} {σ:St} {H:Hp} {s:Shared},Inv X pins σ H s->∀ {A:Around},A.units + dep < cLine->∀ {v w:V} {u u':Value} {a b:α},rp K H v a->rp K H w b->RelV v u->RelV w u'->EqAt A s u u' (decide (a = b))
 rcA:∀ {X:Cx} {pins:List (Addr × Obj)} {σ:St} {H:Hp} {s:Shared},Inv X pins σ H s->∀ {A:Around},A.units + dep < cLine->∀ {v w:V} {u u':Value} {a b:α},rp K H v a->rp K H w b->RelV v u->RelV w u'->RcAt A s u u' (decide (a = b))
 neA:∀ {X:Cx} {pins:List (Addr × Obj)} {σ:St} {H:Hp} {s:Shared},Inv X pins σ H s->∀ {A:Around},A.units + dep < cLine->∀ {v w:V} {u u':Value} {a b:α},rp K H v a->rp K H w b->RelV v u->RelV w u'->RcNeAt A s u u' (!decide (a = b))
section
variable {K:PySem.W.Frag}
theorem beqd {α:Type} [BEq α] [LawfulBEq α] [DecidableEq α] (a b:α):(a == b) = decide (a = b):=by
 by_cases h:a = b
 ·subst h; simp
 ·simp [h]
instance:Eqv K Int where
 dep:=0
 det h1 h2:=by cases h1; cases h2; rfl
 eqA _ _ _ _ _ _ _ _ _ h1 h2 r1 r2:=by cases h1; cases h2; obtain ⟨t,rfl⟩:=r1; obtain ⟨t',rfl⟩:=r2; rw [<- beqd]; exact EqAt.int_int _ _ _ _
 rcA _ _ _ _ _ _ _ _ _ h1 h2 r1 r2:=by cases h1; cases h2; obtain ⟨t,rfl⟩:=r1; obtain ⟨t',rfl⟩:=r2; rw [<- beqd]; exact RcAt.int_int _ _ _ _
 neA _ _ _ _ _ _ _ _ _ h1 h2 r1 r2:=by cases h1; cases h2; obtain ⟨t,rfl⟩:=r1; obtain ⟨t',rfl⟩:=r2; rw [<- beqd]; exact RcNeAt.int_int _ _ _ _
instance:Eqv K Str where
 dep:=0
 det h1 h2:=by cases h1; cases h2; rfl
 eqA _ _ _ _ _ _ _ _ _ h1 h2 r1 r2:=by cases h1; cases h2; obtain ⟨t,rfl⟩:=r1; obtain ⟨t',rfl⟩:=r2; rw [<- beqd]; exact EqAt.str_str _ _ _ _
 rcA _ _ _ _ _ _ _ _ _ h1 h2 r1 r2:=by cases h1; cases h2; obtain ⟨t,rfl⟩:=r1; obtain ⟨t',rfl⟩:=r2; rw [<- beqd]; exact RcAt.str_str _ _ _ _
 neA _ _ _ _ _ _ _ _ _ h1 h2 r1 r2:=by cases h1; cases h2; obtain ⟨t,rfl⟩:=r1; obtain ⟨t',rfl⟩:=r2; rw [<- beqd]; exact RcNeAt.str_str _ _ _ _
instance:Eqv K Bool where
 dep:=0
 det h1 h2:=by cases h1; cases h2; rfl
 eqA _ _ _ _ _ _ _ _ _ h1 h2 r1 r2:=by cases h1; cases h2; cases r1; cases r2; rw [<- beqd]; exact EqAt.bool_bool _ _
 rcA _ _ _ _ _ _ _ _ _ h1 h2 r1 r2:=by cases h1; cases h2; cases r1; cases r2; rw [<- beqd]; exact RcAt.bool_bool _ _
 neA _ _ _ _ _ _ _ _ _ h1 h2 r1 r2:=by cases h1; cases h2; cases r1; cases r2; rw [<- beqd]; exact RcNeAt.bool_bool _ _
theorem zMu {a b:Int}:decide (some a = some b) = decide (a = b):=by simp
instance:Eqv K (Option Int) where
 dep:=0
 det {H v a b} h1 h2:=by
  cases a with
  | none=>cases b with
   | none=>rfl
   | some y=>exact absurd h1 h2.1
  | some x=>cases b with
   | none=>exact absurd h2 h1.1
   | some y=>cases h1.2; cases h2.2; rfl
 eqA {X pins σ H s} _ {A} _ {v w u u' a b} h1 h2 r1 r2:=by
  cases a with
  | none =>
   cases h1; cases r1
   cases b with
   | none=>cases h2; cases r2; exact EqAt.same _
   | some y=>cases h2.2; obtain ⟨t',rfl⟩:=r2; exact EqAt.none_int _ _
  | some x =>
   cases h1.2; obtain ⟨t,rfl⟩:=r1
   cases b with
   | none=>cases h2; cases r2; exact EqAt.int_none _ _
   | some y=>cases h2.2; obtain ⟨t',rfl⟩:=r2; rw [zMu,<- beqd]; exact EqAt.int_int _ _ _ _
 rcA {X pins σ H s} _ {A} _ {v w u u' a b} h1 h2 r1 r2:=by
  cases a with
  | none =>
   cases h1; cases r1
   cases b with
   | none=>cases h2; cases r2; exact RcAt.none_none
   | some y=>cases h2.2; obtain ⟨t',rfl⟩:=r2; exact RcAt.none_int _ _
  | some x =>
   cases h1.2; obtain ⟨t,rfl⟩:=r1
   cases b with
   | none=>cases h2; cases r2; exact RcAt.int_none _ _
   | some y=>cases h2.2; obtain ⟨t',rfl⟩:=r2; rw [zMu,<- beqd]; exact RcAt.int_int _ _ _ _
 neA {X pins σ H s} _ {A} _ {v w u u' a b} h1 h2 r1 r2:=by
  cases a with
  | none =>
   cases h1; cases r1
   cases b with
   | none=>cases h2; cases r2; exact RcNeAt.none_none
   | some y=>cases h2.2; obtain ⟨t',rfl⟩:=r2; exact RcNeAt.none_int _ _
  | some x =>
   cases h1.2; obtain ⟨t,rfl⟩:=r1
   cases b with
   | none=>cases h2; cases r2; exact RcNeAt.int_none _ _
   | some y=>cases h2.2; obtain ⟨t',rfl⟩:=r2; rw [zMu,<- beqd]; exact RcNeAt.int_int _ _ _ _
theorem A2.det {α β:Type} {R:α->β->Prop} (h:∀ x y z,R x y->R x z->y = z):∀ {xs:List α} {ys zs:List β},A2 R xs ys->A2 R xs zs->ys = zs
 | [],[],[],_,_=>rfl
 | _ :: _,_ :: _,_ :: _,h1,h2=>by rw [h _ _ _ h1.1 h2.1,A2.det h h1.2 h2.2]
 | [],_ :: _,_,h1,_=>h1.elim
 | [],[],_ :: _,_,h2=>h2.elim
 | _ :: _,[],_,h1,_=>h1.elim
 | _ :: _,_ :: _,[],_,h2=>h2.elim
theorem uL {α:Type} [DecidableEq α]:∀ {xs ys:List α},xs.length = ys.length->((List.range xs.length).all λj=>decide (xs[j]? = ys[j]?)) = decide (xs = ys)
 | [],[],_=>by simp
 | x :: xs,y :: ys,h=>by
  have ih:=uL (xs:=xs) (ys:=ys) (by simpa using h)
  rw [length_cons,range_succ_eq_map,all_cons,List.all_map]
  have e:((λj=>decide ((x :: xs)[j]? = (y :: ys)[j]?)) ∘ Nat.succ) = λj=>decide (xs[j]? = ys[j]?):=by
   funext j
   simp
  rw [e,ih]
  by_cases h1:x = y <;> by_cases h2:xs = ys <;> simp [h1,h2]
 | [],_ :: _,h=>by simp at h
 | _ :: _,[],h=>by simp at h
theorem zLg {α:Type} [Rp K α] {xs:List α} (r:Vals vs us) (h:A2 (rp K H) vs xs) (j:Nat) (hj:j < us.toArray.size):∃ v x,xs[j]? = some x /\ rp K H v x /\ RelV v us.toArray[j]:=by
 have l1:j < vs.length:=by rw [r.length]; simpa using hj
 obtain ⟨u,hu,ru⟩:=r.get (List.getElem?_eq_getElem l1)
 obtain ⟨x,hx,rx⟩:=h.at1 (List.getElem?_eq_getElem l1)
 refine ⟨vs[j],x,hx,rx,?_⟩
 have e1:us.toArray[j] = u:=by
  have:us[j]? = some u:=hu
  rw [List.getElem?_eq_getElem (by simpa using hj)] at this
  simpa using this
 rw [e1]
 exact ru
theorem uW {A:Around}:A.in1.units = A.units + 1:=rfl
instance {α:Type} [Rp K α] [DecidableEq α] [Eqv K α]:Eqv K (List α) where
 dep:=Eqv.dep K α + 1
 det {H v a b} h1 h2:=by
  obtain ⟨p,vs,rfl,h1,r1⟩:=h1
  obtain ⟨p',vs',e,h2,r2⟩:=h2
  cases e
  cases h1.symm.trans h2
  exact A2.det (R:=rp K H) (λ_ _ _ z1 z2=>Eqv.det (K:=K) z1 z2) r1 r2
 rcA {X pins σ H s} I {A} hu {v w u u' a b} h1 h2 q1 q2:=by
  obtain ⟨p,vs,rfl,h1,r1⟩:=h1
  obtain ⟨p',ws,rfl,h2,r2⟩:=h2
  cases q1; cases q2
  obtain ⟨us,s1,p1,_⟩:=I.list (SqL.of h1)
  obtain ⟨us',s2,p2,_⟩:=I.list (SqL.of h2)
  have n1:us.toArray.size = a.length:=by rw [size_toArray,<- r1.len]; exact s1.length.symm
  have n2:us'.toArray.size = b.length:=by rw [size_toArray,<- r2.len]; exact s2.length.symm
  by_cases hl:a.length = b.length
  ·have z:=RcAt.lists (e:=λj=>decide (a[j]? = b[j]?)) p1.isList p2.isList (by rw [n1,n2]; exact hl) (Nat.lt_of_le_of_lt (Nat.le_add_right _ _) hu) (λj h1 h2=>by
    obtain ⟨v,x,e1,e2,e3⟩:=zLg s1 r1 j h1
    obtain ⟨w,y,f1,f2,f3⟩:=zLg s2 r2 j h2
    rw [e1,f1]
    have z:=Eqv.eqA (K:=K) I (A:=A.in1) (by rw [uW]; omega) e2 f2 e3 f3
    simpa using z)
   rw [n1,uL hl] at z
   exact z
  ·rw [show decide (a = b) = false by simp; intro e; exact hl (by rw [e])]
   exact RcAt.lists_lengths p1.isList p2.isList (by rw [n1,n2]; exact bne_iff_ne.mpr hl) (Nat.lt_of_le_of_lt (Nat.le_add_right _ _) hu)
 neA {X pins σ H s} I {A} hu {v w u u' a b} h1 h2 q1 q2:=by
  obtain ⟨p,vs,rfl,h1,r1⟩:=h1
  obtain ⟨p',ws,rfl,h2,r2⟩:=h2
  cases q1; cases q2
  obtain ⟨us,s1,p1,_⟩:=I.list (SqL.of h1)
  obtain ⟨us',s2,p2,_⟩:=I.list (SqL.of h2)
  have n1:us.toArray.size = a.length:=by rw [size_toArray,<- r1.len]; exact s1.length.symm
  have n2:us'.toArray.size = b.length:=by rw [size_toArray,<- r2.len]; exact s2.length.symm
  by_cases hl:a.length = b.length
  ·have z:=RcNeAt.lists (e:=λj=>decide (a[j]? = b[j]?)) p1.isList p2.isList (by rw [n1,n2]; exact hl) (Nat.lt_of_le_of_lt (Nat.le_add_right _ _) hu) (λj h1 h2=>by
    obtain ⟨v,x,e1,e2,e3⟩:=zLg s1 r1 j h1
    obtain ⟨w,y,f1,f2,f3⟩:=zLg s2 r2 j h2
    rw [e1,f1]
    have z:=Eqv.eqA (K:=K) I (A:=A.in1) (by rw [uW]; omega) e2 f2 e3 f3
    simpa using z)
   rw [n1,uL hl] at z
   exact z
  ·rw [show decide (a = b) = false by simp; intro e; exact hl (by rw [e])]
   exact RcNeAt.lists_lengths p1.isList p2.isList (by rw [n1,n2]; exact bne_iff_ne.mpr hl) (Nat.lt_of_le_of_lt (Nat.le_add_right _ _) hu)
 eqA {X pins σ H s} I {A} hu {v w u u' a b} h1 h2 q1 q2:=by
  obtain ⟨p,vs,rfl,h1,r1⟩:=h1
  obtain ⟨p',ws,rfl,h2,r2⟩:=h2
  cases q1; cases q2
  by_cases hp:p = p'
  ·subst hp
   cases h1.symm.trans h2
   rw [show a = b from A2.det (R:=rp K H) (λ_ _ _ z1 z2=>Eqv.det (K:=K) z1 z2) r1 r2]
   simp
   exact EqAt.same _
  ·refine EqAt.of_refs hp ?_
   obtain ⟨us,s1,p1,_⟩:=I.list (SqL.of h1)
   obtain ⟨us',s2,p2,_⟩:=I.list (SqL.of h2)
   have n1:us.toArray.size = a.length:=by rw [size_toArray,<- r1.len]; exact s1.length.symm
   have n2:us'.toArray.size = b.length:=by rw [size_toArray,<- r2.len]; exact s2.length.symm
   by_cases hl:a.length = b.length
   ·have z:=RcAt.lists (e:=λj=>decide (a[j]? = b[j]?)) p1.isList p2.isList (by rw [n1,n2]; exact hl) (Nat.lt_of_le_of_lt (Nat.le_add_right _ _) hu) (λj h1 h2=>by
     obtain ⟨v,x,e1,e2,e3⟩:=zLg s1 r1 j h1
     obtain ⟨w,y,f1,f2,f3⟩:=zLg s2 r2 j h2
     rw [e1,f1]
     have z:=Eqv.eqA (K:=K) I (A:=A.in1) (by rw [uW]; omega) e2 f2 e3 f3
     simpa using z)
    rw [n1,uL hl] at z
    exact z
   ·rw [show decide (a = b) = false by simp; intro e; exact hl (by rw [e])]
    exact RcAt.lists_lengths p1.isList p2.isList (by rw [n1,n2]; exact bne_iff_ne.mpr hl) (Nat.lt_of_le_of_lt (Nat.le_add_right _ _) hu)
theorem zPk {α β:Type} [DecidableEq α] [DecidableEq β] (a b:α × β):((List.range (min 2 2)).all (λj=>if j = 0 then decide (a.1 = b.1) else decide (a.2 = b.2)) && ((2:Nat) == 2)) = decide (a = b):=by
 obtain ⟨a1,a2⟩:=a
 obtain ⟨b1,b2⟩:=b
 by_cases h1:a1 = b1 <;> by_cases h2:a2 = b2 <;> simp [range_succ,h1,h2]
theorem vals2 (h:Vals [v1,v2] us):∃ u1 u2,us = [u1,u2] /\ RelV v1 u1 /\ RelV v2 u2:=by
 cases h with
 | cons a1 h=>cases h with
  | cons a2 h=>cases h; exact ⟨_,_,rfl,a1,a2⟩
section
variable {α β:Type} [Rp K α] [DecidableEq α] [Eqv K α] [Rp K β] [DecidableEq β] [Eqv K β] {X:Cx} {pins:List (Addr × Obj)} {σ:St} {H:Hp} {s:Shared} {A:Around} {a b:α × β} {p p':Addr} {v1 v2 w1 w2:V}
theorem zKn (I:Inv X pins σ H s) (hu:A.units + (Eqv.dep K α + Eqv.dep K β + 1) < cLine) (r1:rp K H v1 a.1) (r2:rp K H v2 a.2) (z1:rp K H w1 b.1) (z2:rp K H w2 b.2) (a1:RelV v1 u1) (a2:RelV v2 u2) (b1:RelV w1 t1) (b2:RelV w2 t2) :
  ∀ (j:Nat) (h1:j < #[u1,u2].size) (h2:j < #[t1,t2].size),EqAt A.in1 s #[u1,u2][j] #[t1,t2][j] (if j = 0 then decide (a.1 = b.1) else decide (a.2 = b.2)):=by
 intro j h1 h2
 have hj:j = 0 \/ j = 1:=by
  have:j < 2:=h1
  omega
 rcases hj with rfl | rfl
 ·exact Eqv.eqA (K:=K) I (A:=A.in1) (by rw [uW]; omega) r1 z1 a1 b1
 ·exact Eqv.eqA (K:=K) I (A:=A.in1) (by rw [uW]; omega) r2 z2 a2 b2
theorem zIb (I:Inv X pins σ H s) (hu:A.units + (Eqv.dep K α + Eqv.dep K β + 1) < cLine) (h1:H p = some (.tup [v1,v2])) (h2:H p' = some (.tup [w1,w2])) (r1:rp K H v1 a.1) (r2:rp K H v2 a.2) (z1:rp K H w1 b.1) (z2:rp K H w2 b.2) :
  RcAt A s (.ref p) (.ref p') (decide (a = b)) /\ RcNeAt A s (.ref p) (.ref p') (!decide (a = b)):=by
 obtain ⟨us,s1,p1,_⟩:=I.tuple (.inl (.inl h1))
 obtain ⟨us',s2,p2,_⟩:=I.tuple (.inl (.inl h2))
 obtain ⟨u1,u2,rfl,a1,a2⟩:=vals2 s1
 obtain ⟨t1,t2,rfl,b1,b2⟩:=vals2 s2
 have he:=zKn (A:=A) I hu r1 r2 z1 z2 a1 a2 b1 b2
 have hu':A.units < cLine:=Nat.lt_of_le_of_lt (Nat.le_add_right _ _) hu
 have q1:=RcAt.tuples p1 p2 hu' he
 have q2:=RcNeAt.tuples p1 p2 hu' he
 rw [<- zPk]
 exact ⟨q1,q2⟩
end
instance {α β:Type} [Rp K α] [DecidableEq α] [Eqv K α] [Rp K β] [DecidableEq β] [Eqv K β]:Eqv K (α × β) where
 dep:=Eqv.dep K α + Eqv.dep K β + 1
 det {H v a b} h1 h2:=by
  obtain ⟨p,v1,v2,rfl,h1,r1,r2⟩:=h1
  obtain ⟨p',w1,w2,e,h2,q1,q2⟩:=h2
  cases e
  cases h1.symm.trans h2
  exact Prod.ext (Eqv.det (K:=K) r1 q1) (Eqv.det (K:=K) r2 q2)
 rcA {X pins σ H s} I {A} hu {v w u u' a b} h1 h2 q1 q2:=by
  obtain ⟨p,v1,v2,rfl,h1,r1,r2⟩:=h1
  obtain ⟨p',w1,w2,rfl,h2,z1,z2⟩:=h2
  cases q1; cases q2
  exact (zIb I hu h1 h2 r1 r2 z1 z2).1
 neA {X pins σ H s} I {A} hu {v w u u' a b} h1 h2 q1 q2:=by
  obtain ⟨p,v1,v2,rfl,h1,r1,r2⟩:=h1
  obtain ⟨p',w1,w2,rfl,h2,z1,z2⟩:=h2
  cases q1; cases q2
  exact (zIb I hu h1 h2 r1 r2 z1 z2).2
 eqA {X pins σ H s} I {A} hu {v w u u' a b} h1 h2 q1 q2:=by
  obtain ⟨p,v1,v2,rfl,h1,r1,r2⟩:=h1
  obtain ⟨p',w1,w2,rfl,h2,z1,z2⟩:=h2
  cases q1; cases q2
  by_cases hp:p = p'
  ·subst hp
   cases h1.symm.trans h2
   rw [show a = b from Prod.ext (Eqv.det (K:=K) r1 z1) (Eqv.det (K:=K) r2 z2)]
   simp
   exact EqAt.same _
  ·exact EqAt.of_refs hp (zIb I hu h1 h2 r1 r2 z1 z2).1
def rEqv (K:PySem.W.Frag) (α:Type) [Rp K α] [DecidableEq α] (neg:Bool):R2:=λx y H Q=>∃ a b:α,rp K H x a /\ rp K H y b /\ Q (.bl (if neg = true then !decide (a = b) else decide (a = b))) H
theorem wR (K:PySem.W.Frag) (α:Type) [Rp K α] [DecidableEq α] [Eqv K α] {X:Cx} (hr:Room k X.A) (hd:Eqv.dep K α <= 64:=by exact Nat.le_of_ble_eq_true rfl):OpR X (compareOp .Eq) (rEqv K α false):=by
 intro pins s σ H x y v u Q I rx ry h
 obtain ⟨a,b,h1,h2,q⟩:=h
 exact Eqv.rcA (K:=K) I (A:=X.A) (by have:=hr.units; omega) h1 h2 rx ry _ _ _ _ ⟨.bl (decide (a = b)),H,I,rfl,q⟩
theorem zDn (K:PySem.W.Frag) (α:Type) [Rp K α] [DecidableEq α] [Eqv K α] {X:Cx} (hr:Room k X.A) (hd:Eqv.dep K α <= 64:=by exact Nat.le_of_ble_eq_true rfl):OpR X (compareOp .NotEq) (rEqv K α true):=by
 intro pins s σ H x y v u Q I rx ry h
 obtain ⟨a,b,h1,h2,q⟩:=h
 exact Eqv.neA (K:=K) I (A:=X.A) (by have:=hr.units; omega) h1 h2 rx ry _ _ _ _ ⟨.bl (!decide (a = b)),H,I,rfl,q⟩
variable {B:Bs} {sl:SL K} {md md1:Md} {α β:Type} [Rp K α] [Rp K β] {t1 t2 t:TE}
theorem wS [DecidableEq α] {m1 m2:Option α} (h1:Ex B sl .hp t1 m1) (h2:Ex B sl .hp t2 m2):Ex B sl md (tOp (rEqv K α false) t1 t2) (m1.bind λa=>m2.bind λb=>some (decide (a = b))) :=
 zC6 (f:=λa b=>some (decide (a = b))) (λa b c v w H Q e r1 r2 q=>by cases e; exact ⟨a,b,r1,r2,q⟩) h1 h2
theorem zD0 [DecidableEq α] {m1 m2:Option α} (h1:Ex B sl .hp t1 m1) (h2:Ex B sl .hp t2 m2):Ex B sl md (tOp (rEqv K α true) t1 t2) (m1.bind λa=>m2.bind λb=>some (!decide (a = b))) :=
 zC6 (f:=λa b=>some (!decide (a = b))) (λa b c v w H Q e r1 r2 q=>by cases e; exact ⟨a,b,r1,r2,q⟩) h1 h2
section
variable {m1 m2:Option Int}
theorem zNw {g:Int->Int->V} {f:Int->Int->α} [Sc K α] (hg:∀ i j,g i j = Sc.val K (f i j)) (h1:Ex B sl .hp t1 m1) (h2:Ex B sl .hp t2 m2):Ex B sl md (tOp (rI0 g) t1 t2) (m1.bind λa=>m2.bind λb=>some (f a b)) :=
 zC6 (f:=λa b=>some (f a b)) (λa b c v w H Q e r1 r2 q=>by cases e; cases r1; cases r2; exact ⟨a,b,rfl,rfl,by rw [hg]; exact q⟩) h1 h2
theorem uE (h1:Ex B sl .hp t1 m1) (h2:Ex B sl .hp t2 m2):Ex B sl md (tOp (rI0 λi j=>.int (i + j)) t1 t2) (m1.bind λa=>m2.bind λb=>some (a + b)):=zNw (λ_ _=>rfl) h1 h2
theorem zK7 (h1:Ex B sl .hp t1 m1) (h2:Ex B sl .hp t2 m2):Ex B sl md (tOp (rI0 λi j=>.bl (decide (i < j))) t1 t2) (m1.bind λa=>m2.bind λb=>some (decide (a < b))):=zNw (λ_ _=>rfl) h1 h2
theorem ex_gt (h1:Ex B sl .hp t1 m1) (h2:Ex B sl .hp t2 m2):Ex B sl md (tOp (rI0 λi j=>.bl (decide (j < i))) t1 t2) (m1.bind λa=>m2.bind λb=>some (decide (b < a))):=zNw (λ_ _=>rfl) h1 h2
def mulM (a b:Int):Option Int:=if (-(2 ^ 64) < a /\ a < 2 ^ 64) \/ (-(2 ^ 64) < b /\ b < 2 ^ 64) then some (a * b) else none
def modM (a b:Int):Option Int:=if 0 < b then some (a % b) else none
def divM (a b:Int):Option Int:=if 0 < b /\ b < 1073741824 then some (a / b) else none
def powM (a b:Int):Option Int:=if 0 <= b /\ b <= 1000000 /\ a.natAbs < 2 ^ 64 then some (a ^ b.toNat) else none
theorem zNx (h1:Ex B sl .hp t1 m1) (h2:Ex B sl .hp t2 m2):Ex B sl md (tOp (rI CMul λi j=>.int (i * j)) t1 t2) (m1.bind λa=>m2.bind λb=>mulM a b) :=
 zC6 (f:=mulM) (λa b c v w H Q e r1 r2 q=>by
  unfold mulM at e
  split at e
  case isFalse=>cases e
  rename_i hc
  cases e; cases r1; cases r2
  exact ⟨a,b,rfl,rfl,hc,q⟩) h1 h2
theorem yV (h1:Ex B sl .hp t1 m1) (h2:Ex B sl .hp t2 m2):Ex B sl md (tOp (rI (λ_ j=>0 < j) λi j=>.int (i % j)) t1 t2) (m1.bind λa=>m2.bind λb=>modM a b) :=
 zC6 (f:=modM) (λa b c v w H Q e r1 r2 q=>by
  unfold modM at e
  split at e
  case isFalse=>cases e
  rename_i hc
  cases e; cases r1; cases r2
  exact ⟨a,b,rfl,rfl,hc,q⟩) h1 h2
theorem xT (h1:Ex B sl .hp t1 m1) (h2:Ex B sl .hp t2 m2):Ex B sl md (tOp (rI CDiv λi j=>.int (i / j)) t1 t2) (m1.bind λa=>m2.bind λb=>divM a b) :=
 zC6 (f:=divM) (λa b c v w H Q e r1 r2 q=>by
  unfold divM at e
  split at e
  case isFalse=>cases e
  rename_i hc
  cases e; cases r1; cases r2
  exact ⟨a,b,rfl,rfl,hc,q⟩) h1 h2
theorem ex_pow (h1:Ex B sl .hp t1 m1) (h2:Ex B sl .hp t2 m2):Ex B sl md (tOp (rI CPow λi j=>.int (i ^ j.toNat)) t1 t2) (m1.bind λa=>m2.bind λb=>powM a b) :=
 zC6 (f:=powM) (λa b c v w H Q e r1 r2 q=>by
  unfold powM at e
  split at e
  case isFalse=>cases e
  rename_i hc
  cases e; cases r1; cases r2
  exact ⟨a,b,rfl,rfl,hc,q⟩) h1 h2
end
theorem A2.atI (h:A2 R vs xs) (e:L2.atI xs i = some a):∃ v,L2.atI vs i = some v /\ R v a:=by
 unfold L2.atI at e ⊢
 rw [h.len]
 cases q:ixN xs.length i with
 | none=>rw [q] at e; cases e
 | some j=>rw [q] at e; exact h.at2 e
theorem wI {m1:Option (List α)} {m2:Option Int} (h1:Ex B sl md t1 m1) (h2:Ex B sl .hp t2 m2):Ex B sl md (tOp (rIxL K) t1 t2) (m1.bind λxs=>m2.bind λi=>L2.atI xs i):=λc hc F O H σ Q s k=>by
 obtain ⟨xs,i,e1,e2,e3⟩:=zAo hc
 refine h1 xs e1 F O H σ _ s λv F' H' g r1=>?_
 refine h2 i e2 F' O H' σ _ (s.grow g) λw F2 H2 g2 r2=>?_
 cases r2
 obtain ⟨p,vs,rfl,z1,z2⟩:=r1
 obtain ⟨u,y1,y2⟩:=z2.atI e3
 have hle:Same (reg B F' H' md) H2:=(match md with
  | .nw=>dif_le.trans g.ok.fh
  | .fz=>g.ok.fh
  | .hp=>.refl _:Same (reg B F' H' md) H').trans g2.hh
 exact ⟨p,vs,i,u,rfl,rfl,SqL.of (hle _ _ z1),y1,k u F2 H2 (g.trans g2) (Rp.mono (wA g2 md) y2)⟩
theorem vJ {m:Option (α × β)} (h1:Ex B sl md t1 m) (h2:Ex B sl .hp t2 (some (0:Int))):Ex B sl md (tOp (rIxT K) t1 t2) (m.bind λx=>some x.1):=λc hc F O H σ Q s k=>by
 cases m with
 | none=>cases hc
 | some x =>
  cases (show some x.1 = some c from hc)
  refine h1 x rfl F O H σ _ s λv F' H' g r1=>?_
  refine h2 0 rfl F' O H' σ _ (s.grow g) λw F2 H2 g2 r2=>?_
  cases r2
  obtain ⟨p,v1,v2,rfl,z1,z2,z3⟩:=r1
  have hle:Same (reg B F' H' md) H2:=(match md with
   | .nw=>dif_le.trans g.ok.fh
   | .fz=>g.ok.fh
   | .hp=>.refl _:Same (reg B F' H' md) H').trans g2.hh
  exact ⟨p,[v1,v2],0,v1,rfl,rfl,.inl (.inl (hle _ _ z1)),rfl,k v1 F2 H2 (g.trans g2) (Rp.mono (wA g2 md) z2)⟩
theorem zAy {m:Option (α × β)} (h1:Ex B sl md t1 m) (h2:Ex B sl .hp t2 (some (1:Int))):Ex B sl md (tOp (rIxT K) t1 t2) (m.bind λx=>some x.2):=λc hc F O H σ Q s k=>by
 cases m with
 | none=>cases hc
 | some x =>
  cases (show some x.2 = some c from hc)
  refine h1 x rfl F O H σ _ s λv F' H' g r1=>?_
  refine h2 1 rfl F' O H' σ _ (s.grow g) λw F2 H2 g2 r2=>?_
  cases r2
  obtain ⟨p,v1,v2,rfl,z1,z2,z3⟩:=r1
  have hle:Same (reg B F' H' md) H2:=(match md with
   | .nw=>dif_le.trans g.ok.fh
   | .fz=>g.ok.fh
   | .hp=>.refl _:Same (reg B F' H' md) H').trans g2.hh
  exact ⟨p,[v1,v2],1,v2,rfl,rfl,.inl (.inl (hle _ _ z1)),rfl,k v2 F2 H2 (g.trans g2) (Rp.mono (wA g2 md) z3)⟩
abbrev rLen (K:PySem.W.Frag):List V->Hp->VK->Prop:=λxs H Q=>∃ p ys,xs = [.ref p] /\ (SqL K H p ys \/ SqT K H p ys) /\ Q (.int ys.length) H
theorem yW {m:Option (List α)} (h:Ex B sl .hp t m):Ex B sl md (tCB (rLen K) (xF t tNil)) (m.bind λxs=>some (xs.length:Int)):=λc hc F O H σ Q s k=>by
 cases m with
 | none=>cases hc
 | some xs =>
  cases (show some (xs.length:Int) = some c from hc)
  refine h xs rfl F O H σ _ s λv F' H' g r1=>?_
  obtain ⟨p,vs,rfl,z1,z2⟩:=r1
  exact ⟨p,vs,rfl,.inl (SqL.of z1),k _ F' H' g (by show V.int vs.length = V.int xs.length; rw [z2.len])⟩
abbrev rList (K:PySem.W.Frag):List V->Hp->VK->Prop:=λxs H Q=>∃ p ys,xs = [V.ref p] /\ (SqL K H p ys \/ SqT K H p ys) /\ ∀ l,H l = none->Q (.ref l) (upd H l (.lst ys))
theorem A2.sc {F F':Hp} [Sc K α] {vs:List V} {xs:List α} (h:A2 (rp K F) vs xs):A2 (rp K F') vs xs:=h.imp λ_ _=>zPb
theorem zBe [Sc K α] {m:Option (List α)} (h:Ex B sl .hp t m):Eo B sl md (tCB (rList K) (xF t tNil)) m:=λc hc F O H σ Q s k=>by
 refine h c hc F O H σ _ s λv F' H' g r1=>?_
 obtain ⟨p,vs,rfl,z1,z2⟩:=r1
 exact ⟨p,vs,rfl,.inl (SqL.of z1),λl hl=>k l vs F' H' g hl z2.sc⟩
class Fl (K:PySem.W.Frag) (α:Type) [Rp K α] [Sc K α] [DecidableEq α]:Prop where
 flat:∀ a:α,zEl (Sc.val K a) = true
 eq:∀ a b:α,eqV (Sc.val K a) (Sc.val K b) = decide (a = b)
instance:Fl K Int:=⟨λ_=>rfl,λa b=>by show (a == b) = _; exact beqd a b⟩
instance:Fl K Str:=⟨λ_=>rfl,λa b=>by show (a == b) = _; exact beqd a b⟩
instance:Fl K Bool:=⟨λ_=>rfl,λa b=>by show (a == b) = _; exact beqd a b⟩
instance:Fl K (Option Int):=⟨λa=>by cases a <;> rfl,λa b=>by
 cases a with
 | none=>cases b with
  | none=>rfl
  | some y=>rfl
 | some x=>cases b with
  | none=>rfl
  | some y=>show (x == y) = _; rw [beqd]; simp⟩
theorem A2.vals [Sc K α]:∀ {vs:List V} {xs:List α},A2 (rp K F) vs xs->vs = xs.map (Sc.val K)
 | [],[],_=>rfl
 | _ :: _,_ :: _,h=>by rw [map_cons,Sc.is.mp h.1,A2.vals h.2]
 | [],_ :: _,h=>h.elim
 | _ :: _,[],h=>h.elim
theorem zJv [Sc K α] [DecidableEq α] [Fl K α] (a:α):∀ xs:List α,inV (Sc.val K a) (xs.map (Sc.val K)) = decide (a ∈ xs)
 | []=>by simp [inV]
 | x :: xs=>by
  have ih:=zJv a xs
  unfold inV at ih ⊢
  rw [map_cons,any_cons,ih,Fl.eq]
  by_cases h1:x = a
  ·subst h1; simp
  ·by_cases h2:a ∈ xs <;> simp [h1,h2,Ne.symm h1]
theorem zIq [Sc K α] [DecidableEq α] [Fl K α] (xs:List α):(xs.map (Sc.val K)).all zEl = true:=by
 rw [List.all_map,all_eq_true]
 intro x _
 exact Fl.flat x
theorem zK8 [Sc K α] [DecidableEq α] [Fl K α] {m1:Option α} {m2:Option (List α)} (h1:Ex B sl .hp t1 m1) (h2:Ex B sl .hp t2 m2):Ex B sl md (tOp (rIn K false) t1 t2) (m1.bind λa=>m2.bind λxs=>some (decide (a ∈ xs))) :=
 zC6 (f:=λa xs=>some (decide (a ∈ xs))) (λa b c v w H Q e r1 r2 q=>by
  cases e
  obtain ⟨p,vs,rfl,z1,z2⟩:=r2
  have ev:=Sc.is.mp r1
  have es:=z2.vals
  subst ev es
  refine ⟨p,_,rfl,.inl (SqL.of z1),Fl.flat a,zIq b,?_⟩
  have:=zJv (K:=K) a b
  simp only [Bool.false_eq_true,if_false]
  rw [this]
  exact q) h1 h2
theorem zE1 [Sc K α] [DecidableEq α] [Fl K α] {m1:Option α} {m2:Option (List α)} (h1:Ex B sl .hp t1 m1) (h2:Ex B sl .hp t2 m2):Ex B sl md (tOp (rIn K true) t1 t2) (m1.bind λa=>m2.bind λxs=>some (!decide (a ∈ xs))) :=
 zC6 (f:=λa xs=>some (!decide (a ∈ xs))) (λa b c v w H Q e r1 r2 q=>by
  cases e
  obtain ⟨p,vs,rfl,z1,z2⟩:=r2
  have ev:=Sc.is.mp r1
  have es:=z2.vals
  subst ev es
  refine ⟨p,_,rfl,.inl (SqL.of z1),Fl.flat a,zIq b,?_⟩
  have:=zJv (K:=K) a b
  simp only [if_true]
  rw [this]
  exact q) h1 h2
theorem zHj {m:Option (Option α)} (h:Ex B sl .hp t m):Ex B sl md (tIsN t) (m.bind λa=>some a.isNone):=λc hc F O H σ Q s k=>by
 cases m with
 | none=>cases hc
 | some a =>
  cases (show some a.isNone = some c from hc)
  refine h a rfl F O H σ _ s λv F' H' g r1=>?_
  cases a with
  | none=>cases r1; exact k _ F' H' g rfl
  | some x=>rw [decide_eq_false r1.1]; exact k _ F' H' g rfl
theorem zF8 {m:Option (Option α)} (h:Ex B sl .hp t m):Ex B sl md (tNotN t) (m.bind λa=>some a.isSome):=λc hc F O H σ Q s k=>by
 cases m with
 | none=>cases hc
 | some a =>
  cases (show some a.isSome = some c from hc)
  refine h a rfl F O H σ _ s λv F' H' g r1=>?_
  cases a with
  | none=>cases r1; exact k _ F' H' g rfl
  | some x=>rw [decide_eq_false r1.1]; exact k _ F' H' g rfl
theorem zAz {m:Option (Option α)} (h:Ex B sl md t m):Ex B sl md t (m.bind λa=>a):=λc hc F O H σ Q s k=>by
 cases m with
 | none=>cases hc
 | some a =>
  cases a with
  | none=>cases hc
  | some x =>
   have e:x = c:=Option.some.inj hc
   subst e
   exact h (some x) rfl F O H σ _ s λv F' H' g r1=>k v F' H' g r1.2
theorem ex_slen {m:Option Scr} (h:Ex B sl .hp t m):Ex B sl md (tCB (rLen K) (xF t tNil)) (m.bind λxs=>some (xs.ns.length:Int)):=λc hc F O H σ Q s k=>by
 cases m with
 | none=>cases hc
 | some xs =>
  cases (show some (xs.ns.length:Int) = some c from hc)
  refine h xs rfl F O H σ _ s λv F' H' g r1=>?_
  obtain ⟨p,rfl,z1⟩:=r1
  exact ⟨p,_,rfl,.inl z1,k _ F' H' g (by show V.int (xs.ns.map V.int).length = V.int xs.ns.length; rw [length_map])⟩
theorem atI_map (h:L2.atI ns i = some z):L2.atI (ns.map V.int) i = some (.int z):=by
 unfold L2.atI at h ⊢
 rw [length_map]
 cases q:ixN ns.length i with
 | none=>rw [q] at h; cases h
 | some j =>
  rw [q] at h
  show (ns.map V.int)[j]? = _
  have h:ns[j]? = some z:=h
  rw [getElem?_map,h] <;> rfl
theorem ex_six {m1:Option Scr} {m2:Option Int} (h1:Ex B sl .hp t1 m1) (h2:Ex B sl .hp t2 m2):Ex B sl md (tOp (rIxL K) t1 t2) (m1.bind λxs=>m2.bind λi=>L2.atI xs.ns i) :=
 zC6 (f:=λ(xs:Scr) (i:Int)=>L2.atI xs.ns i) (λa b c v w H Q e r1 r2 q=>by
  have r2:w = .int b:=r2
  subst r2
  obtain ⟨p,rfl,z1⟩:=r1
  have q:Q (.int c) H:=q
  exact ⟨p,a.ns.map V.int,b,.int c,rfl,rfl,z1,atI_map e,q⟩) h1 h2
theorem ex_min2 {m1 m2:Option Int} (h1:Ex B sl .hp t1 m1) (h2:Ex B sl .hp t2 m2):Ex B sl md (tCB (λxs H Q=>∃ i j,xs = [.int i,.int j] /\ Q (.int (if j < i then j else i)) H) (xF t1 (xF t2 tNil))) (m1.bind λa=>m2.bind λb=>some (min a b)):=λc hc F O H σ Q s k=>by
 obtain ⟨a,b,e1,e2,e3⟩:=zAo hc
 cases e3
 refine h1 a e1 F O H σ _ s λv F' H' g r1=>?_
 refine h2 b e2 F' O H' σ _ (s.grow g) λw F2 H2 g2 r2=>?_
 cases r1; cases r2
 exact ⟨a,b,rfl,by rw [show (if b < a then b else a) = min a b by split <;> omega]; exact k _ F2 H2 (g.trans g2) rfl⟩
class Ty (K:PySem.W.Frag) (α:Type) [Rp K α] where
 ty:Value
 is:∀ {H:Hp} {v:V} {a:α},rp K H v a->TyOf K H v ty
instance:Ty K Int:=⟨.type "int",λh=>by cases h; exact .int _⟩
instance:Ty K Bool:=⟨.type "bool",λh=>by cases h; exact .bl _⟩
instance:Ty K Str:=⟨.type "str",λh=>by cases h; exact .str _⟩
instance:Ty K (List α):=⟨.type "list",λ⟨p,vs,e,h,_⟩=>by rw [e]; exact .lst h⟩
instance:Ty K (α × β):=⟨.type "tuple",λ⟨p,_,_,e,h,_⟩=>by rw [e]; exact .tup h⟩
theorem zBi [Ty K α] {c:Value} {y:V} {b:Bool} {m:Option α} (hb:kitOne K (Ty.ty K α) c = some b) (hy:RelV y c) (h:Ex B sl .hp t m):Ex B sl md (tCB (rIsi K c) (xF t (xF (tC y) tNil))) (m.bind λ_=>some b):=λd hd F O H σ Q s k=>by
 cases m with
 | none=>cases hd
 | some a =>
  cases (show some b = some d from hd)
  refine h a rfl F O H σ _ s λv F' H' g r1=>?_
  exact ⟨v,y,_,b,rfl,hy,Ty.is r1,hb,k _ F' H' g rfl⟩
end
def src (xss:List LI) (j:Nat):LI:=((List.range xss.length).filter λk=>decide ((j:Int) ∈ xss.getD k [])).map Int.ofNat
theorem filter_congr' {α:Type} {p q:α->Bool}:∀ {l:List α},(∀ x ∈ l,p x = q x)->l.filter p = l.filter q
 | [],_=>rfl
 | a :: l,h=>by
  rw [filter_cons,filter_cons,h a mem_cons_self,filter_congr' λx hx=>h x (mem_cons_of_mem _ hx)]
theorem zOw (xss:List LI) (xs:LI) (j:Nat):src (xss ++ [xs]) j = src xss j ++ (if (j:Int) ∈ xs then [(xss.length:Int)] else []):=by
 unfold src
 rw [length_append,length_singleton,range_succ,List.filter_append,map_append]
 congr 1
 ·congr 1
  refine filter_congr' λk hk=>?_
  have hk':k < xss.length:=mem_range.mp hk
  rw [getD_eq_getElem?_getD,getD_eq_getElem?_getD,getElem?_append_left hk']
 ·rw [filter_cons,List.filter_nil,getD_eq_getElem?_getD,getElem?_append_right (Nat.le_refl _),Nat.sub_self]
  by_cases h:(j:Int) ∈ xs
  ·simp [h]
  ·simp [h]
theorem zOv {xss:List LI} {i:Nat} {xs:LI} (h:xss[i]? = some xs) (j:Nat):src (xss.take (i + 1)) j = src (xss.take i) j ++ (if (j:Int) ∈ xs then [(i:Int)] else []):=by
 have hi:i < xss.length:=(List.getElem?_eq_some_iff.mp h).1
 rw [take_add_one,h]
 have e:(some xs:Option LI).toList = [xs]:=rfl
 rw [e,zOw,length_take,Nat.min_eq_left (Nat.le_of_lt hi)]
theorem src_len (xss:List LI) (j:Nat):(src xss j).length <= xss.length:=by
 unfold src
 rw [length_map]
 exact Nat.le_trans (length_filter_le _ _) (by rw [length_range]; exact Nat.le_refl _)
theorem int_at {ns:LI} {i:Nat} {y:V} (h:(ns.map V.int)[i]? = some y):∃ z,y = .int z /\ ns[i]? = some z:=by
 rw [getElem?_map] at h
 cases e:ns[i]? with
 | none=>rw [e] at h; cases h
 | some z=>rw [e] at h; exact ⟨z,(Option.some.inj h).symm,rfl⟩
theorem ref_at {bs:List Addr} {i:Nat} {y:V} (h:(bs.map V.ref)[i]? = some y):∃ b,y = .ref b /\ bs[i]? = some b:=by
 rw [getElem?_map] at h
 cases e:bs[i]? with
 | none=>rw [e] at h; cases h
 | some z=>rw [e] at h; exact ⟨z,(Option.some.inj h).symm,rfl⟩
theorem zMc {bs:List Addr} {i:Nat} {b:Addr} (h:bs[i]? = some b):(bs.map V.ref)[i]? = some (.ref b):=by rw [getElem?_map,h] <;> rfl
theorem zZ {α:Type} {xs:List α} {x:α} (h:xs[i]? = some x):i < xs.length:=(List.getElem?_eq_some_iff.mp h).1
theorem zM9 {i:Nat} (h:i < 1920):((i:Int)).natAbs.log2 < 1920:=by
 rw [Int.natAbs_natCast]
 exact Nat.lt_of_le_of_lt (Nat.log2_le_self i) h
theorem zBa {ns:LI} (nd:ns.Nodup) (h:ns[i]? = some z):¬ z ∈ ns.take i:=λhz=>by
 obtain ⟨j,hj⟩:=mem_iff_getElem?.mp hz
 have hji:j < i:=by
  have:=zZ hj
  rw [length_take] at this
  omega
 rw [getElem?_take_of_lt hji] at hj
 have hi:=zZ h
 have hjl:=zZ hj
 rw [List.getElem?_eq_getElem hi] at h
 rw [List.getElem?_eq_getElem hjl] at hj
 have e:ns[j] = ns[i]:=(Option.some.inj hj).trans (Option.some.inj h).symm
 have:=(getElem_inj nd).mp e
 omega
theorem vU {α:Type} {ns:List α} {z x:α} (h:ns[i]? = some z):x ∈ ns.take (i + 1) ↔ x ∈ ns.take i \/ x = z:=by
 rw [take_add_one,h]
 simp
def RowsR (K:PySem.W.Frag) (H:Hp) (bs:List Addr) (xss:List LI):Prop:=bs.length = xss.length /\ ∀ (i:Nat) (b:Addr),bs[i]? = some b->∃ xs:LI,xss[i]? = some xs /\ SqL K H b (xs.map V.int)
theorem RowsR.same (r:RowsR K H bs xss) (s:Same H H'):RowsR K H' bs xss:=⟨r.1,λi b h=>let ⟨xs,h1,h2⟩:=r.2 i b h; ⟨xs,h1,s.seq h2⟩⟩
def zQk (n:Nat) (xss:List LI):Prop:=xss.length = n /\ ∀ xs ∈ xss,xs ≠ [] /\ xs.Nodup /\ xs.length <= 100 /\ ∀ z ∈ xs,0 <= z /\ z < (n:Int)
def RowF (H:Hp) (cs:List Addr) (row:Nat->LI):Prop:=∀ (j:Nat) (c:Addr),cs[j]? = some c->H c = some (.lst ((row j).map V.int))
structure Bl (K:PySem.W.Frag) (mg:Str->Option Value):Prop where
 len:mg "len" = none
 range:mg "range" = none
 isi:mg "isinstance" = none
 int:mg "int" = none
 bool:mg "bool" = none
 list:mg "list" = none
 enum:mg "enumerate" = none
 ii:kitOne K (.type "int") (.type "int") = some true
 ib:kitOne K (.type "int") (.type "bool") = some false
 ll:kitOne K (.type "list") (.type "list") = some true
theorem ki_ii:kitOne K (.type "int") (.type "int") = some true:=rfl
theorem ki_ll:kitOne K (.type "list") (.type "list") = some true:=rfl
theorem ki_ib:kitOne K (.type "int") (.type "bool") = some false:=by
 first | rfl | (unfold kitOne kitCls; decide +kernel)
theorem zA2:bootBuiltins "isinstance" = some (.builtin "isinstance"):=by decide +kernel
theorem zOh:bootBuiltins "int" = some (.type "int"):=by decide +kernel
theorem zOi:bootBuiltins "bool" = some (.type "bool"):=by decide +kernel
theorem zAe:bootBuiltins "list" = some (.type "list"):=by decide +kernel
structure News (H H':Hp) (cs:List Addr) (xss:List (List V)):Prop where
 len:cs.length = xss.length
 at_:∀ (i:Nat) (c:Addr),cs[i]? = some c->∃ xs,xss[i]? = some xs /\ H' c = some (.lst xs)
 new:∀ c ∈ cs,H c = none
 nd:cs.Nodup
theorem News.nil:News H H' [] []:=⟨rfl,λi c h=>(by simp at h),λc h=>(by cases h),List.nodup_nil⟩
theorem News.snoc (n:News H H1 cs xss) (s:Same H H1) (h:H1 l = none):News H (upd H1 l (.lst xs)) (cs ++ [l]) (xss ++ [xs]):=by
 have hl:∀ c ∈ cs,c ≠ l:=λc hc e=>by
  obtain ⟨i,hi⟩:=mem_iff_getElem?.mp hc
  obtain ⟨ys,_,q⟩:=n.at_ i c hi
  rw [e,h] at q
  cases q
 refine ⟨by rw [length_append,length_append,n.len] <;> rfl,λi c hc=>?_,λc hc=>?_,?_⟩
 ·by_cases hi:i < cs.length
  ·rw [getElem?_append_left hi] at hc
   obtain ⟨ys,h1,h2⟩:=n.at_ i c hc
   refine ⟨ys,?_,?_⟩
   ·rw [getElem?_append_left (by rw [<- n.len]; exact hi)]; exact h1
   ·rw [zO (hl c (mem_of_getElem? hc))]; exact h2
  ·rw [getElem?_append_right (by omega)] at hc
   have hi2:i - cs.length = 0:=by
    have:=zZ hc
    simp at this
    omega
   rw [hi2] at hc
   have e:l = c:=Option.some.inj hc
   subst e
   refine ⟨xs,?_,zR⟩
   rw [getElem?_append_right (by rw [<- n.len]; omega),<- n.len,hi2] <;> rfl
 ·rcases mem_append.mp hc with hc | hc
  ·exact n.new c hc
  ·rw [mem_singleton.mp hc]; exact s.free h
 ·rw [nodup_append]
  refine ⟨n.nd,by simp,λa ha b hb e=>?_⟩
  rw [mem_singleton.mp hb] at e
  exact hl a ha e
theorem News.notin (n:News H H' cs xss) (h:H' r = none):r ∉ cs:=λhc=>by
 obtain ⟨i,hi⟩:=mem_iff_getElem?.mp hc
 obtain ⟨ys,_,q⟩:=n.at_ i r hi
 rw [h] at q
 cases q
structure Mach (C:Addr) where
 steps:List LI
 marks:List (Str × LI)
 fair:List LI
 sources:List LI
def mth:List Str:=["many","next_of","before","marked","fair_at","names_at"]
def srcs (xss:List LI):List LI:=(List.range xss.length).map (src xss)
def hid (H:Hp) (p:Addr):Hp:=λb=>if b = p then none else H b
section
variable {K:PySem.W.Frag} {C:Addr}
instance:Rp K (Mach C):=⟨λF v m=>∃ p dx fs vS vM vF vB,v = .ref p /\ F p = some (.ins C dx fs) /\ fs.lookup ("steps":Str) = some vS /\ rp K F vS m.steps /\ fs.lookup ("marks":Str) = some vM /\ rp K F vM m.marks /\ fs.lookup ("fair":Str) = some vF /\ rp K F vF m.fair /\
 fs.lookup ("sources":Str) = some vB /\ rp K F vB m.sources /\ ∀ g ∈ mth,fs.lookup g = none,
 λs ⟨p,dx,fs,vS,vM,vF,vB,h1,h2,h3,h4,h5,h6,h7,h8,h9,h10,h11⟩=>⟨p,dx,fs,vS,vM,vF,vB,h1,s _ _ h2,h3,Rp.mono s h4,h5,Rp.mono s h6,h7,Rp.mono s h8,h9,Rp.mono s h10,h11⟩⟩
instance:Nn K (Mach C):=⟨λ⟨_,_,_,_,_,_,_,h,_⟩=>by rw [h]; intro e; cases e⟩
theorem zAf (ns:LI):A2 (rp K F) (ns.map V.int) ns:=A2.of_map (R:=rp K F) (f:=V.int) (λ_=>rfl) ns
theorem zOl:∀ {cs:List Addr} {xss:List LI},cs.length = xss.length->(∀ (i:Nat) (c:Addr),cs[i]? = some c->∃ xs,xss[i]? = some xs /\ F c = some (.lst (xs.map V.int)))->A2 (rp K F) (cs.map V.ref) xss
 | [],[],_,_=>trivial
 | c :: cs,xs :: xss,hl,h=>by
  obtain ⟨ys,e1,e2⟩:=h 0 c rfl
  cases e1
  exact ⟨⟨c,_,rfl,e2,zAf _⟩,zOl (by simpa using hl) λi c' hc=>h (i + 1) c' hc⟩
 | [],_ :: _,hl,_=>by simp at hl
 | _ :: _,[],hl,_=>by simp at hl
theorem srcs_at {xss:List LI} (h:i < xss.length):(srcs xss)[i]? = some (src xss i):=by
 unfold srcs
 rw [getElem?_map,getElem?_range h]
 rfl
theorem rowf_rp {cs:List Addr} {xss:List LI} (hl:cs.length = xss.length) (n:RowF H' cs (src xss)) (h:∀ c ∈ cs,∀ o,H' c = some o->D c = some o):A2 (rp K D) (cs.map V.ref) (srcs xss):=by
 refine zOl (by rw [hl]; unfold srcs; simp) λi c hc=>?_
 have hi:=zZ hc
 exact ⟨_,srcs_at (by omega),h c (mem_of_getElem? hc) _ (n i c hc)⟩
end
section
variable {K:PySem.W.Frag} {B:Bs} {F H F' H' G:Hp} {O:Own} {sl:SL K} {σ:St} {md:Md} {α β:Type} [Rp K α] [Rp K β] {te ta:TE} {C:Addr}
theorem zIr {pr:Mach C->α} (cl:Cls K C) (na:NoAttr K C f) (hp:∀ (R:Hp) (v:V) (x:Mach C),rp K R v x->∃ p dx fs w,v = .ref p /\ R p = some (.ins C dx fs) /\ fs.lookup f = some w /\ rp K R w (pr x)) (h:Ex B sl md ta m) :
  Ex B sl md (tFld K ta f) (m.bind λx=>some (pr x)):=λc hc F O H σ Q s k=>by
 cases m with
 | none=>cases hc
 | some x =>
  cases (show some (pr x) = some c from hc)
  refine h x rfl F O H σ _ s λv F' H' g r=>?_
  obtain ⟨p,dx,fs,w,rfl,h1,h2,h3⟩:=hp _ v x r
  have hle:Same (reg B F' H' md) H':=match md with
   | .nw=>dif_le.trans g.ok.fh
   | .fz=>g.ok.fh
   | .hp=>.refl _
  exact ⟨p,C,dx,fs,w,rfl,hle _ _ h1,cl,na,h2,k w F' H' g h3⟩
theorem zB2 {m:Option (Mach C)} (cl:Cls K C) (na:NoAttr K C "steps") (h:Ex B sl md ta m):Ex B sl md (tFld K ta "steps") (m.bind λx=>some x.steps) :=
 zIr cl na (λR v x ⟨p,dx,fs,vS,vM,vF,vB,h1,h2,h3,h4,_⟩=>⟨p,dx,fs,vS,h1,h2,h3,h4⟩) h
theorem zNz {m:Option (Mach C)} (cl:Cls K C) (na:NoAttr K C "marks") (h:Ex B sl md ta m):Ex B sl md (tFld K ta "marks") (m.bind λx=>some x.marks) :=
 zIr cl na (λR v x ⟨p,dx,fs,vS,vM,vF,vB,h1,h2,_,_,h5,h6,_⟩=>⟨p,dx,fs,vM,h1,h2,h5,h6⟩) h
theorem zIs {m:Option (Mach C)} (cl:Cls K C) (na:NoAttr K C "sources") (h:Ex B sl md ta m):Ex B sl md (tFld K ta "sources") (m.bind λx=>some x.sources) :=
 zIr cl na (λR v x ⟨p,dx,fs,vS,vM,vF,vB,h1,h2,_,_,_,_,_,_,h9,h10,_⟩=>⟨p,dx,fs,vB,h1,h2,h9,h10⟩) h
theorem zCm {A:Type} {as:A->SL K} {f:Mach C × A->Option β} {ma:Option A} (hg:g ∈ mth) (h0:Ex B sl .hp ta mm) (h:Ea B sl .hp t as ma) :
  Ex B sl md (zLt C g (spF K false (λx:Mach C × A=>.fz false x.1 :: as x.2) f) [] E0 ta t) (mm.bind λx=>ma.bind λa=>f (x,a)):=λc hc F O H σ Q s kk=>by
 cases mm with
 | none=>cases hc
 | some x =>
  cases ma with
  | none=>cases hc
  | some a =>
   have hc:f (x,a) = some c:=hc
   refine h0 x rfl F O H σ _ s λv F1 H1 g1 r1=>?_
   obtain ⟨p,dx,fs,vS,vM,vF,vB,rfl,h2,h3,h4,h5,h6,h7,h8,h9,h10,h11⟩:=id r1
   refine ⟨p,dx,fs,rfl,h2,h11 g hg,?_⟩
   refine h a rfl F1 O H1 σ _ (s.grow g1) λvs F' H' g2 r=>?_
   rw [append_nil]
   refine ⟨(x,a),c,H',.refl _,hc,.cons (Rp.mono g2.hh r1) r,λv H2 s2 r2=>?_⟩
   have g3:=g2.ok.called s2
   refine kk v _ H2 (g1.trans (g2.trans g3)) ?_
   have r3:=Rp.mono (zF6 (F:=F') g2.ok.h0 s2) r2
   exact match md with
   | .nw=>r3
   | .fz=>Rp.mono dif_le r3
   | .hp=>Rp.mono (dif_le.trans g3.ok.fh) r3
def En (B:Bs) (sl:SL K) (t:TE) {α:Type} [Rp K α] (m:Option α):Prop :=
 ∀ a,m = some a->∀ (F:Hp) (O:Own) (H:Hp) (σ:St) (Q:VK),At B sl F O H σ->(∀ (v:V) (F' H1 H2:Hp),Grow B F H O F' H1->Same H1 H2->rp K (dif H2 H1) v a->Q v H2)->t σ H Q
theorem zCq {A:Type} {as:A->SL K} {f:A->Option β} {ta:TA} {ma:Option A} (h:Ea B sl .hp ta as ma):En B sl (zKi (spF K false as f) [] E0 ta) (ma.bind f):=λc hc F O H σ Q s kk=>by
 cases ma with
 | none=>cases hc
 | some a =>
  refine h a rfl F O H σ _ s λvs F' H' g r=>?_
  rw [append_nil]
  exact ⟨a,c,H',.refl _,hc,r,λv H2 s2 r2=>kk v F' H' H2 g s2 r2⟩
theorem En.ex {m:Option α} (h:En B sl te m):Ex B sl md te m:=λc hc F O H σ Q s kk=>h c hc F O H σ Q s λv F' H1 H2 g s2 r2=>by
 have g2:=g.ok.called s2
 refine kk v _ H2 (g.trans g2) ?_
 have r3:=Rp.mono (zF6 (F:=F') g.ok.h0 s2) r2
 exact match md with
 | .nw=>r3
 | .fz=>Rp.mono dif_le r3
 | .hp=>Rp.mono (dif_le.trans g2.ok.fh) r3
theorem zIo (h1:F b = none) (h2:∀ x ∈ O,x.1 ≠ b):lo F O H b = H b:=by
 unfold lo
 rw [if_neg]
 rw [h1]
 simp
 exact λx hx=>h2 _ hx rfl
theorem sn_nu {s:Slot K} {m:Option α} (i:Nat) (hs:sl[i]? = some s) (ho:isOw s = false) (h:En B sl te m):Sn B sl (tAsg te (zAd i)) (λa=>sl.set i (.nu a)) m:=λa ha G D σ H s k=>by
 obtain ⟨F,O,g,z⟩:=s
 refine h a ha F O H σ _ z λv F' H1 H2 gr s2 r=>k _ _ ?_
 have z1:=z.grow gr
 have k2:Ok B F' O H2:=⟨gr.ok.fh.trans s2,gr.ok.h0.trans s2,gr.ok.fa,λx hx=>⟨(gr.ok.fo x hx).1,(gr.ok.fo x hx).2.1,s2 _ _ (gr.ok.fo x hx).2.2⟩,gr.ok.nd⟩
 have hlo:Same (lo F' O H1) (lo F' O H2):=λb o e=>by
  unfold lo at e ⊢
  split at e
  ·cases e
  ·rename_i hh
   rw [if_neg hh]
   exact s2 _ _ e
 refine ⟨F',O,g.trans gr.ff,k2,(z1.2.mono (.refl _) hlo s2).put (λ_ _ _ y=>.nu (Rp.mono (λb o e=>?_) r) y) hs ho⟩
 have hb:H1 b = none:=by
  cases q:H1 b with
  | none=>rfl
  | some u=>unfold dif at e; rw [q] at e; cases e
 rw [xA (gr.ok.h0.free hb),zIo (gr.ok.fh.free hb) λx hx q=>by rw [<- q,(gr.ok.fo x hx).2.2] at hb; cases hb]
 exact dif_le _ _ e
structure LOpq where
 n:Unit
instance:Rp K LOpq:=⟨λF v _=>∃ p vs,v = .ref p /\ F p = some (.lst vs),λs ⟨p,vs,h1,h2⟩=>⟨p,vs,h1,s _ _ h2⟩⟩
class IsL (K:PySem.W.Frag) (α:Type) [Rp K α]:Prop where
 il:∀ {F:Hp} {v:V} {a:α},rp K F v a->∃ p vs,v = .ref p /\ F p = some (.lst vs)
instance:IsL K (List α):=⟨λ⟨p,vs,h1,h2,_⟩=>⟨p,vs,h1,h2⟩⟩
instance:IsL K LOpq:=⟨λh=>h⟩
abbrev zAj:Slot K->Bool
 | @Slot.hs _ _ _ _=>true
 | @Slot.nu _ _ _ _=>true
 | _=>false
theorem zEu (h:dif (lo F O H) B.H0 b = some o):F b = none /\ B.H0 b = none /\ (∀ x ∈ O,x.1 ≠ b) /\ H b = some o:=by
 have h0:B.H0 b = none:=by
  cases q:B.H0 b with
  | none=>rfl
  | some u=>unfold dif at h; rw [q] at h; cases h
 rw [xA h0] at h
 unfold lo at h
 split at h
 ·cases h
 ·rename_i hh
  simp at hh
  exact ⟨hh.1,h0,λx hx e=>hh.2 x.2 (by rw [<- e]; exact hx),h⟩
theorem Ok.poke (k:Ok B F O H) (h1:F p = none) (h2:B.H0 p = none) (h3:∀ x ∈ O,x.1 ≠ p):Ok B F O (upd H p o) :=
 ⟨k.fh.put h1 o,k.h0.put h2 o,k.fa,λx hx=>⟨(k.fo x hx).1,(k.fo x hx).2.1,by rw [zO (h3 x hx)]; exact (k.fo x hx).2.2⟩,k.nd⟩
theorem SlotsOk.calm (h:SlotsOk B F L H sl σ O) (hn:sl.all (λs=>!zAj s) = true):SlotsOk B F L' H' sl σ O:=by
 induction h with
 | nil=>exact .nil
 | un _ ih=>exact .un (ih (by rw [all_cons,Bool.and_eq_true] at hn; exact hn.2))
 | fz r _ ih=>exact .fz (Rp.mono (xJ _ (.refl _)) r) (ih (by rw [all_cons,Bool.and_eq_true] at hn; exact hn.2))
 | hs r _ ih=>rw [all_cons,Bool.and_eq_true] at hn; exact absurd hn.1 (by simp)
 | nu r _ ih=>rw [all_cons,Bool.and_eq_true] at hn; exact absurd hn.1 (by simp)
 | ow r _ ih=>exact .ow (r.imp λ_ _=>Rp.mono (xJ _ (.refl _))) (ih (by rw [all_cons,Bool.and_eq_true] at hn; exact hn.2))
 | od r _ ih=>exact .od r (ih (by rw [all_cons,Bool.and_eq_true] at hn; exact hn.2))
 | ob r _ ih=>exact .ob (Ob.mono (xJ _ (.refl _)) r) (ih (by rw [all_cons,Bool.and_eq_true] at hn; exact hn.2))
theorem zQu (h:SlotsOk B F L H sl σ O) (hs:sl[i]? = some s) (ho:isOw s = false):SlotsOk B F L H (sl.set i .un) σ O:=by
 have hi:i < σ.length:=by rw [h.len]; exact (List.getElem?_eq_some_iff.mp hs).1
 have z:=h.put (s':=.un) (x:=σ[i]) (λ_ _ _ y=>.un y) hs ho
 rw [uJ (List.getElem?_eq_getElem hi)] at z
 exact z
instance (n:Nat) (xss:List LI):Decidable (zQk n xss):=by unfold zQk; infer_instance
theorem sn_aug {s:Slot K} (i:Nat) (hs:sl[i]? = some (.fz n x)) (h:Ex B sl .hp te m):Sn B sl (tAug i te (ipI f)) (λa=>sl.set i (.fz true a)) (m.bind λy=>some (f x y)):=λa ha G D σ H s k=>by
 cases m with
 | none=>cases ha
 | some y =>
  cases (show some (f x y) = some a from ha)
  obtain ⟨F,O,g,z⟩:=s
  obtain ⟨v,h1,h2⟩:=z.2.fz_at hs
  have h2:v = .int x:=Sc.is.mp h2
  subst h2
  refine ⟨_,h1,h y rfl F O H σ _ z λw F' H' gr r=>?_⟩
  cases r
  exact ⟨x,y,rfl,rfl,k _ _ (Sg.set (n:=true) (a:=f x y) (g.trans gr.ff) (z.grow gr) hs rfl rfl)⟩
end
section
variable {K:PySem.W.Frag} {X:Cx}
theorem zDo (K:PySem.W.Frag) (h:X.K = K:=by rfl):OpR X (compareOp .In) (rIn K false):=by subst h; exact zMr
theorem zCg (K:PySem.W.Frag) (h:X.K = K:=by rfl):OpR X (compareOp .NotIn) (rIn K true):=by subst h; exact zG3
theorem ixLK (K:PySem.W.Frag) (h:X.K = K:=by rfl):IxR X (rIxL K):=by subst h; exact zNg
theorem ixTK (K:PySem.W.Frag) (h:X.K = K:=by rfl):IxR X (rIxT K):=by subst h; exact ix_tup
theorem yQ (K:PySem.W.Frag) (h:X.K = K:=by rfl):zBu X (.builtin "len") (rLen K):=by subst h; exact zHs
theorem zBs (K:PySem.W.Frag) (h:X.K = K:=by rfl):zBu X (.type "list") (rList K):=by subst h; exact zHr
theorem zA1 (K:PySem.W.Frag) (hc:∀ y u,RelV y c->RelV y u->u = c) (h:X.K = K:=by rfl):zBu X (.builtin "isinstance") (rIsi K c):=by subst h; exact zQe hc
theorem zEr (K:PySem.W.Frag) (he:PE X e ta) (h:X.K = K:=by rfl) (hb:attributeBase e f X.env (eval e X.env) = eval e X.env:=by rfl):PE X (.Attribute e f pos) (tFld K ta f):=by subst h; exact zQ3 he hb
theorem xE (K:PySem.W.Frag) (hl:PE X l tl) (h:X.K = K:=by rfl):PI X tg l (zK1 K tl):=by subst h; exact zH9 hl
theorem zCk (K:PySem.W.Frag) (hm:X.mg "enumerate" = none) (ha:PA X [a] ta) (h:X.K = K:=by rfl) (hg:Gl X "enumerate":=by rfl) (hs:starEach [a] X.env = [(false,eval a X.env)]:=by rfl) :
  PI X (.Tuple elts k tp) (.Call (.Name "enumerate" p) [a] [] pos) (iEnum K ta):=by subst h; exact zMl hg hm ha hs
theorem zAc (K:PySem.W.Frag) {o e:Expr} {es:List Expr} {to:TE} {t:TA} {name:Str} {apos cpos:Pos} {T id:String} {r:V->List V->Hp->VK->Prop} (pa:PlainAttrs T) (slot:PySem.Slot T name id) (hty:typeOf (.builtin id) = pure (.type "method_descriptor")) (hm:MtM X id r) (ho:PE X o to) (ha:PA X (e :: es) t)
  (h:X.K = K:=by rfl) (hbase:attributeBase o name X.env (eval o X.env) = eval o X.env:=by rfl)
  (hfew:((backTo cpos (starEach (e :: es) X.env)).all (λx=>!x.1) && (backToKw cpos (keywordEach [] X.env)).all (λx=>x.1.isSome)
   && decide ((e :: es).length + ([]:List Keyword).length + (if ([]:List Keyword).isEmpty then 0 else 1) < 30)) = true:=by rfl)
  (hline:(apos.endLine == cpos.line) = true:=by rfl) (hs:starEach (e :: es) X.env = (false,eval e X.env) :: starEach es X.env:=by rfl) (hplain:(backTo cpos (starEach es X.env)).any (·.1) = false:=by rfl) :
  PE X (.Call (.Attribute o name apos) (e :: es) [] cpos) (tBM K T r to t):=by subst h; exact pe_bm pa slot hty hm ho ha hbase hfew hline hs hplain
theorem zMo (K:PySem.W.Frag) {o:Expr} {to:TE} {name:Str} {apos cpos:Pos} {T id:String} {r:V->List V->Hp->VK->Prop} (pa:PlainAttrs T) (slot:PySem.Slot T name id) (hty:typeOf (.builtin id) = pure (.type "method_descriptor")) (hm:MtM X id r) (ho:PE X o to)
  (h:X.K = K:=by rfl) (hbase:attributeBase o name X.env (eval o X.env) = eval o X.env:=by rfl) (hline:(apos.endLine == cpos.line) = true:=by rfl):PE X (.Call (.Attribute o name apos) [] [] cpos) (tBM0 K T r to):=by subst h; exact pe_bm0 pa slot hty hm ho hbase hline
theorem bt_min:bootBuiltins "min" = some (.builtin "min"):=by decide +kernel
theorem bt_all:bootBuiltins "all" = some (.builtin "all"):=by decide +kernel
theorem zD6:bootBuiltins "sorted" = some (.builtin "sorted"):=by decide +kernel
theorem zBj:Et B sl tIf0 (some true):=λa ha F O H σ Q s k=>by cases ha; exact k F H (.refl s.1)
theorem zL5 {B:Bs} {sl sl2:SL K} {t:TS} {al:Bool} {β:Type} [Rp K β] {m:Option β} (l:Le sl sl2) (h:SB B sl2 t al m):SB B sl t al m:=λa ha G D σ H q k=>h a ha G D σ H (q.le l) k
theorem zF9 {α:Type}:∀ c:List α,some [] = some c->c.length <= 0:=λc h=>by cases h; exact Nat.le_refl _
theorem uK {α:Type} {m:Option α} {ma:Option (List α)} (h:∀ b,ma = some b->b.length <= n):∀ c,(m.bind λa=>ma.bind λb=>some (a :: b)) = some c->c.length <= n + 1:=λc e=>by
 cases m with
 | none=>cases e
 | some a =>
  cases ma with
  | none=>cases e
  | some b=>cases e; exact Nat.succ_le_succ (h b rfl)
theorem bnd {α β:Type} (a:α) (f:α->Option β):(some a).bind f = f a:=(λ(x:Option α) (e:x = some a)=>by subst e; rfl:∀ x:Option α,x = some a->x.bind f = f a) _ rfl
def fuel:Nat:=100000
structure Cal (P:Program) (w:World) (K:PySem.W.Frag) (mg:Str->Option Value) (base:Heap) (k:Nat) (x:Str) (ps:List Str) (sp:Sp):Prop where
 ex:∃ f fd,FnOk P w K mg base CX0 k f fd ps sp /\ Binds K fd ps [] /\ keepIn K (.ref f) = true /\ mg x = some (.ref f)
structure CalM (P:Program) (w:World) (K:PySem.W.Frag) (mg:Str->Option Value) (base:Heap) (k:Nat) (C:Addr) (m:Str) (ps:List Str) (sp:Sp):Prop where
 ex:∃ f fd,FnOk P w K mg base CX0 k f fd ps sp /\ Binds K fd ps [] /\ Meth K C m f
 cl:Cls K C
theorem Cal.mono (c:Cal P w K mg base j x ps sp) (h:j <= k):Cal P w K mg base k x ps sp:=by
 obtain ⟨f,fd,h1,h2⟩:=c.ex
 exact ⟨f,fd,h1.mono h,h2⟩
theorem CalM.mono (c:CalM P w K mg base j C x ps sp) (h:j <= k):CalM P w K mg base k C x ps sp:=by
 obtain ⟨f,fd,h1,h2⟩:=c.ex
 exact ⟨⟨f,fd,h1.mono h,h2⟩,c.cl⟩
theorem yC (c:Cal X.prog X.w X.K X.mg X.base k x ps sp) (hr:Room k X.A) (ha:PA X (e :: es) t) (hg:Gl X x:=by rfl) (hdb:(x == ("__debug__":Str)) = false:=by decide)
  (he:starEach (e :: es) X.env = (false,eval e X.env) :: starEach es X.env:=by rfl) (hpl:(backTo pos (starEach es X.env)).any (·.1) = false:=by rfl):PE X (.Call (.Name x p) (e :: es) [] pos) (zKi sp [] E0 t):=by
 obtain ⟨f,fd,h1,h2,h3,h4⟩:=c.ex
 exact pe_call h1 hr hg h4 h3 h2 .nil zPj ha hdb he hpl
theorem zG2 (c:CalM X.prog X.w X.K X.mg X.base k C m ps sp) (hr:Room k X.A) (he:PE X o ta) (ha:PA X (e :: es) t)
  (hst:starEach (e :: es) X.env = (false,eval e X.env) :: starEach es X.env:=by rfl) (hpl:(backTo pos (starEach es X.env)).any (·.1) = false:=by rfl)
  (ht:eval (.Call (.Attribute o m apos) (e :: es) [] pos) X.env = (do
   let ov <- eval o X.env
   standAt apos.atName
   let (f,first) <- holding [ov] (getMethod ov m pl)
   callWith pos f first (backTo pos (starEach (e :: es) X.env)) (backToKw pos (keywordEach [] X.env))):=by rfl):PE X (.Call (.Attribute o m apos) (e :: es) [] pos) (zLt C m sp [] E0 ta t):=by
 obtain ⟨f,fd,h1,h2,h3⟩:=c.ex
 exact pe_meth he c.cl h3 h1 hr h2 .nil zPj ha hst hpl ht
theorem p_calM0 (c:CalM X.prog X.w X.K X.mg X.base k C m ps sp) (hr:Room k X.A) (he:PE X o ta)
  (ht:eval (.Call (.Attribute o m apos) [] [] pos) X.env = (do
   let ov <- eval o X.env
   standAt apos.atName
   let (f,first) <- holding [ov] (getMethod ov m pl)
   callWith pos f first (backTo pos (starEach [] X.env)) (backToKw pos (keywordEach [] X.env))):=by rfl):PE X (.Call (.Attribute o m apos) [] [] pos) (zLt C m sp [] E0 ta tNil):=by
 obtain ⟨f,fd,h1,h2,h3⟩:=c.ex
 exact zPi he c.cl h3 h1 hr h2 .nil zPj ht
end
section
variable {P:Program} {w:World} {K:PySem.W.Frag} {mg:Str->Option Value} {base:Heap}
theorem xB {A β:Type} [Rp K β] {as:A->SL K} {fM:A->Option β} (F:Fun K x qual st f fd) (S:FnScope N ps (zK st)) (hf:∀ a,(as a).all isF = true) (hl:∀ a,(as a).length = ps.length)
  (hb:∀ (cdv:Value) (A:Around) (outer:List Env) (s:Shared) (H:Hp) (E:XK),Room k (A.deeper (PyProof.Rows.envOfC qual (zK st) s.heap.objs.size f cdv)) ->
   ∃ t,PSs (cxOf CX0 P w K mg base N qual (zK st) f cdv A outer s H E).nox (xU st) t /\ ∀ Fa a,SB ⟨Fa,H⟩ (as a ++ replicate (N.length - ps.length) .un) t al (fM a)) :
  FnOk P w K mg base CX0 (k + 1) f fd ps (spF K al as fM) :=
 F.ok S (λvs H Q E h=>zQs hl h) λcdv A outer s H vs Q E hr h=>by
  obtain ⟨t,p,q⟩:=hb cdv A outer s H E hr
  exact ⟨t,p,zOx hf hl q h⟩
end
def W {α:Type} (m:Option α) (P:α->Prop):Prop:=∃ a,m = some a /\ P a
section
variable {α β S:Type}
theorem W_some:W (some a) P ↔ P a:=⟨λ⟨_,e,h⟩=>by cases e; exact h,λh=>⟨a,rfl,h⟩⟩
theorem zBk:W (none:Option α) P ↔ False:=⟨λ⟨_,e,_⟩=>(by cases e),False.elim⟩
theorem zB {m:Option α}:W (m.bind f) Q ↔ W m λa=>W (f a) Q:=by
 cases m with
 | none=>exact ⟨λ⟨_,e,_⟩=>(by cases e),λ⟨_,e,_⟩=>(by cases e)⟩
 | some a=>exact ⟨λh=>⟨a,rfl,h⟩,λ⟨_,e,h⟩=>by cases e; exact h⟩
theorem W_els:W ((Out.nx s:Out S β).els f) Q ↔ W (f s) Q:=Iff.rfl
theorem W_thn {S':Type} {f:S->Option (Out S' β)} {Q:Out S' β->Prop}:W ((Out.nx s:Out S β).thn f) Q ↔ W (f s) Q:=Iff.rfl
theorem W.imp {Q:α->Prop} (h:W m P) (f:∀ a,P a->Q a):W m Q:=let ⟨a,e,p⟩:=h; ⟨a,e,f a p⟩
theorem wF:W (modM a b) Q ↔ 0 < b /\ Q (a % b):=by
 unfold modM
 split
 ·rename_i h; rw [W_some]; exact ⟨λq=>⟨h,q⟩,λq=>q.2⟩
 ·rename_i h; rw [zBk]; exact ⟨False.elim,λq=>h q.1⟩
theorem vK:W (divM a b) Q ↔ (0 < b /\ b < 1073741824) /\ Q (a / b):=by
 unfold divM
 split
 ·rename_i h; rw [W_some]; exact ⟨λq=>⟨h,q⟩,λq=>q.2⟩
 ·rename_i h; rw [zBk]; exact ⟨False.elim,λq=>h q.1⟩
theorem W_mul:W (mulM a b) Q ↔ ((-(2 ^ 64) < a /\ a < 2 ^ 64) \/ (-(2 ^ 64) < b /\ b < 2 ^ 64)) /\ Q (a * b):=by
 unfold mulM
 split
 ·rename_i h; rw [W_some]; exact ⟨λq=>⟨h,q⟩,λq=>q.2⟩
 ·rename_i h; rw [zBk]; exact ⟨False.elim,λq=>h q.1⟩
theorem W_pow:W (powM a b) Q ↔ (0 <= b /\ b <= 1000000 /\ a.natAbs < 2 ^ 64) /\ Q (a ^ b.toNat):=by
 unfold powM
 split
 ·rename_i h; rw [W_some]; exact ⟨λq=>⟨h,q⟩,λq=>q.2⟩
 ·rename_i h; rw [zBk]; exact ⟨False.elim,λq=>h q.1⟩
theorem zAl:W (push xs a) Q ↔ xs.length < cap /\ Q (xs ++ [a]):=by
 unfold push
 split
 ·rename_i h; rw [W_some]; exact ⟨λq=>⟨h,q⟩,λq=>q.2⟩
 ·rename_i h; rw [zBk]; exact ⟨False.elim,λq=>h q.1⟩
def rng (n:Int):LI:=(List.range n.toNat).map Int.ofNat
theorem vP:W (wL n) Q ↔ (-(2 ^ 62) <= n /\ n < 2 ^ 62) /\ Q (rng n):=by
 unfold wL rng
 split
 ·rename_i h; rw [W_some]; exact ⟨λq=>⟨h,q⟩,λq=>q.2⟩
 ·rename_i h; rw [zBk]; exact ⟨False.elim,λq=>h q.1⟩
theorem zDk {n:Int} {i:Nat} {x:Int} (h:(rng n)[i]? = some x):x = i /\ (i:Int) < n:=by
 obtain ⟨a,b⟩:=zFq h
 exact ⟨b,by omega⟩
theorem mem_rng:x ∈ rng n ↔ 0 <= x /\ x < n:=by
 unfold rng
 rw [mem_map]
 constructor
 ·rintro ⟨a,h,rfl⟩
  rw [mem_range] at h
  exact ⟨Int.natCast_nonneg _,by show (a:Int) < n; omega⟩
 ·intro ⟨h1,h2⟩
  exact ⟨x.toNat,mem_range.mpr (by omega),by show ((x.toNat:Nat):Int) = x; omega⟩
theorem wU (h:0 <= i):L2.atI xs i = xs[i.toNat]?:=by
 unfold L2.atI ixN
 rw [if_pos h]
 by_cases q:i < xs.length
 ·rw [if_pos q]; rfl
 ·rw [if_neg q,List.getElem?_eq_none (by omega)]; rfl
theorem W_at (h0:0 <= i):W (L2.atI xs i) Q ↔ ∃ a,xs[i.toNat]? = some a /\ Q a:=by
 rw [wU h0]
 exact Iff.rfl
theorem zJb {xs:List α} {i:Int} {a:α} (h0:0 <= i) (h1:i < xs.length):zFn xs i a = some (xs.set i.toNat a):=by
 unfold zFn ixN
 rw [if_pos h0,if_pos h1]
 rfl
theorem wX {step:S->α->Option S} {Q:S->Prop} (I:Nat->S->Prop) (h0:I 0 s) (hs:∀ i x s,xs[i]? = some x->I i s->W (step s x) (I (i + 1))) (hd:∀ s,I xs.length s->Q s):W (xC step xs s) Q:=by
 have key:∀ (ys:List α) (i:Nat) (s:S),(∀ j x,ys[j]? = some x->xs[i + j]? = some x)->i + ys.length = xs.length->I i s->W (xC step ys s) Q:=by
  intro ys
  induction ys with
  | nil=>intro i s _ hl h; exact ⟨s,rfl,hd s ((show i = xs.length from hl) ▸ h)⟩
  | cons y ys ih =>
   intro i s hy hl h
   show W ((step s y).bind λs'=>xC step ys s') Q
   rw [zB]
   refine (hs i y s (hy 0 y rfl) h).imp λs' h'=>ih (i + 1) s' (λj x hx=>?_) (by rw [length_cons] at hl; omega) h'
   have:=hy (j + 1) x (by simpa using hx)
   rw [show i + 1 + j = i + (j + 1) by omega]
   exact this
 exact key xs 0 s (λj x h=>by rw [Nat.zero_add]; exact h) (Nat.zero_add _) h0
theorem zK5 {step:S->α->Option (Out S β)}:uD step (x :: xs) s = (step s x).bind λo=>o.thn λs'=>uD step xs s':=by
 rw [uD]
 congr 1
theorem zGe {step:S->α->Option (Out S β)} {Q:Out S β->Prop} (I:Nat->S->Prop) (h0:I 0 s) (hs:∀ i x s,xs[i]? = some x->I i s->W (step s x) λo=>∃ s',o = .nx s' /\ I (i + 1) s') (hd:∀ s,I xs.length s->Q (.nx s)):W (uD step xs s) Q:=by
 have key:∀ (ys:List α) (i:Nat) (s:S),(∀ j x,ys[j]? = some x->xs[i + j]? = some x)->i + ys.length = xs.length->I i s->W (uD step ys s) Q:=by
  intro ys
  induction ys with
  | nil=>intro i s _ hl h; exact ⟨.nx s,rfl,hd s ((show i = xs.length from hl) ▸ h)⟩
  | cons y ys ih =>
   intro i s hy hl h
   rw [zK5,zB]
   refine (hs i y s (hy 0 y rfl) h).imp ?_
   rintro o ⟨s',rfl,h'⟩
   refine ih (i + 1) s' (λj x hx=>?_) (by rw [length_cons] at hl; omega) h'
   have:=hy (j + 1) x (by simpa using hx)
   rw [show i + 1 + j = i + (j + 1) by omega]
   exact this
 exact key xs 0 s (λj x h=>by rw [Nat.zero_add]; exact h) (Nat.zero_add _) h0
theorem W_while {c:S->Option Bool} {body:S->Option S} (I:S->Prop) (μ:S->Nat) (h0:I s) (hk:μ s < k) (hs:∀ s,I s->W (c s) λb=>if b = true then W (body s) λs'=>I s' /\ μ s' < μ s else Q s):W (zCx c body k s) Q:=by
 induction k generalizing s with
 | zero=>omega
 | succ k ih =>
  show W ((c s).bind λb=>if b = true then (body s).bind λs'=>zCx c body k s' else some s) Q
  rw [zB]
  refine (hs s h0).imp λb h=>?_
  cases b with
  | true =>
   have h:W (body s) λs'=>I s' /\ μ s' < μ s:=by simpa using h
   simp only [if_true]
   rw [zB]
   exact h.imp λs' ⟨h1,h2⟩=>ih h1 (by omega)
  | false=>simpa [W_some] using h
theorem zHo (c:α->Bool) (f:α->β):∀ xs:List α,xV (λx=>some (c x)) (λx=>some (f x)) xs = some ((xs.filter c).map f)
 | []=>rfl
 | x :: xs=>by
  have ih:=zHo c f xs
  show (some (c x)).bind _ = _
  cases h:c x with
  | true =>
   show ((some (f x)).bind λy=>(xV _ _ xs).bind λys=>some (y :: ys)) = _
   rw [ih,filter_cons,if_pos h]
   rfl
  | false =>
   show xV _ _ xs = _
   rw [ih,filter_cons,if_neg (by rw [h]; decide)]
theorem zOn (c:α->Bool) (f:α->β):W (xN (λx=>some (c x)) (λx=>some (f x)) xs) Q ↔ xs.length < cap /\ Q ((xs.filter c).map f):=by
 unfold xN
 split
 ·rename_i h; rw [zHo,W_some]; exact ⟨λq=>⟨h,q⟩,λq=>q.2⟩
 ·rename_i h; rw [zBk]; exact ⟨False.elim,λq=>h q.1⟩
theorem zNq (xs:List α):xs.filter (λ_=>true) = xs:=filter_eq_self.mpr λ_ _=>rfl
theorem zOm (f:α->β):W (xN (λ_=>some true) (λx=>some (f x)) xs) Q ↔ xs.length < cap /\ Q (xs.map f):=by
 rw [zOn (λ_=>true) f,zNq]
theorem zAp [Decidable c]:W (if c then a else b) Q ↔ (c->W a Q) /\ (¬ c->W b Q):=by
 by_cases h:c
 ·rw [if_pos h]; exact ⟨λq=>⟨λ_=>q,λn=>absurd h n⟩,λq=>q.1 h⟩
 ·rw [if_neg h]; exact ⟨λq=>⟨λn=>absurd n h,λ_=>q⟩,λq=>q.2 h⟩
theorem yS (h:n <= 1000):n < cap:=Nat.lt_of_le_of_lt h (by decide)
def Rise (n:Int) (xs:LI):Prop:=xs.Pairwise (· < ·) /\ ∀ x ∈ xs,0 <= x /\ x < n
theorem Rise.nodup (h:Rise n xs):xs.Nodup:=h.1.imp λq=>Int.ne_of_lt q
theorem zMa (h:Rise k xs) (h0:0 <= k) (hk:k < n):Rise n (xs ++ [k]):=by
 refine ⟨List.pairwise_append.mpr ⟨h.1,by simp,λx hx y hy=>?_⟩,λx hx=>?_⟩
 ·rw [mem_singleton.mp hy]; exact (h.2 x hx).2
 ·rcases mem_append.mp hx with q | q
  ·have:=h.2 x q; omega
  ·rw [mem_singleton.mp q]; omega
theorem rise_up (h:Rise n xs) (l:n <= m):Rise m xs:=⟨h.1,λx hx=>by have:=h.2 x hx; omega⟩
theorem zBb:∀ {n:Nat} {xs:LI},xs.Nodup->(∀ x ∈ xs,0 <= x /\ x < (n:Int))->xs.length <= n
 | 0,xs,_,h=>by
  cases xs with
  | nil=>exact Nat.le_refl _
  | cons x xs=>have:=h x mem_cons_self; omega
 | n + 1,xs,nd,h=>by
  by_cases q:(n:Int) ∈ xs
  ·have l:=List.length_erase_of_mem q
   have ih:=zBb (n:=n) (xs:=xs.erase (n:Int)) (nd.erase _) λx hx=>by
    have h1:=h x (List.mem_of_mem_erase hx)
    have h2:x ≠ (n:Int):=λe=>by rw [e] at hx; exact (Nodup.not_mem_erase nd) hx
    omega
   omega
  ·have ih:=zBb (n:=n) nd λx hx=>by
    have h1:=h x hx
    have h2:x ≠ (n:Int):=λe=>q (e ▸ hx)
    omega
   omega
end
end Ts
namespace L2
open PySem PySem.Spec PyProof.Rows
theorem zNl:∀ {ns:LI} {its:List Value},Vals (ns.map V.int) its->IntsAre its ns
 | [],[],_=>.nil
 | n :: ns,_ :: its,h=>by
  cases h with
  | cons r t =>
   obtain ⟨k,rfl⟩:=r
   exact .cons n k (zNl t)
theorem zAq:∀ {ns:LI} {its:List Value},IntsAre its ns->Vals (ns.map V.int) its
 | _,_,.nil=>.nil
 | _,_,.cons n t h=>.cons ⟨t,rfl⟩ (zAq h)
section
variable {X:Cx}
def rSort (K:PySem.W.Frag):List V->Hp->VK->Prop:=λxs H Q=>∃ (p:Addr) (ns:LI),xs = [.ref p] /\ SqL K H p (ns.map V.int) /\ ns.length < 64 /\ ∀ (l:Addr) (ns':LI),H l = none->ns'.Perm ns->ns'.Pairwise (· <= ·)->Q (.ref l) (upd H l (.lst (ns'.map V.int)))
theorem zLc (K:PySem.W.Frag) (hK:X.K = K:=by rfl):zBu X (.builtin "sorted") (rSort K):=by
 subst hK
 intro pins s σ H xs us Q I r h
 obtain ⟨p,ns,rfl,hq,h64,q⟩:=h
 obtain ⟨u,rfl,rx⟩:=zGi r
 cases rx
 obtain ⟨its,r',pl,hz⟩:=I.list hq
 have hl:=r'.length
 rw [length_map] at hl
 refine sorted_ints pl.isList (zNl r') (by omega) λout ns' a1 a2 a3=>?_
 obtain ⟨e,he⟩:=sortedAll_at s.heap its out
 have fr:H (s.heap.objs.size + 1) = none:=I.hok.fresh (Nat.le_succ _)
 refine ⟨.ref (s.heap.objs.size + 1),_,I.laid (t':=s.toks) (o:=.lst (ns'.map V.int)) (λb ob w=>sortedAll_old w) (Nat.le_succ _) ?_,rfl,q _ ns' fr a2 a3⟩
 refine ⟨?_,out.toList,e,zAq a1,?_⟩
 ·rw [length_map,a2.length_eq]
  exact Nat.le_of_lt (Nat.lt_trans h64 (by decide))
 ·rw [toArray_toList]
  exact he
theorem zH3 {bs:List Bool} (r:Vals (bs.map V.bl) its):TruthOf prog w A (λi v=>its.toArray[i]? = some v) (λi=>bs.getD i false):=by
 intro i v s Q E hv hq
 have hv:its[i]? = some v:=by simpa using hv
 have hi:i < bs.length:=by
  have:=(List.getElem?_eq_some_iff.mp hv).1
  rw [<- r.length,length_map] at this
  exact this
 obtain ⟨u,h1,h2⟩:=r.get (i:=i) (x:=.bl bs[i]) (by rw [getElem?_map,List.getElem?_eq_getElem hi] <;> rfl)
 rw [hv] at h1
 cases h1
 cases h2
 have hq:Q (bs.getD i false) s:=hq
 rw [getD_eq_getElem?_getD,List.getElem?_eq_getElem hi] at hq
 exact wpAny_truthy_bool hq
theorem zMe {bs:List Bool}:((List.range bs.length).all λi=>bs.getD i false) = bs.all id:=by
 rw [Bool.eq_iff_iff,all_eq_true,all_eq_true]
 constructor
 ·intro h x hx
  obtain ⟨i,hi,e⟩:=List.getElem_of_mem hx
  have z:=h i (mem_range.mpr hi)
  rw [getD_eq_getElem?_getD,List.getElem?_eq_getElem hi,e] at z
  exact z
 ·intro h i hi
  have hi:=mem_range.mp hi
  rw [getD_eq_getElem?_getD,List.getElem?_eq_getElem hi]
  exact h _ (getElem_mem hi)
def zQ0 (K:PySem.W.Frag) (f:List Bool->Bool):List V->Hp->VK->Prop:=λxs H Q=>∃ (p:Addr) (bs:List Bool),xs = [.ref p] /\ SqL K H p (bs.map V.bl) /\ Q (.bl (f bs)) H
theorem zBf {s:Shared} {h':Heap} (hk:∀ b o,b ∉ [s.heap.objs.size]->(s.heap.push { cls:=.type "list_iterator",data:=.fields #[.ref l,.int 0 0] }).get? b = some o->h'.get? b = some o) :
  ∀ b o,s.heap.get? b = some o->h'.get? b = some o:=λb o e=>hk b o (λm=>Nat.lt_irrefl _ (mem_singleton.mp m ▸ lt_size e)) (get?_push_of_some _ e)
theorem zOf (K:PySem.W.Frag) (hc:X.calm = true) (hK:X.K = K:=by rfl):zBu X (.builtin "all") (zQ0 K λbs=>bs.all id):=by
 subst hK
 intro pins s σ H xs us Q I r h
 obtain ⟨p,bs,rfl,hq,q⟩:=h
 obtain ⟨u,rfl,rx⟩:=zGi r
 cases rx
 obtain ⟨its,r',pl,hz⟩:=I.list hq
 have hl:=pl.isList
 have hlt:p < s.heap.objs.size:=by obtain ⟨_,e,_⟩:=hl; exact lt_size e
 refine call_all_walk (wpAny_pyIter_list hl ?_)
 refine ⟨_,_,_,_,_,_,_,rfl,Walks.list (A:=X.A.in1) (I.ok.hd hc) s.heap.objs.size p (Nat.ne_of_lt hlt) its.toArray,⟨⟨_,get?_push_size _ rfl,rfl,rfl⟩,hl.push _⟩,zH3 r',λh' tk hk=>?_⟩
 have hn:its.toArray.size = bs.length:=by
  rw [size_toArray,<- r'.length,length_map]
 rw [hn,zMe]
 exact ⟨.bl (bs.all id),H,I.kept (zBf hk),rfl,q⟩
end
section
variable {prog:Program} {w:World} {A:Around} {R:Result->Shared->Prop} {It:Addr} {fp wr:List Addr} {n:Nat} {P:Nat->Value->Prop} {St:Nat->Heap->Prop} {kw:List (Str × Value)}
end
section
variable {X:Cx} {e e2:Expr} {te td:TE} {p pos kpos:Pos}
end
end L2
namespace Ts
open PySem L2
def zK0 (ns:LI):LI:=ns.mergeSort (λa b=>decide (a <= b))
def zKk (ns:LI):Option LI:=if ns.length < 64 then some (zK0 ns) else none
theorem zEx (ns:LI):(zK0 ns).Perm ns:=List.mergeSort_perm _ _
theorem zHe (ns:LI):(zK0 ns).Pairwise (· <= ·):=by
 have:=List.pairwise_mergeSort (le:=λa b:Int=>decide (a <= b)) (λa b c h1 h2=>by simp at *; omega) (λa b=>by simp; omega) ns
 exact this.imp λh=>by simpa using h
theorem zDf:∀ {xs ys:LI},xs.Perm ys->xs.Pairwise (· <= ·)->ys.Pairwise (· <= ·)->xs = ys
 | [],ys,p,_,_=>(Perm.nil_eq p)
 | x :: xs,[],p,_,_=>by have:=p.length_eq; simp at this
 | x :: xs,y :: ys,p,h1,h2=>by
  have a1:=pairwise_cons.mp h1
  have a2:=pairwise_cons.mp h2
  have e:x = y:=by
   have q1:x ∈ y :: ys:=p.subset mem_cons_self
   have q2:y ∈ x :: xs:=p.symm.subset mem_cons_self
   rcases mem_cons.mp q1 with q1 | q1
   ·exact q1
   ·rcases mem_cons.mp q2 with q2 | q2
    ·exact q2.symm
    ·have:=a1.1 y q2; have:=a2.1 x q1; omega
  subst e
  rw [zDf (Perm.cons_inv p) a1.2 a2.2]
section
variable {K:PySem.W.Frag} {B:Bs} {sl:SL K} {md:Md} {t t1 t2:TE} {n:Bool}
theorem eo_sort (h:Ex B sl .hp t m):Eo B sl md (tCB (rSort K) (xF t tNil)) (m.bind zKk):=λc hc F O H σ Q s k=>by
 cases m with
 | none=>cases hc
 | some ns =>
  have hc:zKk ns = some c:=hc
  unfold zKk at hc
  split at hc
  case isFalse=>cases hc
  rename_i hl
  cases hc
  refine h ns rfl F O H σ _ s λv F' H' g r1=>?_
  obtain ⟨p,vs,rfl,z1,z2⟩:=r1
  have z3:vs = ns.map V.int:=z2.vals
  subst z3
  refine ⟨p,ns,rfl,SqL.of z1,hl,λl ns' hn p1 p2=>?_⟩
  rw [zDf (p1.trans (zEx ns).symm) p2 (zHe ns)]
  exact k l _ F' H' g hn (zAf _)
theorem zP6 (h:Ex B sl .hp t m):Ex B sl md (tCB (zQ0 K f) (xF t tNil)) (m.bind λbs=>some (f bs)):=λc hc F O H σ Q s k=>by
 cases m with
 | none=>cases hc
 | some bs =>
  cases (show some (f bs) = some c from hc)
  refine h bs rfl F O H σ _ s λv F' H' g r1=>?_
  obtain ⟨p,vs,rfl,z1,z2⟩:=r1
  have z3:vs = bs.map V.bl:=z2.vals
  subst z3
  exact ⟨p,bs,rfl,SqL.of z1,k _ F' H' g rfl⟩
theorem ex_neg (h:Ex B sl .hp t m):Ex B sl md (tUn (rU λi=>.int (-i)) t) (m.bind λa=>some (-a)):=λc hc F O H σ Q s k=>by
 cases m with
 | none=>cases hc
 | some a =>
  cases (show some (-a) = some c from hc)
  refine h a rfl F O H σ _ s λv F' H' g r1=>?_
  cases r1
  exact ⟨a,rfl,k _ F' H' g rfl⟩
end
section
variable {β:Type}
def gK (kvs:List (Key × β)) (k:Key):Option β:=(kvs.find? λkv=>decide (kv.1 = k)).map (·.2)
def pK (kvs:List (Key × β)) (k:Key) (v:β):List (Key × β):=if (kvs.any λkv=>decide (kv.1 = k)) = true then kvs.map (λkv=>if kv.1 = k then (kv.1,v) else kv) else kvs ++ [(k,v)]
abbrev dget (kvs:List (Key × β)) (k:Int):Option β:=gK kvs (Sum.inl k)
def dput (kvs:List (Key × β)) (k:Int) (v:β):Option (List (Key × β)):=if kvs.length < cap then some (pK kvs (Sum.inl k) v) else none
theorem zRd:∀ (kvs:List (Key × β)) (k j:Key) (v:β),gK (pK kvs k v) j = if j = k then some v else gK kvs j:=λkvs k j v=>by
 unfold pK
 cases a:(kvs.any λkv=>decide (kv.1 = k)) with
 | true =>
  rw [if_pos rfl]
  induction kvs with
  | nil=>cases a
  | cons x kvs ih =>
   unfold gK at ih ⊢
   rw [map_cons,find?_cons,find?_cons]
   by_cases e:x.1 = k
   ·rw [if_pos e]
    by_cases f:j = k
    ·subst f
     rw [decide_eq_true (show (x.1,v).1 = j from e),if_pos rfl]; rfl
    ·rw [decide_eq_false (show ¬ (x.1,v).1 = j from λz=>f (z.symm.trans e)),if_neg f]
     show Option.map (λx=>x.2) (List.find? (λkv=>decide (kv.1 = j)) (List.map (λkv=>if kv.1 = k then (kv.1,v) else kv) kvs)) = Option.map (λx=>x.2) (List.find? (λkv=>decide (kv.1 = j)) kvs)
     clear ih a
     induction kvs with
     | nil=>rfl
     | cons y kvs ih =>
      rw [map_cons,find?_cons,find?_cons]
      by_cases g:y.1 = k
      ·rw [if_pos g,decide_eq_false (show ¬ (y.1,v).1 = j from λz=>f (z.symm.trans g))]; exact ih
      ·rw [if_neg g]
       by_cases h:y.1 = j
       ·rw [decide_eq_true h]
       ·rw [decide_eq_false h]; exact ih
   ·rw [if_neg e]
    have a':(kvs.any λkv=>decide (kv.1 = k)) = true:=by rw [any_cons,decide_eq_false e,Bool.false_or] at a; exact a
    by_cases f:x.1 = j
    ·rw [decide_eq_true f,if_neg λz=>e (f.trans z)]
    ·rw [decide_eq_false f]; exact ih a'
 | false =>
  rw [if_neg (by decide)]
  unfold gK
  rw [List.find?_append]
  have hn:kvs.find? (λkv=>decide (kv.1 = k)) = none:=by
   rw [List.find?_eq_none]
   intro x hx
   have:=List.any_eq_false.mp a x hx
   exact this
  by_cases f:j = k
  ·subst f; rw [hn,if_pos rfl]; simp
  ·rw [if_neg f]
   cases kvs.find? (λkv=>decide (kv.1 = j)) with
   | none=>simp [Ne.symm f]
   | some y=>rfl
theorem zQ6 (kvs:List (Key × β)) (k:Key) (v:β):(pK kvs k v).length <= kvs.length + 1:=by
 unfold pK
 split
 ·rw [length_map]; omega
 ·rw [length_append]; exact Nat.le_refl _
end
section
variable {K:PySem.W.Frag} {α:Type} [Rp K α]
abbrev DR (K:PySem.W.Frag) {α:Type} [Rp K α] (F:Hp):Key × V->Key × α->Prop:=λx y=>x.1 = y.1 /\ rp K F x.2 y.2
theorem A2.any:∀ {ks:List (Key × V)} {kvs:List (Key × α)},A2 (DR K F) ks kvs->(ks.any λkv=>decide (kv.1 = k)) = (kvs.any λkv=>decide (kv.1 = k))
 | [],[],_=>rfl
 | _ :: _,_ :: _,h=>by rw [any_cons,any_cons,h.1.1,A2.any h.2]
 | [],_ :: _,h=>h.elim
 | _ :: _,[],h=>h.elim
theorem A2.val:∀ {ks:List (Key × V)} {kvs:List (Key × α)},A2 (DR K F) ks kvs->(gK kvs k = none /\ valV ks k = none) \/ ∃ a v,gK kvs k = some a /\ valV ks k = some v /\ rp K F v a
 | [],[],_=>.inl ⟨rfl,rfl⟩
 | x :: ks,y :: kvs,h=>by
  unfold gK valV
  rw [find?_cons,find?_cons,h.1.1]
  by_cases e:y.1 = k
  ·rw [decide_eq_true e]; exact .inr ⟨y.2,x.2,rfl,rfl,h.1.2⟩
  ·rw [decide_eq_false e]; exact A2.val h.2
 | [],_ :: _,h=>h.elim
 | _ :: _,[],h=>h.elim
theorem A2.putM (r:rp K F v a):∀ {ks:List (Key × V)} {kvs:List (Key × α)},A2 (DR K F) ks kvs->A2 (DR K F) (ks.map λkv=>if kv.1 = k then (kv.1,v) else kv) (kvs.map λkv=>if kv.1 = k then (kv.1,a) else kv)
 | [],[],_=>trivial
 | x :: ks,y :: kvs,h=>by
  rw [map_cons,map_cons]
  refine ⟨?_,A2.putM r h.2⟩
  by_cases e:x.1 = k
  ·rw [if_pos e,if_pos (h.1.1 ▸ e)]; exact ⟨h.1.1,r⟩
  ·rw [if_neg e,if_neg (h.1.1 ▸ e)]; exact h.1
 | [],_ :: _,h=>h.elim
 | _ :: _,[],h=>h.elim
theorem A2.put {F:Hp} {k:Key} {v:V} {a:α} (r:rp K F v a) {ks:List (Key × V)} {kvs:List (Key × α)} (h:A2 (DR K F) ks kvs):A2 (DR K F) (putK ks k v) (pK kvs k a):=by
 unfold putK pK
 rw [h.any]
 split
 ·exact h.putM r
 ·exact h.snoc ⟨rfl,r⟩
structure Dc (α:Type) where
 kv:List (Key × α)
instance:Rp K (Dc α):=⟨λF v d=>∃ p ks,v = .ref p /\ F p = some (.dK ks) /\ A2 (DR K F) ks d.kv,λs ⟨p,ks,h1,h2,h3⟩=>⟨p,ks,h1,s _ _ h2,h3.imp λ_ _ z=>⟨z.1,Rp.mono s z.2⟩⟩⟩
instance:Nn K (Dc α):=⟨λ⟨_,_,h,_⟩=>by rw [h]; intro e; cases e⟩
variable {B:Bs} {sl:SL K} {md:Md} {t t2:TE} {F H G:Hp} {O:Own} {σ:St} {u:TS} {al:Bool}
theorem zNs {kvs:List (Key × α)} (i:Nat) (hs:sl[i]? = some (.od kvs)):Ex B sl .hp (tVar i) (some (Dc.mk kvs)):=λa' ha F O H σ Q s k=>by
 cases ha
 obtain ⟨k0,z0⟩:=s
 obtain ⟨O1,O2,p,ks,rfl,h1,h2,_⟩:=z0.od_at hs
 exact ⟨_,h1,k _ F H (.refl k0) ⟨p,ks,rfl,k0.one.2.2,h2.imp λ_ _ z=>⟨z.1,Rp.mono k0.fh z.2⟩⟩⟩
theorem ex_din {m:Option Int} {m2:Option (Dc α)} (h:Ex B sl .hp t m) (h2:Ex B sl .hp t2 m2):Ex B sl md (tDIn t t2) (m.bind λk=>m2.bind λd=>some (dget d.kv k).isSome):=λc hc F O H σ Q s kk=>by
 obtain ⟨k,d,e1,e2,e3⟩:=zAo hc
 cases e3
 refine h k e1 F O H σ _ s λv F' H' g r1=>?_
 refine h2 d e2 F' O H' σ _ (s.grow g) λw F2 H2 g2 r2=>?_
 cases r1
 obtain ⟨p,ks,rfl,z1,z2⟩:=r2
 refine ⟨p,_,rfl,DGet.k (k:=Sum.inl k) z1,?_⟩
 have e:(valV ks (Sum.inl k:Key)).isSome = (dget d.kv k).isSome:=by
  rcases z2.val (k:=Sum.inl k) with ⟨q1,q2⟩ | ⟨a,v,q1,q2,_⟩
  ·show _ = (gK d.kv (Sum.inl k)).isSome; rw [q1,q2]; rfl
  ·show _ = (gK d.kv (Sum.inl k)).isSome; rw [q1,q2]; rfl
 rw [e]
 exact kk _ F2 H2 (g.trans g2) rfl
theorem sn_dput {kvs:List (Key × α)} {m:Option α} {mi:Option Int} {te ti:TE} (i:Nat) (hs:sl[i]? = some (.od kvs)) (hh:sl.all (λs=>!isHs s) = true) (hv:Ex B sl .fz te m) (hi:Ex B sl .hp ti mi) :
  Sn B sl (sDPut (tVar i) ti te) (λys=>sl.set i (.od ys)) (m.bind λa=>mi.bind λk=>dput kvs k a):=λys ha G D σ H s k=>by
 obtain ⟨a,ix,e1,e2,e3⟩:=zAo ha
 unfold dput at e3
 split at e3
 case isFalse=>cases e3
 rename_i hl
 cases e3
 obtain ⟨F,O,g,z⟩:=s
 refine hv a e1 F O H σ _ z λv F' H' gr r=>?_
 obtain ⟨p,ks,h1,h2,h3,_⟩:=(z.grow gr).chgD hs hh
 refine ⟨_,h1,?_⟩
 refine hi ix e2 F' O H' σ _ (z.grow gr) λw F2 H2 gr2 rw=>?_
 cases rw
 obtain ⟨p',ks',h1',h2',h3',h4'⟩:=((z.grow gr).grow gr2).chgD hs hh
 have e:=h1.symm.trans h1'
 cases e
 obtain ⟨O',z'⟩:=h4' (putK ks' (Sum.inl ix) v) (pK kvs (Sum.inl ix) a) (h3'.put (Rp.mono gr2.ff r))
 exact ⟨p,_,rfl,DPut.k (k:=Sum.inl ix) h2' (zA0 (by rw [h3'.len]; exact hl)),k _ _ ⟨F2,O',(g.trans gr.ff).trans gr2.ff,z'⟩⟩
end
end Ts
namespace L2
open PySem PySem.Spec PyProof.Rows
section
variable {X:Cx} {tg:Expr}
end
end L2
namespace Ts
open PySem L2
section
variable {K:PySem.W.Frag} {B:Bs} {sl:SL K} {t1 t2 t3:TE} {n:Bool}
end
section
variable {K:PySem.W.Frag} {B:Bs} {sl:SL K} {md:Md} {t:TE} {u:TS} {al:Bool} {α:Type} [Rp K α]
abbrev rInt1:List V->Hp->VK->Prop:=λxs H Q=>(∃ i,xs = [.int i] /\ Q (.int i) H) \/ ∃ k,xs = [.bl k] /\ Q (.int (if k then 1 else 0)) H
theorem ex_intb (h:Ex B sl .hp t m):Ex B sl md (tCB rInt1 (xF t tNil)) (m.bind λb=>some (if b = true then (1:Int) else 0)):=λc hc F O H σ Q s k=>by
 cases m with
 | none=>cases hc
 | some b =>
  cases (show some (if b = true then (1:Int) else 0) = some c from hc)
  refine h b rfl F O H σ _ s λv F' H' g r1=>?_
  cases r1
  exact .inr ⟨b,rfl,k _ F' H' g rfl⟩
end
end Ts
namespace L2
open PySem PySem.Spec PyProof.Rows
section
variable {X:Cx}
end
end L2
namespace Ts
open PySem L2
section
variable {K:PySem.W.Frag} {B:Bs} {sl:SL K} {md:Md} {t:TE} {α:Type} [Rp K α]
variable {S:Type} {n:Bool} {tb:TS}
def EiC (B:Bs) (sl sl2:SL K) (n:Bool) (wi:TI) {α:Type} [Rp K α] (mi:Option (List α)):Prop :=
 ∀ xs,mi = some xs->∀ (F:Hp) (O:Own) (H:Hp) (σ:St) (R:It->Hp->Prop),At B sl F O H σ->(∀ (J:It) (F':Hp) (O':Own) (H':Hp),Same F F'->At B sl2 F' O' H' σ->Yl K B F' n J xs->R J H')->wi σ H R
theorem sn_forC {L:S->SL K} {Lx:S->α->SL K} {step:S->α->Option S} (s0:S) (h0:Le sl sl0) (hi:EiC B sl0 (L s0) n wi mi) (hg:∀ s,Tg B (L s) n g (Lx s)) (hb:∀ s x,Sn B (Lx s x) tb L (step s x)) :
  Sn B sl (tFor wi g tb) L (mi.bind λxs=>xC step xs s0):=λs1 hs1 G D σ H q k=>by
 cases mi with
 | none=>cases hs1
 | some xs =>
  have hs1:xC step xs s0 = some s1:=hs1
  obtain ⟨F,O,g0,a⟩:=q.le h0
  refine hi xs rfl F O H σ _ a λJ F' O' H' gr a' yl=>?_
  refine ⟨λi m σ H=>m = xs.length - i /\ i <= xs.length /\ ∃ s,xC step (xs.take i) s0 = some s /\ Sg B F' (L s) σ H,⟨xs.length,rfl,Nat.zero_le _,s0,rfl,F',O',.refl _,a'⟩,?_⟩
  rintro i m σ H ⟨rfl,hil,s,hs,F2,O2,sf,a2⟩
  obtain ⟨y1,y2⟩:=yl i F2 O2 H sf a2.1
  by_cases hlt:i < xs.length
  ·obtain ⟨go,y3⟩:=y2 xs[i] (List.getElem?_eq_getElem hlt)
   obtain ⟨s',s'',e1,e2,e3⟩:=zE0 hs1 (List.getElem?_eq_getElem hlt)
   rw [hs] at e1
   cases e1
   refine .inr ⟨go,Sg B F' (L s''),λσ' H' z=>⟨xs.length - (i + 1),by omega,rfl,hlt,s'',e3,z⟩,λv H3 yd=>?_⟩
   obtain ⟨F3,g3,r3⟩:=y3 v H3 yd
   exact hg s v xs[i] F3 O2 H3 σ _ (a2.grow g3) r3 λσ' a'=>hb s xs[i] s'' e2 F' _ σ' H3 ⟨F3,O2,sf.trans g3.ff,a'⟩ λσ2 H2 z=>z
  ·have e:i = xs.length:=by omega
   subst e
   rw [take_length,hs1] at hs
   cases hs
   exact .inl ⟨y1 (Nat.le_refl _),k σ H ⟨F2,O2,(g0.trans gr).trans sf,a2⟩⟩
end
end Ts
namespace L2
open PySem
open PySem PySem.Spec PyProof.Rows
def Its (x:Str):It:=⟨λi _=>i < x.cps.size,λi H v H'=>H' = H /\ ∃ c,x.cps[i]? = some c /\ v = .str ⟨#[c]⟩,λi _=>x.cps.size <= i⟩
theorem zKg {P:Program} {w:World} {K:PySem.W.Frag} {tg:Expr} (it:Addr) (x:Str) (t:Tok):Turn P w K tg (Its x) [it] it (λi h=>h.IsStrIter it "str_ascii_iterator" x t i) where
 mem:=mem_singleton.mpr rfl
 obj:=λi h st b hb=>by
  have e:b = it:=mem_singleton.mp hb
  subst e
  obtain ⟨o,ho,hc,hd⟩:=st
  refine ⟨o,ho,λv z=>?_⟩
  rw [hd] at z
  cases z
 keep:=λi h h' st k=>by
  obtain ⟨o,ho,r⟩:=st
  exact ⟨o,k it (mem_singleton.mpr rfl) _ ho,r⟩
 item:=by
  intro X hP hw hK hc i pins s σ H E I hf st hg
  subst hP hw hK
  obtain ⟨f0,f1,f2,f3,f4,f5⟩:=hf it (mem_singleton.mpr rfl)
  refine (Walks.strAscii (prog:=X.prog) (w:=X.w) (I.ok.hd hc) it x t).item i s _ _ hg st λv h' tk hv st' kk=>?_
  obtain ⟨c,u,hx,rfl⟩:=hv
  have I1:Inv X pins σ H { s with heap:=h',toks:=tk }:=I.turned (λb o hb e=>kk b o (λz=>hb (mem_singleton.mp z)) e) f0 f1 f3 f4 f5
  obtain ⟨o,ho,hc,hd⟩:=id st'
  exact ⟨_,rfl,zP0 (s:={ s with heap:=h',toks:=tk }) (n:="str_ascii_iterator") ho hc hd (by decide) ⟨.str ⟨#[c]⟩,H,I1,⟨u,rfl⟩,⟨rfl,c,hx,rfl⟩,st',λb hb=>(hf b hb).1⟩⟩
 done:=by
  intro X hP hw hK hc i pins s σ H E I hf st hg
  subst hP hw hK
  obtain ⟨f0,f1,f2,f3,f4,f5⟩:=hf it (mem_singleton.mpr rfl)
  exact wpAny_pyNext_ascii_end (I.ok.hd hc) st (Array.getElem?_eq_none hg) λh' eb=>⟨rfl,I.turned (t':=s.toks) (λb o hb e=>eb b o hb e) f0 f1 f3 f4 f5⟩
 self:=λ_ _ _ _ _ st h=>wpAny_pyIter_striter_ascii st h
theorem zLp {P:Program} {w:World} {K:PySem.W.Frag} {tg:Expr} (it:Addr) (x:Str) (t:Tok):Turn P w K tg (Its x) [it] it (λi h=>h.IsStrIter it "str_iterator" x t i) where
 mem:=mem_singleton.mpr rfl
 obj:=λi h st b hb=>by
  have e:b = it:=mem_singleton.mp hb
  subst e
  obtain ⟨o,ho,hc,hd⟩:=st
  refine ⟨o,ho,λv z=>?_⟩
  rw [hd] at z
  cases z
 keep:=λi h h' st k=>by
  obtain ⟨o,ho,r⟩:=st
  exact ⟨o,k it (mem_singleton.mpr rfl) _ ho,r⟩
 item:=by
  intro X hP hw hK hc i pins s σ H E I hf st hg
  subst hP hw hK
  obtain ⟨f0,f1,f2,f3,f4,f5⟩:=hf it (mem_singleton.mpr rfl)
  refine (Walks.strWide (prog:=X.prog) (w:=X.w) (I.ok.hd hc) it x t).item i s _ _ hg st λv h' tk hv st' kk=>?_
  obtain ⟨c,u,hx,rfl⟩:=hv
  have I1:Inv X pins σ H { s with heap:=h',toks:=tk }:=I.turned (λb o hb e=>kk b o (λz=>hb (mem_singleton.mp z)) e) f0 f1 f3 f4 f5
  obtain ⟨o,ho,hc,hd⟩:=id st'
  exact ⟨_,rfl,zP0 (s:={ s with heap:=h',toks:=tk }) (n:="str_iterator") ho hc hd (by decide) ⟨.str ⟨#[c]⟩,H,I1,⟨u,rfl⟩,⟨rfl,c,hx,rfl⟩,st',λb hb=>(hf b hb).1⟩⟩
 done:=by
  intro X hP hw hK hc i pins s σ H E I hf st hg
  subst hP hw hK
  obtain ⟨f0,f1,f2,f3,f4,f5⟩:=hf it (mem_singleton.mpr rfl)
  exact wpAny_pyNext_wide_end (I.ok.hd hc) st (Array.getElem?_eq_none hg) λh' eb=>⟨rfl,I.turned (t':=s.toks) (λb o hb e=>eb b o hb e) f0 f1 f3 f4 f5⟩
 self:=λ_ _ _ _ _ st h=>wpAny_pyIter_striter_wide st h
section
variable {X:Cx} {tg:Expr}
def iStr (tl:TE):TI:=λσ H R=>tl σ H λx H1=>∃ y,x = .str y /\ R (Its y) H1
theorem pi_str (hl:PE X l tl):PI X tg l (iStr tl):=by
 intro pins s σ H R I h
 refine thn (hl pins s σ H _ I h) λv s1 ⟨x,H1,I1,r1,q1⟩=>?_
 obtain ⟨y,e,q⟩:=q1
 subst e
 obtain ⟨t,rfl⟩:=r1
 have fp:∀ b ∈ [s1.heap.objs.size],FpOk X pins H1 b:=λb hb=>by
  have e:b = s1.heap.objs.size:=mem_singleton.mp hb
  subst e
  exact I1.fpOk (Nat.le_refl _) (I1.hok.fresh (Nat.le_refl _))
 cases ha:y.cps.all (· < 128)
 ·exact wpAny_pyIter_wide ha ⟨s1.heap.objs.size,[s1.heap.objs.size],_,_,H1,rfl,I1.kept (t':=s1.toks) λb o e=>get?_push_of_some _ e,zLp _ y t,⟨_,get?_push_size _ rfl,rfl,rfl⟩,fp,q⟩
 ·exact wpAny_pyIter_ascii ha ⟨s1.heap.objs.size,[s1.heap.objs.size],_,_,H1,rfl,I1.kept (t':=s1.toks) λb o e=>get?_push_of_some _ e,zKg _ y t,⟨_,get?_push_size _ rfl,rfl,rfl⟩,fp,q⟩
end
end L2
namespace Ts
open PySem L2
section
variable {K:PySem.W.Frag} {B:Bs} {sl:SL K} {md:Md} {t ta tb tc:TE} {n:Bool}
def zFh (x:Str):List Str:=x.cps.toList.map λc=>(⟨#[c]⟩:Str)
theorem ei_str (h:Ex B sl .hp t mi):Ei B sl n (iStr t) (mi.bind λx=>some (zFh x)):=λxs hx F O H σ R a k=>by
 cases mi with
 | none=>cases hx
 | some x =>
  cases (show some (zFh x) = some xs from hx)
  refine h x rfl F O H σ _ a λv F' H' gr r=>?_
  cases r
  refine ⟨x,rfl,k _ F' H' gr λi F2 O2 H2 sf k2=>⟨λhl=>?_,λy hy=>?_⟩⟩
  ·show x.cps.size <= i
   unfold zFh at hl
   rw [length_map,length_toList] at hl
   exact hl
  ·unfold zFh at hy
   rw [getElem?_map,getElem?_toList] at hy
   cases e:x.cps[i]? with
   | none=>rw [e] at hy; cases hy
   | some c =>
    rw [e] at hy
    cases hy
    have hi:i < x.cps.size:=(Array.getElem?_eq_some_iff.mp e).1
    refine ⟨hi,λv H3 yd=>?_⟩
    obtain ⟨rfl,c',e',rfl⟩:=yd
    rw [e] at e'
    cases e'
    exact ⟨F2,.refl k2,rfl⟩
theorem zJy {f g:Int->Int->Bool} (h1:Ex B sl .hp ta m1) (h2:Ex B sl .hp tb m2) (h3:Ex B sl .hp tc m3) :
  Ex B sl md (zQr (rI0 λi j=>.bl (f i j)) (rI0 λi j=>.bl (g i j)) ta tb tc) (m1.bind λa=>m2.bind λb=>if f a b = true then m3.bind λc=>some (g b c) else some false):=λd hd F O H σ Q s k=>by
 obtain ⟨a,b,e1,e2,e3⟩:=zAo hd
 refine h1 a e1 F O H σ _ s λv F' H' g1 r1=>?_
 refine h2 b e2 F' O H' σ _ (s.grow g1) λw F2 H2 g2 r2=>?_
 cases r1
 cases r2
 refine ⟨a,b,rfl,rfl,_,rfl,?_⟩
 by_cases q:f a b = true
 ·rw [if_pos q] at e3 ⊢
  cases m3 with
  | none=>cases e3
  | some c =>
   cases (show some (g b c) = some d from e3)
   refine h3 c rfl F2 O H2 σ _ ((s.grow g1).grow g2) λu F3 H3 g3 r3=>?_
   cases r3
   exact ⟨b,c,rfl,rfl,k _ F3 H3 ((g1.trans g2).trans g3) rfl⟩
 ·rw [if_neg q] at e3 ⊢
  cases e3
  exact k _ F2 H2 (g1.trans g2) rfl
def rLenS:List V->Hp->VK->Prop:=λxs H Q=>∃ x:Str,xs = [.str x] /\ x.length < cap /\ Q (.int x.length) H
theorem zOd:zBu X (.builtin "len") rLenS:=by
 intro pins s σ H xs us Q I r h
 obtain ⟨x,rfl,hl,q⟩:=h
 exact zQd pins s σ H _ us Q I r ⟨_,_,rfl,⟨Nat.le_of_lt (zA0 hl),rfl⟩,q⟩
def lenS (x:Str):Option Int:=if x.length < cap then some (x.length:Int) else none
theorem ex_lenS (h:Ex B sl .hp t m):Ex B sl md (tCB rLenS (xF t tNil)) (m.bind lenS):=λc hc F O H σ Q s k=>by
 cases m with
 | none=>cases hc
 | some x =>
  have hc:lenS x = some c:=hc
  unfold lenS at hc
  split at hc
  case isFalse=>cases hc
  rename_i hl
  cases hc
  refine h x rfl F O H σ _ s λv F' H' g r1=>?_
  cases r1
  exact ⟨x,rfl,hl,k _ F' H' g rfl⟩
def inS (i j:Str):Bool:=!(Builtin.Str.occurrences j i 0 j.length 1).isEmpty
abbrev rInS:R2:=λx y H Q=>∃ i j,x = .str i /\ y = .str j /\ Q (.bl (!(Builtin.Str.occurrences j i 0 j.length 1).isEmpty)) H
theorem ex_inS (h1:Ex B sl .hp ta m1) (h2:Ex B sl .hp tb m2):Ex B sl md (tOp rInS ta tb) (m1.bind λa=>m2.bind λb=>some (inS a b)) :=
 zC6 (f:=λa b=>some (inS a b)) (λa b c v w H Q e r1 r2 q=>by
  cases e
  cases r1
  cases r2
  exact ⟨a,b,rfl,rfl,q⟩) h1 h2
theorem ex_inT {ws:List Str} (hT:∀ H,SqT K H p (ws.map V.str)) (h:Ex B sl .hp t m):Ex B sl md (tOp (rIn K false) t (tC (.ref p))) (m.bind λx=>some (decide (x ∈ ws))):=λc hc F O H σ Q s k=>by
 cases m with
 | none=>cases hc
 | some x =>
  cases (show some (decide (x ∈ ws)) = some c from hc)
  refine h x rfl F O H σ _ s λv F' H' g r1=>?_
  cases r1
  refine ⟨p,_,rfl,.inr (hT H'),Fl.flat (K:=K) x,zIq (K:=K) ws,?_⟩
  have:=zJv (K:=K) x ws
  simp only [Bool.false_eq_true,if_false]
  rw [show inV (V.str x) (ws.map V.str) = decide (x ∈ ws) from this]
  exact k _ F' H' g rfl
end
section
variable {P:Program} {w:World} {K:PySem.W.Frag} {mg:Str->Option Value} {base:Heap} {B:Bs} {sl:SL K} {al:Bool} {S β:Type} [Rp K β]
theorem zA7:Sn B sl zQp L none:=λa ha=>by cases ha
theorem zGa {A:Type} {as:A->SL K} {fM:A->Option Unit} (F:Fun K x qual st f fd) (S:FnScope N ps (zK st)) (hf:∀ a,(as a).all isF = true) (hl:∀ a,(as a).length = ps.length)
  (hb:∀ (cdv:Value) (A:Around) (outer:List Env) (s:Shared) (H:Hp) (E:XK),Room k (A.deeper (PyProof.Rows.envOfC qual (zK st) s.heap.objs.size f cdv)) ->
   ∃ t,PSs (cxOf CX0 P w K mg base N qual (zK st) f cdv A outer s H E).nox (xU st) t /\ ∀ Fa a,∃ L:Unit->SL K,Sn ⟨Fa,H⟩ (as a ++ replicate (N.length - ps.length) .un) t L (fM a)) :
  FnOk P w K mg base CX0 (k + 1) f fd ps (spF K al as fM) :=
 F.ok S (λvs H Q E h=>zQs hl h) λcdv A outer s H vs Q E hr h=>by
  obtain ⟨t,p,q⟩:=hb cdv A outer s H E hr
  refine ⟨t,p,?_⟩
  obtain ⟨a,b,Fa,s,hfa,r,kk⟩:=h
  have e:L2.start N vs = vs.map some ++ replicate (N.length - ps.length) none:=by
   unfold L2.start
   rw [r.len,hl]
  rw [e]
  obtain ⟨L,q⟩:=q Fa a
  exact q b hfa Fa _ _ H ⟨Fa,[],.refl _,⟨s,.refl _,λb o h=>.inl h,λx hx=>(by cases hx),(by simp)⟩,zDg _ (hf a) r⟩ λσ' H' ⟨F',O',g,a'⟩=>kk .non H' a'.1.h0 rfl
def fsI (a:Str) (i:Int):Option Str:=if i.natAbs.log2 < 1920 then some (a ++ Str.ofString (toString i)) else none
def fsS (a z:Str):Option Str:=if z.length <= 1000 then some (a ++ z) else none
theorem zRh (a:Str) (h:Ex B sl .hp t m):Ex B sl md (tFs a t) (m.bind (fsI a)):=λc hc F O H σ Q s k=>by
 cases m with
 | none=>cases hc
 | some i =>
  have hc:fsI a i = some c:=hc
  unfold fsI at hc
  split at hc
  case isFalse=>cases hc
  rename_i hl
  cases hc
  refine h i rfl F O H σ _ s λv F' H' g r1=>?_
  cases r1
  exact .inl ⟨i,rfl,hl,k _ F' H' g rfl⟩
theorem ex_fsS (a:Str) (h:Ex B sl .hp t m):Ex B sl md (tFs a t) (m.bind (fsS a)):=λc hc F O H σ Q s k=>by
 cases m with
 | none=>cases hc
 | some i =>
  have hc:fsS a i = some c:=hc
  unfold fsS at hc
  split at hc
  case isFalse=>cases hc
  rename_i hl
  cases hc
  refine h i rfl F O H σ _ s λv F' H' g r1=>?_
  cases r1
  exact .inr ⟨i,rfl,hl,k _ F' H' g rfl⟩
theorem ki_ss:kitOne K (.type "str") (.type "str") = some true:=rfl
theorem zOg:bootBuiltins "str" = some (.type "str"):=by decide +kernel
end
section
variable {β:Type}
abbrev zHl (kvs:List (Key × β)) (k:Str):Option β:=gK kvs (Sum.inr k)
def zN7 (kvs:List (Key × β)) (k:Str) (v:β):Option (List (Key × β)):=if kvs.length < cap then some (pK kvs (Sum.inr k) v) else none
end
section
variable {K:PySem.W.Frag} {α:Type} [Rp K α]
variable {B:Bs} {sl:SL K} {md:Md} {t t2:TE} {F H G:Hp} {O:Own} {σ:St} {u:TS} {al:Bool}
theorem ex_dinS {m:Option Str} {m2:Option (Dc α)} (h:Ex B sl .hp t m) (h2:Ex B sl .hp t2 m2):Ex B sl md (tDIn t t2) (m.bind λk=>m2.bind λd=>some (zHl d.kv k).isSome):=λc hc F O H σ Q s kk=>by
 obtain ⟨k,d,e1,e2,e3⟩:=zAo hc
 cases e3
 refine h k e1 F O H σ _ s λv F' H' g r1=>?_
 refine h2 d e2 F' O H' σ _ (s.grow g) λw F2 H2 g2 r2=>?_
 cases r1
 obtain ⟨p,ks,rfl,z1,z2⟩:=r2
 refine ⟨p,_,rfl,DGet.k (k:=Sum.inr k) z1,?_⟩
 have e:(valV ks (Sum.inr k:Key)).isSome = (zHl d.kv k).isSome:=by
  rcases z2.val (k:=Sum.inr k) with ⟨q1,q2⟩ | ⟨a,v,q1,q2,_⟩
  ·show _ = (gK d.kv (Sum.inr k)).isSome; rw [q1,q2]; rfl
  ·show _ = (gK d.kv (Sum.inr k)).isSome; rw [q1,q2]; rfl
 rw [e]
 exact kk _ F2 H2 (g.trans g2) rfl
theorem zO5 {kvs:List (Key × α)} {m:Option α} {mi:Option Str} {te ti:TE} (i:Nat) (hs:sl[i]? = some (.od kvs)) (hh:sl.all (λs=>!isHs s) = true) (hv:Ex B sl .fz te m) (hi:Ex B sl .hp ti mi) :
  Sn B sl (sDPut (tVar i) ti te) (λys=>sl.set i (.od ys)) (m.bind λa=>mi.bind λk=>zN7 kvs k a):=λys ha G D σ H s k=>by
 obtain ⟨a,ix,e1,e2,e3⟩:=zAo ha
 unfold zN7 at e3
 split at e3
 case isFalse=>cases e3
 rename_i hl
 cases e3
 obtain ⟨F,O,g,z⟩:=s
 refine hv a e1 F O H σ _ z λv F' H' gr r=>?_
 obtain ⟨p,ks,h1,h2,h3,_⟩:=(z.grow gr).chgD hs hh
 refine ⟨_,h1,?_⟩
 refine hi ix e2 F' O H' σ _ (z.grow gr) λw F2 H2 gr2 rw=>?_
 cases rw
 obtain ⟨p',ks',h1',h2',h3',h4'⟩:=((z.grow gr).grow gr2).chgD hs hh
 have e:=h1.symm.trans h1'
 cases e
 obtain ⟨O',z'⟩:=h4' (putK ks' (Sum.inr ix) v) (pK kvs (Sum.inr ix) a) (h3'.put (Rp.mono gr2.ff r))
 exact ⟨p,_,rfl,DPut.k (k:=Sum.inr ix) h2' (zA0 (by rw [h3'.len]; exact hl)),k _ _ ⟨F2,O',(g.trans gr.ff).trans gr2.ff,z'⟩⟩
end
abbrev LLI:=List LI
abbrev MKs:=List (Str × LI)
structure RefTo (p:Addr) where
 u:Unit
def mkG (C:Addr) (fS:LLI->Option Unit) (fM:MKs->Int->Option Unit) (fF:LLI->Int->Option Unit) (fC fO:LLI->Option LLI) (xss:LLI) (mo:Option MKs) (fo:Option LLI):Option (Mach C) :=
 (fS xss).bind λ_=>(fM (mo.getD []) (xss.length:Int)).bind λ_=>(fF (fo.getD []) (xss.length:Int)).bind λ_=>(fC xss).bind λa=>(xN (λ_=>some true) (λx:Str × LI=>some (x.1,x.2)) (mo.getD [])).bind λb =>
  (fC (fo.getD [])).bind λc=>(fO a).bind λd=>some ⟨a,b,c,d⟩
theorem uO {α β:Type} {m:Option α} {f:α->Option β} {b:β} (h:m.bind f = some b):∃ a,m = some a /\ f a = some b:=by
 cases m with
 | none=>cases h
 | some a=>exact ⟨a,rfl,h⟩
section
variable {K:PySem.W.Frag} {C:Addr} {B:Bs} {sl:SL K} {F H:Hp} {O:Own} {σ:St}
instance:Rp K (RefTo p):=⟨λ_ v _=>v = .ref p,λ_ h=>h⟩
def zLw (K:PySem.W.Frag) (C:Addr) (mk:LLI->Option MKs->Option LLI->Option (Mach C)):Sp:=λvs H Q _=>∃ (p dx:Addr) (vS vM vF:V) (xss:LLI) (mo:Option MKs) (fo:Option LLI) (M:Mach C),vs = [.ref p,vS,vM,vF] /\ H p = some (.ins C dx []) /\
 rp K (hid H p) vS xss /\ rp K (hid H p) vM mo /\ rp K (hid H p) vF fo /\ mk xss mo fo = some M /\ ∀ H':Hp,(∀ b o,b ≠ p->H b = some o->H' b = some o)->rp K (dif H' (hid H p)) (.ref p) M->Q .non H'
variable {mk:LLI->Option MKs->Option LLI->Option (Mach C)}
theorem zOy {H1:Hp} {x dx:Addr} (nx:H1 x = none) (ndx:H1 dx = none) {vS vM vF:V} {xss:LLI} {mo:Option MKs} {fo:Option LLI} {c:Mach C} (rS:rp K H1 vS xss) (rM:rp K H1 vM mo) (rF:rp K H1 vF fo) (hc:mk xss mo fo = some c) {Q:VK} {E:XK}
  (k:∀ H2:Hp,Same H1 H2->rp K (dif H2 H1) (.ref x) c->Q (.ref x) H2):zLw K C mk [.ref x,vS,vM,vF] (upd (upd H1 dx (.own x)) x (.ins C dx [])) (λv H2=>v = .non /\ Q (.ref x) H2) E:=by
 have sG:Same H1 (upd (upd H1 dx (.own x)) x (.ins C dx [])):=λb o e=>by rw [zO (zS e nx),zO (zS e ndx)]; exact e
 have sh:Same H1 (hid (upd (upd H1 dx (.own x)) x (.ins C dx [])) x):=λb o e=>by
  unfold hid
  rw [if_neg (zS e nx)]
  exact sG b o e
 refine ⟨x,dx,vS,vM,vF,xss,mo,fo,c,rfl,zR,Rp.mono sh rS,Rp.mono sh rM,Rp.mono sh rF,hc,λH2 kp r2=>⟨rfl,?_⟩⟩
 refine k H2 (λb o e=>kp b o (zS e nx) (sG b o e)) (Rp.mono (λb o e=>?_) r2)
 have hb:H1 b = none:=by
  cases q:H1 b with
  | none=>rfl
  | some u =>
   have:hid (upd (upd H1 dx (.own x)) x (.ins C dx [])) x b = some u:=sh b u q
   unfold dif at e
   rw [this] at e
   cases e
 rw [xA hb]
 exact dif_le _ _ e
theorem zN5 (h1:Ex B sl .hp t1 m1) (h2:Ex B sl .hp t2 m2) (h3:Ex B sl .hp t3 m3) :
  En B sl (tMake C (zLw K C mk) [] E0 (xF t1 (xF t2 (xF t3 tNil)))) (m1.bind λa=>m2.bind λb=>m3.bind λc=>mk a (some b) (some c)):=λc hc F O H σ Q s kk=>by
 obtain ⟨a,rfl,hc⟩:=uO (m:=m1) hc
 obtain ⟨b,rfl,hc⟩:=uO (m:=m2) hc
 obtain ⟨d,rfl,hc⟩:=uO (m:=m3) hc
 refine h1 a rfl F O H σ _ s λv1 F1 H1 g1 r1=>?_
 refine h2 b rfl F1 O H1 σ _ (s.grow g1) λv2 F2 H2 g2 r2=>?_
 refine h3 d rfl F2 O H2 σ _ ((s.grow g1).grow g2) λv3 F3 H3 g3 r3=>?_
 intro x dx nx ndx nex
 have r2':rp K H2 v2 b:=r2
 have r3':rp K H3 v3 d:=r3
 exact zOy nx ndx (Rp.mono (g2.hh.trans g3.hh) r1) (show rp K H3 v2 (some b) from ⟨Nn.nn (K:=K) r2',Rp.mono g3.hh r2⟩) (show rp K H3 v3 (some d) from ⟨Nn.nn (K:=K) r3',r3⟩) hc λH4 s4 r4=>kk _ F3 H3 H4 (g1.trans (g2.trans g3)) s4 r4
theorem zDy (h:b ≠ p):hid H p b = H b:=by unfold hid; rw [if_neg h]
theorem zEy:hid H p p = none:=by unfold hid; rw [if_pos rfl]
theorem zHf:Same (hid H p) H:=λb o e=>by
 by_cases q:b = p
 ·subst q; rw [zEy] at e; cases e
 ·rw [zDy q] at e; exact e
theorem zBc (s:Same H H'):Same (hid H p) (hid H' p):=λb o e=>by
 by_cases q:b = p
 ·subst q; rw [zEy] at e; cases e
 ·rw [zDy q] at e ⊢; exact s b o e
theorem zAw:hid (upd H p o) p = hid H p:=by
 funext b
 by_cases q:b = p
 ·subst q; rw [zEy,zEy]
 ·rw [zDy q,zDy q,zO q]
theorem zJs (kp:∀ b o,b ≠ p->H b = some o->Hi b = some o) (hp:Hi p ≠ none):Same (dif H' Hi) (dif (hid H' p) (hid H p)):=λb o e=>by
 have hb:Hi b = none:=by
  cases q:Hi b with
  | none=>rfl
  | some u=>unfold dif at e; rw [q] at e; cases e
 have nb:b ≠ p:=λq=>hp (by rw [<- q]; exact hb)
 rw [xA hb] at e
 have h0:hid H p b = none:=by
  rw [zDy nb]
  cases q:H b with
  | none=>rfl
  | some u=>rw [kp b u nb q] at hb; cases hb
 rw [xA h0,zDy nb]
 exact e
theorem zRl (hs:SlotsOk (K:=K) ⟨hid Hi p,Hi⟩ (hid Hi p) (lo (hid Hi p) [] Hi) Hi sl σ []):At (K:=K) ⟨hid Hi p,Hi⟩ sl (hid Hi p) [] Hi σ :=
 ⟨⟨zHf,.refl _,λb o h=>.inl h,λx hx=>(by cases hx),by simp⟩,hs⟩
end
end Ts
namespace SetP
open PySem
def Rz (xs:Array Nat):Prop:=∀ i k a b:Nat,i < k->xs[i]? = some a->xs[k]? = some b->a < b
theorem zGc (hr:Rz xs):∀ (fuel lo hi:Nat),hi - lo <= fuel->lo <= hi->hi <= xs.size->(∀ i a,i < lo->xs[i]? = some a->a < j)->(∀ i a,hi <= i->xs[i]? = some a->j <= a) ->
  (below.go xs j fuel lo hi) <= xs.size /\ (∀ i a,i < below.go xs j fuel lo hi->xs[i]? = some a->a < j) /\ (∀ i a,below.go xs j fuel lo hi <= i->xs[i]? = some a->j <= a)
 | 0,lo,hi,hf,hl,hz,h1,h2=>by
  have e:lo = hi:=by omega
  subst e
  unfold below.go
  exact ⟨hz,h1,h2⟩
 | fuel + 1,lo,hi,hf,hl,hz,h1,h2=>by
  unfold below.go
  by_cases hlt:lo < hi
  ·rw [if_pos hlt]
   have hm:(lo + hi) / 2 < hi:=by omega
   have hm0:lo <= (lo + hi) / 2:=by omega
   have hms:(lo + hi) / 2 < xs.size:=by omega
   have e:xs.getD ((lo + hi) / 2) j = xs[(lo + hi) / 2]:=by simp [Array.getD,hms]
   dsimp only
   rw [e]
   by_cases hc:xs[(lo + hi) / 2] < j
   ·rw [if_pos hc]
    refine zGc hr fuel _ hi (by omega) (by omega) hz (λi a hi' ha=>?_) h2
    by_cases hi2:i = (lo + hi) / 2
    ·subst hi2
     rw [Array.getElem?_eq_getElem hms] at ha
     cases ha
     exact hc
    ·exact Nat.lt_trans (hr i ((lo + hi) / 2) a _ (by omega) ha (Array.getElem?_eq_getElem hms)) hc
   ·rw [if_neg hc]
    refine zGc hr fuel lo _ (by omega) (by omega) (by omega) h1 (λi a hi' ha=>?_)
    by_cases hi2:i = (lo + hi) / 2
    ·subst hi2
     rw [Array.getElem?_eq_getElem hms] at ha
     cases ha
     omega
    ·have:=hr ((lo + hi) / 2) i _ a (by omega) (Array.getElem?_eq_getElem hms) ha
     omega
  ·rw [if_neg hlt]
   have e:lo = hi:=by omega
   subst e
   exact ⟨hz,h1,h2⟩
theorem zGb (hr:Rz xs) (j:Nat):below xs j <= xs.size /\ (∀ i a,i < below xs j->xs[i]? = some a->a < j) /\ (∀ i a,below xs j <= i->xs[i]? = some a->j <= a) :=
 zGc hr xs.size 0 xs.size (by omega) (Nat.zero_le _) (Nat.le_refl _) (λi a h=>absurd h (Nat.not_lt_zero _)) (λi a h1 h2=>by
  rw [Array.getElem?_eq_none h1] at h2
  cases h2)
theorem ins_at {α:Type} (xs:Array α) (p:Nat) (x:α) (hp:p <= xs.size) (i:Nat):(insertAt xs p x)[i]? = if i < p then xs[i]? else if i = p then some x else xs[i - 1]?:=by
 have e:insertAt xs p x = (xs.toList.take p ++ x :: xs.toList.drop p).toArray:=by
  unfold insertAt
  apply Array.ext'
  simp
  rw [List.take_of_length_le (by rw [length_drop,length_toList]; exact Nat.le_refl _)]
 rw [e,getElem?_toArray]
 have hl:p <= xs.toList.length:=by simpa using hp
 by_cases h1:i < p
 ·rw [if_pos h1,getElem?_append_left (by rw [length_take]; omega),getElem?_take_of_lt h1,getElem?_toList]
 ·rw [if_neg h1,getElem?_append_right (by rw [length_take]; omega),length_take,Nat.min_eq_left hl]
  by_cases h2:i = p
  ·subst h2; simp
  ·rw [if_neg h2]
   obtain ⟨k,rfl⟩:∃ k,i = p + 1 + k:=⟨i - (p + 1),by omega⟩
   rw [show p + 1 + k - p = k + 1 by omega,List.getElem?_cons_succ,List.getElem?_drop,getElem?_toList]
   congr 1
   omega
theorem ins_rz (hr:Rz xs) (hn:xs[below xs j]? ≠ some j):Rz (insertAt xs (below xs j) j):=by
 obtain ⟨b1,b2,b3⟩:=zGb hr j
 intro i k a b hik ha hb
 rw [ins_at _ _ _ b1] at ha hb
 generalize below xs j = p at *
 have up:∀ m c,p <= m->xs[m]? = some c->j < c:=λm c hm hc=>by
  have h1:=b3 m c hm hc
  by_cases e:m = p
  ·subst e
   have:c ≠ j:=λz=>hn (by rw [hc,z])
   omega
  ·have hp:p < xs.size:=by
    have:m < xs.size:=by
     by_cases z:m < xs.size
     ·exact z
     ·rw [Array.getElem?_eq_none (by omega)] at hc; cases hc
    omega
   have h2:=hr p m _ c (by omega) (Array.getElem?_eq_getElem hp) hc
   have h3:=b3 p _ (Nat.le_refl _) (Array.getElem?_eq_getElem hp)
   omega
 by_cases i1:i < p
 ·rw [if_pos i1] at ha
  have ja:=b2 i a i1 ha
  by_cases k1:k < p
  ·rw [if_pos k1] at hb; exact hr i k a b hik ha hb
  ·rw [if_neg k1] at hb
   by_cases k2:k = p
   ·rw [if_pos k2] at hb; cases hb; exact ja
   ·rw [if_neg k2] at hb
    exact Nat.lt_trans ja (up (k - 1) b (by omega) hb)
 ·rw [if_neg i1] at ha
  have k1:¬ k < p:=by omega
  have k2:¬ k = p:=by omega
  rw [if_neg k1,if_neg k2] at hb
  by_cases i2:i = p
  ·rw [if_pos i2] at ha; cases ha; exact up (k - 1) b (by omega) hb
  ·rw [if_neg i2] at ha
   exact hr (i - 1) (k - 1) a b (by omega) ha hb
def Free (t:SetTable) (j:Nat):Prop:=t.place[below t.place j]? ≠ some j
theorem zGp {t:SetTable} (h:∀ i,t.slot j ≠ .live i):Free t j:=λe=>by
 refine h (below t.place j) ?_
 unfold SetTable.slot
 simp [e]
theorem zCc:∀ (fuel:Nat) (p:SetTable.Probe) (j:Nat) (d:Option Nat),(∀ d,p.dummy = some d->Free t d)->probe.go t f h fuel p = some (.empty j d)->Free t j /\ ∀ e,d = some e->Free t e
 | 0,p,j,d,hd,e=>by unfold probe.go at e; cases e
 | fuel + 1,p,j,d,hd,e=>by
  have adv:∀ q:SetTable.Probe,(t.advance q).dummy = q.dummy:=λq=>by
   unfold SetTable.advance
   split
   ·rfl
   ·rfl
  unfold probe.go at e
  cases hs:t.slot p.j with
  | empty =>
   rw [hs] at e
   cases e
   exact ⟨zGp (λi z=>by rw [hs] at z; cases z),hd⟩
  | dummy =>
   rw [hs] at e
   refine zCc fuel _ j d (λd' h'=>?_) e
   rw [adv] at h'
   cases h'
   exact zGp λi z=>by rw [hs] at z; cases z
  | live i =>
   rw [hs] at e
   dsimp only at e
   split at e
   ·cases e
   ·exact zCc fuel _ j d (λd' h'=>hd d' (by rw [adv] at h'; exact h')) e
theorem zF5 {t:SetTable} (e:t.freeSlot h = some (j,b)):Free t j:=by
 unfold SetTable.freeSlot at e
 split at e
 ·rename_i j' d hp
  cases e
  have q:=zCc (t:=t) _ _ j' d (λd h'=>by cases h') hp
  cases d with
  | none=>exact q.1
  | some d=>exact q.2 d rfl
 ·cases e
structure Tb (led:Bool) (t:SetTable):Prop where
 led:t.led = led
 rz:t.plain = true->Rz t.place
theorem zC8 (h:Tb led t) (n:Nat):Tb led (t.standIn n):=⟨h.led,λz=>by cases z⟩
theorem tb_or (h:Tb led t) (n:Nat):Tb led (t.orStandIn n):=by
 unfold SetTable.orStandIn
 split
 ·exact h
 ·exact zC8 h n
theorem tb_new (hb:Tb led t) (es:Array (Int × Value)) (h:Int) (x:Value):Tb led (layNew t es h x).2.1:=by
 unfold layNew
 cases e:t.freeSlot h with
 | none=>exact zC8 hb _
 | some q =>
  obtain ⟨j,b⟩:=q
  dsimp only
  refine tb_or (t:=(t.put j).1) ⟨hb.led,λz=>?_⟩ _
  exact ins_rz (hb.rz z) (zF5 e)
theorem zGt (f:Nat->Option Nat) (n:Nat):Rz (((List.range n).filterMap λj=>(f j).map (j,·)).map (·.1)).toArray:=by
 have hp:(((List.range n).filterMap λj=>(f j).map (j,·)).map (·.1)).Pairwise (· < ·):=by
  rw [pairwise_map]
  refine Pairwise.filterMap _ ?_ (List.pairwise_lt_range (n:=n))
  intro a b hab x hx y hy
  cases ea:f a with
  | none=>rw [ea] at hx; cases hx
  | some u =>
   cases eb:f b with
   | none=>rw [eb] at hy; cases hy
   | some v =>
    rw [ea] at hx
    rw [eb] at hy
    cases hx
    cases hy
    exact hab
 intro i k a b hik ha hb
 rw [getElem?_toArray] at ha hb
 obtain ⟨h1,e1⟩:=List.getElem?_eq_some_iff.mp ha
 obtain ⟨h2,e2⟩:=List.getElem?_eq_some_iff.mp hb
 rw [<- e1,<- e2]
 exact List.pairwise_iff_getElem.mp hp i k h1 h2 hik
theorem zOs (hb:Tb led t) (es:Array (Int × Value)) (n:Nat):Tb led (relayAll t es n).2.1:=by
 unfold relayAll
 cases e:t.relaid (es.map (·.1)) n with
 | none=>exact zC8 hb _
 | some q =>
  obtain ⟨t',order⟩:=q
  dsimp only
  split
  ·unfold SetTable.relaid SetTable.laid at e
   cases e2:SetTable.layClean (SetTable.sizeAbove n - 1) (es.map (·.1)) with
   | none=>rw [e2] at e; cases e
   | some owner =>
    rw [e2] at e
    cases e
    exact ⟨hb.led,λ_=>zGt _ _⟩
  ·exact zC8 hb _
theorem zOt (led:Bool):Tb led (.fresh 0 0 led):=⟨rfl,λ_=>λi k a b _ h _=>by
 have:(#[]:Array Nat)[i]? = some a:=h
 simp at this⟩
section
variable {prog:Program} {w:World} {κ:Type} [DecidableEq κ] (knd:KeyKind prog w κ) (dec:Value->κ)
def Good (led:Bool) (h:Heap) (a:Addr) (ks:List κ):Prop :=
 ∃ o es ep t,h.get? a = some o /\ o.ExactSet /\ o.data = .set es ep t /\ ElemsOf knd es.toList /\ (es.toList.map λe=>dec e.2).Perm ks /\ ks.Nodup /\ es.size < scanBound /\ t.fits es.size = true /\ Tb led t
variable {knd} {dec} {led:Bool} {A:Around} {E:Value->Shared->Prop} {s:Shared}
theorem Good.len (g:Good knd dec led h a ks):ks.length < scanBound:=by
 obtain ⟨o,es,ep,t,_,_,_,_,p,_,hb,_⟩:=g
 rw [<- p.length_eq,length_map,length_toList]
 exact hb
theorem Good.keep {h':Heap} (g:Good knd dec led h a ks) (k:∀ o,h.get? a = some o->h'.get? a = some o):Good knd dec led h' a ks:=by
 obtain ⟨o,es,ep,t,h1,rest⟩:=g
 exact ⟨o,es,ep,t,k _ h1,rest⟩
theorem zHi (hdec:∀ k v,knd.is k v = true->dec v = k) (hel:ElemsOf knd es) (k:κ):es.findIdx? (λe=>knd.is k e.2) = none ↔ k ∉ es.map λe=>dec e.2:=by
 rw [List.findIdx?_eq_none_iff]
 constructor
 ·intro h hm
  obtain ⟨e,he,rfl⟩:=mem_map.mp hm
  obtain ⟨⟨k',hk,_⟩,_⟩:=hel e he
  have:=h e he
  rw [hdec k' _ hk,hk] at this
  cases this
 ·intro h e he
  cases q:knd.is k e.2 with
  | false=>rfl
  | true=>exact absurd (mem_map.mpr ⟨e,he,hdec _ _ q⟩) h
theorem zC0 {h:Heap} (ho:h.get? a = some o) (hd:o.data = .set es ep t):(h.update a (Obj.putSet es' t')).get? a = some { o with data:=.set es' (ep + 1) t' }:=by
 have q:=get?_update_self (Obj.putSet es' t') ho (by rw [putSet_of es' t' hd]; rfl)
 rw [putSet_of es' t' hd] at q
 exact q
theorem zF4 {Q:Unit->Shared->Prop} (h:Q () s1):wpAny (model prog w) A (match b with | true=>rule "set.scan.the-table-gave-way" | false=>pure ()) Q E s1:=by
 cases b
 ·exact wpAny_pure h
 ·exact wpAny_rule h
theorem zJ7 {g:Bool->Sem Unit} (hg:∀ (b:Bool) (s₁:Shared) (Q':Unit->Shared->Prop),Q' () s₁->wpAny (model prog w) A (g b) Q' E s₁) {es1:Array (Int × Value)} {t2:SetTable} {R:Option Bool->Shared->Prop}
  (ho:s.heap.get? a = some o) (hx:o.ExactSet) (hd:o.data = .set es ep t) (hel:ElemsOf knd es1.toList) (hp:(es1.toList.map λe=>dec e.2).Perm ks) (nd:ks.Nodup) (hb:es1.size < scanBound) (hf:t2.fits es1.size = true) (tb:Tb led t2)
  (h:∀ h',SameBut a s.heap h'->Good knd dec led h' a ks->R (some true) { s with heap:=h' }) :
  wpAny (model prog w) A (storeSet a es1 t2 >>= λ_=>if (!dum && t2.tooFull) = true then (g (relayAll t2 es1 (grown es1.size)).2.2 >>= λ_=>storeSet a (relayAll t2 es1 (grown es1.size)).1 (relayAll t2 es1 (grown es1.size)).2.1 >>= λ_=>pure (some true)) else pure (some true)) R E s:=by
 refine wpAny_bind (wpAny_storeSet_of ho hd ?_ (fits_of_scanBound hb))
 have o1:=zC0 (es':=es1) (t':=t2) ho hd
 have sb:=SameBut.update s.heap a (Obj.putSet es1 t2)
 split
 ·have rp:=relayAll_perm t2 es1 (grown es1.size)
  have rf:=relayAll_fits t2 es1 (grown es1.size)
  have rt:=zOs tb es1 (grown es1.size)
  generalize relayAll t2 es1 (grown es1.size) = L at rp rf rt ⊢
  obtain ⟨es2,t3,gv⟩:=L
  dsimp only at rp rf rt ⊢
  have sz:es2.size = es1.size:=by rw [<- length_toList,rp.length_eq,length_toList]
  refine wpAny_bind (hg _ _ _ (wpAny_bind (wpAny_storeSet_of o1 rfl (wpAny_pure (h _ (sb.trans (SameBut.update _ a _)) ⟨_,es2,_,t3,zC0 (es':=es2) (t':=t3) o1 rfl,hx,rfl,hel.perm rp,(rp.map _).trans hp,nd,by rw [sz]; exact hb,rf,rt⟩)) (fits_of_scanBound (by rw [sz]; exact hb)))))
 ·exact wpAny_pure (h _ sb ⟨_,es1,_,t2,o1,hx,rfl,hel,hp,nd,hb,hf,tb⟩)
theorem tb_off (h:Tb led t):Tb led { t with plain:=false }:=⟨h.led,λz=>by cases z⟩
theorem zOk (hdec:∀ k v,knd.is k v = true->dec v = k) {Q:Bool->Shared->Prop} (hk:knd.is k x = true) (hs:x.scannable = true) (g:Good knd dec led s.heap a ks) (room:ks.length + 1 < scanBound)
  (h:∀ (h':Heap) (b:Bool),SameBut a s.heap h'->Good knd dec led h' a (if k ∈ ks then ks else k :: ks)->Q b { s with heap:=h' }) :
  wpAny (model prog w) A (setAddHashed a x (knd.hash k)) Q E s:=by
 obtain ⟨o,es,ep,t,ho,hx,hd,hel,hp,nd,hb,hf,tb⟩:=g
 have n:es.size = ks.length:=by rw [<- hp.length_eq,length_map,length_toList]
 unfold setAddHashed setAddHashedIn
 refine wpAny_holding (wpAny_bind (wpAny_setState_of ho hd hf ?_))
 dsimp only
 rw [byScan_of hs hb hel]
 simp only [↓reduceIte]
 unfold setAddByScan
 refine wpAny_bind (wpAny_bind (wpAny_rule (wpAny_bind (wpAny_setScan_of hk ho hd hf hel ?_))))
 have fi:=zHi hdec hel k
 cases hr:List.findIdx? (λe=>knd.is k e.2) es.toList with
 | some j =>
  have hm:k ∈ ks:=by
   refine hp.mem_iff.mp (Classical.byContradiction λz=>?_)
   rw [fi.mpr z] at hr
   cases hr
  dsimp only
  refine wpAny_pure (wpAny_pure ?_)
  have q:=h s.heap false (SameBut.refl a s.heap)
  rw [if_pos hm] at q
  exact q ⟨o,es,ep,t,ho,hx,hd,hel,hp,nd,hb,hf,tb⟩
 | none =>
  have hm:k ∉ ks:=λz=>fi.mp hr (hp.mem_iff.mpr z)
  dsimp only
  have lp:=layNew_perm t es (knd.hash k) x
  have lf:=layNew_fits t es (knd.hash k) x
  have lt:=tb_new tb es (knd.hash k) x
  generalize layNew t es (knd.hash k) x = L at lp lf lt ⊢
  obtain ⟨es1,t1,dum,gave⟩:=L
  dsimp only at lp lf lt ⊢
  rw [Array.toList_push] at lp
  have sz:es1.size = es.size + 1:=by rw [<- length_toList,lp.length_eq,length_append,length_toList]; rfl
  have hp1:(es1.toList.map λe=>dec e.2).Perm (k :: ks):=by
   refine (lp.map _).trans ?_
   rw [map_append]
   show (_ ++ [dec x]).Perm _
   rw [hdec k x hk]
   exact Perm.trans (l₂:=k :: es.toList.map λ(e:Int × Value)=>dec e.2) List.perm_append_comm (hp.cons k)
  have fin:∀ h',SameBut a s.heap h'->Good knd dec led h' a (k :: ks)->Q true { s with heap:=h' }:=λh' sb g'=>by
   have q:=h h' true sb
   rw [if_neg hm] at q
   exact q g'
  have nd1:(k :: ks).Nodup:=nodup_cons.mpr ⟨hm,nd⟩
  refine wpAny_bind (zF4 ?_)
  split
  ·refine wpAny_bind ?_
   rw [hashByValue_scannable 8 hs]
   refine wpAny_pure ?_
   refine zJ7 (led:=led) (dum:=dum) (λb s₁ Q' hq=>zF4 hq) ho hx hd ((hel.push hk hs).perm lp) hp1 nd1 (by rw [sz,n]; exact room) ?_ ?_ λh' sb g'=>?_
   ·split
    ·exact lf
    ·exact SetTable.fits_plain_off lf
   ·split
    ·exact lt
    ·exact tb_off lt
   ·exact wpAny_pure (fin h' sb g')
  ·refine wpAny_bind (wpAny_pure ?_)
   simp only [↓reduceIte]
   refine zJ7 (led:=led) (dum:=dum) (λb s₁ Q' hq=>zF4 hq) ho hx hd ((hel.push hk hs).perm lp) hp1 nd1 (by rw [sz,n]; exact room) lf lt λh' sb g'=>?_
   exact wpAny_pure (fin h' sb g')
end
open PySem PySem.Spec PyProof.Rows
section
variable {κ:Type} [DecidableEq κ]
def met (val:Nat->κ):Nat->List κ
 | 0=>[]
 | i + 1=>if val i ∈ met val i then met val i else val i :: met val i
theorem zM2 (val:Nat->κ):∀ i,(met val i).length <= i
 | 0=>Nat.le_refl _
 | i + 1=>by
  have ih:=zM2 val i
  unfold met
  split
  ·omega
  ·rw [length_cons]; omega
theorem zM5 (val:Nat->κ) (k:κ):∀ i,k ∈ met val i ↔ ∃ j,j < i /\ val j = k
 | 0=>by simp [met]
 | i + 1=>by
  have ih:=zM5 val k i
  have lt:(∃ j,j < i + 1 /\ val j = k) ↔ (∃ j,j < i /\ val j = k) \/ val i = k:=by
   constructor
   ·rintro ⟨j,hj,e⟩
    by_cases q:j = i
    ·subst q; exact .inr e
    ·exact .inl ⟨j,by omega,e⟩
   ·rintro (⟨j,hj,e⟩ | e)
    ·exact ⟨j,by omega,e⟩
    ·exact ⟨i,by omega,e⟩
  rw [lt,<- ih]
  show k ∈ (if val i ∈ met val i then met val i else val i :: met val i) ↔ _
  split
  ·rename_i hm
   exact ⟨.inl,λh=>h.elim id λe=>e ▸ hm⟩
  ·rw [mem_cons]
   exact ⟨λh=>h.elim (λe=>.inr e.symm) .inl,λh=>h.elim .inr λe=>.inl e.symm⟩
variable {prog:Program} {w:World} {knd:KeyKind prog w κ} {dec:Value->κ} {led:Bool} {A:Around} {R:Result->Shared->Prop} {I:Addr} {fp wr:List Addr} {G:Array GenState->Array GenState->Prop} {n:Nat} {P:Nat->Value->Prop} {St:Nat->Shared->Prop}
theorem loop_ok (hdec:∀ k v,knd.is k v = true->dec v = k) (W:WalksS prog w A.in1 I fp wr G n P St) (S:Addr) (off:S ∉ fp) (val:Nat->κ) (hval:∀ i v,P i v->knd.is (val i) v = true /\ v.scannable = true) (hb:n + 1 < scanBound) :
  ∀ (k i:Nat) (s:Shared),n - i = k->i <= n->St i s->Good knd dec led s.heap S (met val i)->(∀ s',Moved (S :: wr) G s s'->Good knd dec led s'.heap S (met val n)->R (.ok (.ret .none)) s')->codeAny (model prog w) A (.builtin "set.update.loop" ⟨[.ref S,.ref I],[]⟩) R s:=by
 have offw:S ∉ wr:=λh=>off (W.sub _ h)
 have sub:∀ b ∈ wr,b ∈ S :: wr:=λb hb=>mem_cons_of_mem _ hb
 intro k
 induction k with
 | zero =>
  intro i s hk hi st g fin
  have e:i = n:=by omega
  subst e
  refine codeAny_builtin F.entry_set_update_loop ?_
  rw [Around.under_plainId F.plain_set_update_loop _]
  refine wpAny_bind (m:=pyNext (.ref I)) (W.done s _ _ st λs' hm=>?_)
  exact wpAny_pure (fin s' (hm.mono sub) (g.keep λo h=>hm.heap S o offw h))
 | succ k ih =>
  intro i s hk hi st g fin
  have lt:i < n:=by omega
  refine codeAny_builtin F.entry_set_update_loop ?_
  rw [Around.under_plainId F.plain_set_update_loop _]
  refine wpAny_bind (m:=pyNext (.ref I)) (W.item i s _ _ lt st λv s' hP st' hm=>?_)
  obtain ⟨his,hsc⟩:=hval i v hP
  refine wpAny_bind (m:=holding [v] (setAdd S v)) (wpAny_holding ?_)
  unfold setAdd
  refine wpAny_holding (wpAny_bind (knd.pyHash (k:=val i) his ?_))
  refine zOk (led:=led) (s:={ s' with toks:=s'.toks + 1 }) hdec his hsc (g.keep λo h=>hm.heap S o offw h) (by have:=zM2 val i; omega) λh' b sb g'=>?_
  refine wpAny_pure ⟨plainId_quiet F.plain_set_update_loop _,ih (i + 1) _ (by omega) lt (W.frame _ s' _ _ st' (Nat.le_succ _) λb hb o e=>?_) g' λs'' hm'' g''=>?_⟩
  ·rw [sb.2 b (λh:b = S=>off (by rw [<- h]; exact hb))]; exact e
  ·refine fin s'' (Moved.trans W.gtrans ((hm.mono sub).then_heap (Nat.le_succ _) λb o hb e=>?_) hm'') g''
   rw [sb.2 b (λh:b = S=>hb (h ▸ mem_cons_self))]; exact e
end
section
variable {prog:Program} {w:World} {A:Around} {E:Value->Shared->Prop} {s:Shared}
def yM (w:World):Bool:=!w.params.followText "set-order"
theorem zPn (a:Value) {Q₁:Value->Shared->Prop} (h:Q₁ (.ref s.heap.objs.size) { s with heap:=s.heap.push { cls:=.type "set",dict:=none,data:=.set #[] 0 (.fresh 0 0 (yM w)) } }) :
  codeAny (model prog w) A (.call (.builtin "set.__new__") ⟨[.type "set",a],[]⟩) (wants Q₁ E) s:=by
 refine codeAny_of_tree (wpAny_bind (m:=checkBuiltinCall "set.__new__" ⟨[.type "set",a],[]⟩) (wpAny_of_eq (F.newCall_set_1 a) (wpAny_pure ⟨plainId_quiet F.plain_set_new _,codeAny_builtin F.entry_set_new ?_⟩)))
 rw [Around.under_plainId F.plain_set_new _]
 unfold Builtin.«set.__new__» Builtin.Frozenset.newClass
 have sub:=sub_set_self
 obtain ⟨hp,g,d,tk,os⟩:=s
 dsimp only
 wp_walk
 refine wpAny_askSetting (wpAny_pure ?_)
 dsimp only
 simp only [newObj]
 exact wpAny_bind (wpAny_alloc (wpAny_pure (wpAny_pure h)))
theorem zF3 {κ:Type} [DecidableEq κ] {knd:KeyKind prog w κ} {dec:Value->κ} {h:Heap} (e:h.get? a = some { cls:=.type "set",dict:=none,data:=.set #[] 0 (.fresh 0 0 led) }):Good knd dec led h a [] :=
 ⟨_,#[],0,.fresh 0 0 led,e,⟨rfl,rfl,rfl⟩,rfl,λx hx=>by simp at hx,by simp,List.nodup_nil,by show 0 < 4096; decide,by cases led <;> rfl,zOt led⟩
set_option maxHeartbeats 4000000 in
theorem zQc {κ:Type} [DecidableEq κ] {knd:KeyKind prog w κ} {dec:Value->κ} (hdec:∀ k v,knd.is k v = true->dec v = k) {Q:Value->Shared->Prop} (val:Nat->κ) (hh:A.handled = none) (hl:s.heap.IsList l items)
  (hi:∀ (i:Nat) (v:Value),items[i]? = some v->knd.is (val i) v = true /\ v.scannable = true) (hb:items.size + 1 < scanBound)
  (h:∀ (h':Heap) (tk:Nat),Good knd dec (yM w) h' s.heap.objs.size (met val items.size)->(∀ b o,b < s.heap.objs.size->s.heap.get? b = some o->h'.get? b = some o)->Q (.ref s.heap.objs.size) { s with heap:=h',toks:=tk }) :
  wpAny (model prog w) A (call (.type "set") [.ref l]) Q E s:=by
 obtain ⟨c,tl,hmro⟩:=F.called_set.mro
 have hmade:=F.called_set.made
 have hsub:=F.called_set.sub
 refine wpAny_call (codeAny_of_tree (wpAny_pure ⟨Code.quiet_builtin _ (by decide +kernel),codeAny_builtin F.entry_type_call ?_⟩))
 rw [Around.under_plain (weight_type_call_type "set" [.ref l] []) rfl]
 have h1:=F.called_set.notType
 have h2:=F.called_set.canCreate
 have hct:=F.typeCall_set_1 (.ref l)
 repeat (any_goals (first | assumption | wp_step))
 refine codeAny_mono (zPn (.ref l) (E:=E) (Q₁:=λobj s₁=>obj = .ref s.heap.objs.size /\ s₁ = { s with heap:=s.heap.push { cls:=.type "set",dict:=none,data:=.set #[] 0 (.fresh 0 0 (yM w)) } }) ⟨rfl,rfl⟩) λr s₁ hr=>?_
 cases r with
 | error e=>exact hr
 | ok fl =>
  cases fl with
  | ret obj =>
   obtain ⟨rfl,rfl⟩:=hr
   have hS:(s.heap.push { cls:=.type "set",dict:=none,data:=.set #[] 0 (.fresh 0 0 (yM w)) }).get? s.heap.objs.size = some { cls:=.type "set",dict:=none,data:=.set #[] 0 (.fresh 0 0 (yM w)) }:=get?_push_size _ rfl
   have hT:Shared.TypeIs { s with heap:=s.heap.push { cls:=.type "set",dict:=none,data:=.set #[] 0 (.fresh 0 0 (yM w)) } } (.ref s.heap.objs.size) "set":=⟨_,hS,rfl⟩
   have hli:=F.called_set.init.lookup
   have hbi:=F.called_set.init.bind (.ref s.heap.objs.size)
   repeat (any_goals (first | assumption | wp_step))
   refine codeAny_mono (codeAny_call_builtin (R:=wants (λr s₂=>r = .none /\ ∃ h' tk,s₂ = { s with heap:=h',toks:=tk } /\ Good knd dec (yM w) h' s.heap.objs.size (met val items.size) /\ (∀ b o,b < s.heap.objs.size->s.heap.get? b = some o->h'.get? b = some o)) E)
    F.called_set.init.plain F.entry_set_init (check_set_init_1 hT ?_)) λr₂ s₂ hr₂=>?_
   ·obtain ⟨ol,hol,hcl,nl,hdl⟩:=hl
    obtain ⟨ocls,odict,odata,oslots⟩:=ol
    simp only at hcl hdl
    subst hcl
    subst hdl
    have hol':(s.heap.push { cls:=.type "set",dict:=none,data:=.set #[] 0 (.fresh 0 0 (yM w)) }).get? l = some { cls:=.type "list",dict:=odict,data:=.seq items nl,slots:=oslots }:=get?_push_of_some _ hol
    have hsls:=F.sub_list_set
    have hslf:=F.sub_list_frozenset
    have hne:(Value.type "list" == Value.type "dict") = false:=by decide
    have hl1:(s.heap.push { cls:=.type "set",dict:=none,data:=.set #[] 0 (.fresh 0 0 (yM w)) }).IsList l items:=⟨_,hol',rfl,nl,rfl⟩
    unfold Builtin.«set.__init__» noKeywords Builtin.Frozenset.updateFrom
    generalize hPI:pyIter = PI
    wp_walk
    subst hPI
    refine wpAny_pyIter_list hl1 (wpAny_bind (wpAny_runValue ?_))
    have hlS:l < s.heap.objs.size:=lt_size hol
    have sz:(s.heap.push { cls:=.type "set",dict:=none,data:=.set #[] 0 (.fresh 0 0 (yM w)) }).objs.size = s.heap.objs.size + 1:=size_push ..
    have hneI:l ≠ (s.heap.push { cls:=.type "set",dict:=none,data:=.set #[] 0 (.fresh 0 0 (yM w)) }).objs.size:=by rw [sz]; exact Nat.ne_of_lt (Nat.lt_succ_of_lt hlS)
    refine loop_ok (led:=yM w) hdec ((Walks.list (by simp [hh]) _ l hneI items).toS) s.heap.objs.size (by
     rw [sz]
     intro z
     rcases mem_cons.mp z with z | z
     ·exact absurd z (Nat.ne_of_lt (Nat.lt_succ_self _))
     ·exact absurd (mem_singleton.mp z) (Nat.ne_of_gt hlS)) val hi hb (items.size - 0) 0 _ (by omega) (Nat.zero_le _) ⟨⟨_,get?_push_size _ rfl,rfl,rfl⟩,hl1.push _⟩ (zF3 (get?_push_of_some _ hS)) λs' hm g'=>?_
    obtain ⟨h',g1,d1,tk',os1⟩:=s'
    have eg:g1 = s.gens:=hm.gens
    have ed:d1 = s.drawn:=hm.drawn
    have eo:os1 = s.os:=hm.os
    subst eg ed eo
    refine wpAny_pure ?_
    refine wpAny_pure ⟨rfl,h',tk',rfl,g',λb o hb e=>hm.heap b o (λz=>?_) (get?_push_of_some _ (get?_push_of_some _ e))⟩
    rcases mem_cons.mp z with z | z
    ·exact absurd z (Nat.ne_of_lt hb)
    ·have z:=mem_singleton.mp z
     rw [sz] at z
     exact absurd z (Nat.ne_of_lt (Nat.lt_succ_of_lt hb))
   ·cases r₂ with
    | error e=>exact hr₂
    | ok fl₂ =>
     cases fl₂ with
     | ret r =>
      obtain ⟨rfl,h',tk,rfl,hS',hk'⟩:=hr₂
      repeat (any_goals (first | assumption | wp_step))
      exact h _ _ hS' hk'
     | _=>exact hr₂.elim
  | _=>exact hr.elim
end
set_option maxRecDepth 100000
theorem zI8:Manifest.owners.lookup (String.ofList ['r','o','t','a','r','e','t','i','_','t','e','s'].reverse) = some Manifest.sig_set_iterator:=by kernel_rfl
theorem si_next:Slot "set_iterator" "__next__" "set_iterator.__next__":=.of (owner:="set_iterator") (n:="__next__") (by rw [typeLookup_type,builtinLookup_eq_fast]; kernel_rfl) (by decide +kernel) (by decide +kernel) (by decide +kernel) (by first | exact .inl (by decide +kernel) | exact .inr (by decide +kernel)) (by rw [isSubtype_type]; kernel_rfl)
theorem zFi:entryFor table "set_iterator.__next__" = some Builtin.«set_iterator.__next__»:=entryFor_of_tree (by kernel_rfl)
theorem zGr (a:Value):argsOk "set_iterator.__next__" ⟨[a],[]⟩:=by unfold argsOk; rw [signature?_of (id:="set_iterator.__next__") (n:=['_','_','t','x','e','n','_','_']) (o:=['r','o','t','a','r','e','t','i','_','t','e','s']) (by kernel_rfl) zI8]; kernel_rfl
theorem zL3:Slot "set_iterator" "__iter__" "set_iterator.__iter__":=.of (owner:="set_iterator") (n:="__iter__") (by rw [typeLookup_type,builtinLookup_eq_fast]; kernel_rfl) (by decide +kernel) (by decide +kernel) (by decide +kernel) (by first | exact .inl (by decide +kernel) | exact .inr (by decide +kernel)) (by rw [isSubtype_type]; kernel_rfl)
theorem zFj:entryFor table "set_iterator.__iter__" = some Builtin.«dict_keyiterator.__iter__»:=entryFor_alias (id':="dict_keyiterator.__iter__") (by kernel_rfl) rfl (by decide +kernel) (by kernel_rfl)
theorem zGs (a:Value):argsOk "set_iterator.__iter__" ⟨[a],[]⟩:=by unfold argsOk; rw [signature?_of (id:="set_iterator.__iter__") (n:=['_','_','r','e','t','i','_','_']) (o:=['r','o','t','a','r','e','t','i','_','t','e','s']) (by kernel_rfl) zI8]; kernel_rfl
theorem zEg:entryFor table "set.__iter__" = some Builtin.«frozenset.__iter__»:=entryFor_alias (id':="frozenset.__iter__") (by kernel_rfl) rfl (by decide +kernel) (by kernel_rfl)
set_option maxRecDepth 100000
section
variable {prog:Program} {w:World} {A:Around} {E:Value->Shared->Prop} {s:Shared}
theorem zBd {α:Type}:∀ {l:List α} {i:Nat} (h:i < l.length),(l[i] :: l.eraseIdx i).Perm l
 | x :: l,0,h=>.refl _
 | x :: l,i + 1,h=>by
  have hi:i < l.length:=by simpa using h
  have ih:=zBd (l:=l) (i:=i) hi
  show (l[i] :: x :: l.eraseIdx i).Perm (x :: l)
  exact (Perm.swap _ _ _).trans (ih.cons x)
theorem zLf {Q:Nat->Shared->Prop} (hn:0 < n) (h:∀ i d,i < n->Q i { s with drawn:=d }):wpAny (model prog w) A (choose src n) Q E s :=
 λ_ _ _=>⟨Nat.ne_of_gt hn,h _ _ (Nat.mod_lt _ hn)⟩
theorem zN6 {α:Type}:∀ (n:Nat) (xs:List α) (s:Shared) (Q:List α->Shared->Prop),xs.length = n->(∀ ys d,ys.Perm xs->Q ys { s with drawn:=d })->wpAny (model prog w) A (drawOrder n xs) Q E s
 | 0,xs,s,Q,hl,h=>by
  have e:xs = []:=length_eq_zero_iff.mp hl
  subst e
  unfold drawOrder
  exact wpAny_pure (h [] s.drawn (.refl _))
 | n + 1,[],s,Q,hl,h=>by simp at hl
 | n + 1,x :: xs,s,Q,hl,h=>by
  unfold drawOrder
  refine wpAny_bind (zLf (by rw [hl]; omega) λi d hi=>?_)
  have e:(x :: xs)[i]? = some (x :: xs)[i]:=List.getElem?_eq_getElem hi
  rw [e]
  refine wpAny_bind (zN6 n _ _ _ (by rw [length_eraseIdx,if_pos hi,hl]; rfl) λys d' p=>?_)
  exact wpAny_pure (h _ d' ((p.cons _).trans (zBd hi)))
theorem zMk {α:Type} (next:Nat->Nat):∀ (fuel k:Nat) (left:List α) (out:Array α),left.length = fuel->(pickOrder.go next fuel k left out).toList.Perm (out.toList ++ left)
 | 0,k,left,out,hl=>by
  have e:left = []:=length_eq_zero_iff.mp hl
  subst e
  unfold pickOrder.go
  rw [append_nil]
 | fuel + 1,k,left,out,hl=>by
  have hi:next k % left.length < left.length:=Nat.mod_lt _ (by omega)
  unfold pickOrder.go
  rw [List.getElem?_eq_getElem hi]
  dsimp only
  refine (zMk next fuel (k + 1) _ _ (by rw [length_eraseIdx,if_pos hi,hl]; rfl)).trans ?_
  rw [Array.toList_push,append_assoc]
  exact Perm.append_left _ (zBd hi)
theorem uR {α:Type} (next:Nat->Nat) (xs:Array α):(pickOrder next xs).toList.Perm xs.toList:=by
 have q:=zMk next xs.size 0 xs.toList #[] (by simp)
 have e:(#[]:Array α).toList ++ xs.toList = xs.toList:=rfl
 rw [e] at q
 exact q
variable {a it T:Addr} {o:Obj} {es:Array (Int × Value)} {ep:Nat} {t:SetTable}
theorem zAa {Q:Bool->Shared->Prop} (h:Q (w.params.followText "set-order") s):wpAny (model prog w) A setsByText Q E s:=by
 unfold setsByText
 exact wpAny_bind (wpAny_askSetting (wpAny_pure h))
theorem zP9 {Q:Bool->Shared->Prop} (ho:s.heap.get? a = some o) (hd:o.data = .set es ep t) (hf:t.fits es.size = true) (h:Q (!w.params.followText "set-order" && (!t.plain && decide (es.size > 1))) s):wpAny (model prog w) A (setDrawn a) Q E s:=by
 unfold setDrawn
 refine wpAny_bind (wpAny_setState_of ho hd hf ?_)
 exact wpAny_bind (zAa (wpAny_pure h))
theorem zCp {Q:Array (Int × Value)->Shared->Prop} (ho:s.heap.get? a = some o) (hd:o.data = .set es ep t) (hf:t.fits es.size = true) (h:Q es s):wpAny (model prog w) A (setEntries a) Q E s:=by
 unfold setEntries
 exact wpAny_bind (wpAny_setState_of ho hd hf (wpAny_pure h))
theorem zHb {Q:Option (Value × Nat)->Shared->Prop} (ho:s.heap.get? a = some o) (hd:o.data = .set es ep t) (hf:t.fits es.size = true) (hb:w.params.followText "set-order" = true)
  (h:Q (((pickOrder (w.params.setOrder a ep) es)[i]?).map λe=>(e.2,slot)) s):wpAny (model prog w) A (setNext a slot i ep) Q E s:=by
 unfold setNext
 refine wpAny_bind (wpAny_setState_of ho hd hf ?_)
 refine wpAny_bind (zAa ?_)
 rw [hb]
 simp only [↓reduceIte,bne_self_eq_false,Bool.false_eq_true]
 refine wpAny_bind ?_
 unfold setWalk
 refine wpAny_bind (wpAny_setState_of ho hd hf ?_)
 refine wpAny_bind (zAa ?_)
 rw [hb]
 simp only [↓reduceIte]
 refine wpAny_bind (wpAny_askSetting (wpAny_pure ?_))
 exact wpAny_pure h
theorem zEt {Q:Option (Value × Nat)->Shared->Prop} (ho:s.heap.get? a = some o) (hd:o.data = .set es ep t) (hf:t.fits es.size = true) (hb:w.params.followText "set-order" = false) (hl:t.led = true) (hn:(!t.plain && decide (es.size > 1)) = false)
  (h:Q (match es[below t.place slot]?,t.place[below t.place slot]? with | some (_,x),some j=>some (x,j + 1) | _,_=>none) s):wpAny (model prog w) A (setNext a slot i ep) Q E s:=by
 unfold setNext
 refine wpAny_bind (wpAny_setState_of ho hd hf ?_)
 refine wpAny_bind (zAa ?_)
 rw [hb]
 simp only [↓reduceIte,Bool.false_eq_true]
 show wpAny _ _ (if (!t.plain && decide (es.size > 1)) = true then _ else _) _ _ _
 rw [if_neg (by rw [hn]; exact Bool.false_ne_true)]
 refine wpAny_bind ?_
 show wpAny _ _ (if (!t.led && !es.isEmpty) = true then _ else pure ()) _ _ _
 rw [if_neg (by rw [hl]; exact Bool.false_ne_true)]
 exact wpAny_pure (wpAny_pure h)
theorem zKu {Q:Value->Shared->Prop} (ho:s.heap.get? a = some o) (hd:o.data = .set es ep t) (hf:t.fits es.size = true) (hx:es[place]? = some x) (h:Q x.2 s):wpAny (model prog w) A (setNextDrawn a place ep) Q E s:=by
 unfold setNextDrawn
 refine wpAny_bind (wpAny_setState_of ho hd hf ?_)
 simp only [bne_self_eq_false,Bool.false_eq_true,↓reduceIte,hx]
 exact wpAny_pure h
def itO (first:Value) (i:Nat) (a:Addr) (n ep:Nat):Obj:={ cls:=.type "set_iterator",data:=.fields #[first,.int i 0,.ref a,.int n 0,.int ep 0] }
theorem zPw {Q:Value->Shared->Prop} (ho:s.heap.get? a = some o) (hx:o.ExactSet) (hd:o.data = .set es ep t) (hf:t.fits es.size = true)
  (h1:(!w.params.followText "set-order" && (!t.plain && decide (es.size > 1))) = false->Q (.ref s.heap.objs.size) { s with heap:=s.heap.push (itO (.int 0 0) 0 a es.size ep) })
  (h2:(!w.params.followText "set-order" && (!t.plain && decide (es.size > 1))) = true->es.size <= sizeLine /\ ∀ (d:Drawn) (ps:List Nat),ps.Perm (List.range es.size)->Q (.ref (s.heap.objs.size + 1)) { s with drawn:=d,heap:=(s.heap.push { cls:=.type "tuple",data:=.seq (ps.map λ(i:Nat)=>Value.int i 0).toArray }).push (itO (.ref s.heap.objs.size) 0 a es.size ep) }) :
  wpAny (model prog w) A (pyIter (.ref a)) Q E s:=by
 have hT:s.TypeIs (.ref a) "set":=⟨o,ho,hx.1⟩
 refine wpAny_pyIter_slot hT F.slot_set_iter (wpAny_call_entry F.slot_set_iter hT zEg ?_ (F.args_set_iter_1 _))
 unfold Builtin.«frozenset.__iter__»
 refine wpAny_bind (wpAny_pure ?_)
 refine wpAny_bind ?_
 unfold Builtin.Frozenset.sizeOf
 refine wpAny_bind (zCp ho hd hf (wpAny_pure ?_))
 refine wpAny_bind (zP9 ho hd hf ?_)
 cases hc:(!w.params.followText "set-order" && (!t.plain && decide (es.size > 1))) with
 | false =>
  simp only [Bool.false_eq_true,↓reduceIte]
  refine wpAny_bind (wpAny_pure ?_)
  refine wpAny_bind (wpAny_setEpoch_of ho hd hf ?_)
  exact wpAny_bind (wpAny_newObj_type (wpAny_pure ⟨_,rfl,"set_iterator",_,⟨_,get?_push_size _ rfl,rfl⟩,si_next.lookup,h1 hc⟩))
 | true =>
  obtain ⟨hz,h2⟩:=h2 hc
  simp only [↓reduceIte]
  refine wpAny_bind (zN6 _ _ _ _ (by simp) λps d hp=>?_)
  refine wpAny_bind (wpAny_newTuple ?_ (by rw [length_map,hp.length_eq,length_range]; exact hz))
  have ho':=get?_push_of_some ({ cls:=.type "tuple",data:=.seq (ps.map λ(i:Nat)=>rawInt i).toArray }:Obj) ho
  refine wpAny_bind (wpAny_setEpoch_of (s:={ s with drawn:=d,heap:=_ }) ho' hd hf ?_)
  refine wpAny_bind (wpAny_newObj_type (wpAny_pure ⟨_,rfl,"set_iterator",_,⟨_,get?_push_size _ rfl,rfl⟩,si_next.lookup,?_⟩))
  have q:=h2 d ps hp
  have sz:(s.heap.push ({ cls:=.type "tuple",data:=.seq (ps.map λ(i:Nat)=>Value.int i 0).toArray }:Obj)).objs.size = s.heap.objs.size + 1:=size_push ..
  rw [<- sz] at q
  exact q
end
set_option maxRecDepth 100000
section
variable {prog:Program} {w:World} {A:Around} {E:Value->Shared->Prop} {s:Shared} {a it T:Addr} {o:Obj} {es:Array (Int × Value)} {ep:Nat} {t:SetTable} {i:Nat} {first:Value}
theorem zBy {Q:Option Value->Shared->Prop} (hi:s.heap.get? it = some (itO first i a es.size ep)) (ho:s.heap.get? a = some o) (hd:o.data = .set es ep t) (hf:t.fits es.size = true)
  (h:wpAny (model prog w) A.in1 (if let .int slot _:=first then do
    match <- setNext a slot.toNat (i:Int).toNat (ep:Int).toNat with
    | some (x,next) =>
     setField (.ref it) 0 (rawInt next)
     setField (.ref it) 1 (rawInt ((i:Int) + 1))
     ret x
    | none=>setField (.ref it) 2 .none; raiseNew (<- newExc (.type "StopIteration") [])
   else do
    let some places <- seqItems? first | unsupported "internal:set_iterator"
    match places[(i:Int).toNat]? with
    | some (.int place _) =>
     let x <- setNextDrawn a place.toNat (ep:Int).toNat
     setField (.ref it) 1 (rawInt ((i:Int) + 1))
     ret x
    | some _=>unsupported "internal:set_iterator"
    | none=>setField (.ref it) 0 (rawInt 0); setField (.ref it) 2 .none; raiseNew (<- newExc (.type "StopIteration") []))
   (λfin s'=>∃ v,fin = .done (.ret v) /\ Q (some v) s')
   (λe s'=>s'.TypeIs e "StopIteration" /\ Q none s') s):wpAny (model prog w) A (pyNext (.ref it)) Q E s:=by
 have hT:s.TypeIs (.ref it) "set_iterator":=⟨_,hi,rfl⟩
 unfold pyNext
 refine wpAny_bind (wpAny_attempt (wpAny_callSpecial?_slot (name:=Str.ofString "__next__") hT si_next (wpAny_call_entry si_next hT zFi ?_ (zGr _))))
 unfold Builtin.«set_iterator.__next__»
 refine wpAny_bind (wpAny_pure ?_)
 refine wpAny_bind (wpAny_fieldsOf hi rfl ?_)
 dsimp only
 refine wpAny_bind (zCp ho hd hf ?_)
 rw [if_neg (by simp)]
 exact wpAny_mono h (λfin s' ⟨v,e,q⟩=>⟨v,e,wpAny_pure q⟩) λe s' ⟨ty,q⟩=>wpAny_bind (wpAny_isInstance (T:="StopIteration") (b:=true) ty isSubtype_stop (wpAny_pure q))
theorem zLv {α:Type} {Q:α->Shared->Prop} {E':Value->Shared->Prop} (hh:A.handled = none) (h:∀ (e:Value) (h':Heap),(∀ b u,s.heap.get? b = some u->h'.get? b = some u)->({ s with heap:=h' }:Shared).TypeIs e "StopIteration"->E' e { s with heap:=h' }) :
  wpAny (model prog w) A (newExc (.type "StopIteration") [] >>= λe=>(raiseNew e:Sem α)) Q E' s:=by
 refine wpAny_bind ?_
 simp only [newExc,newTuple]
 refine wpAny_bind (wpAny_newObj_type (wpAny_bind (m:=firstArgMember _ _) (wpAny_of_eq (a:=Value.none) (by first | rfl | (simp only [firstArgMember]; rfl)) (wpAny_newObj_type ?_ (by size_fits)))) (by size_fits))
 simp only [raiseNew]
 refine wpAny_bind (wpAny_handled ?_)
 rw [hh]
 refine wpAny_bind (wpAny_pure (wpAny_throw ?_))
 refine h _ _ (λb u e=>get?_push_of_some _ (get?_push_of_some _ e)) ?_
 exact ⟨_,get?_push_size _ rfl,rfl⟩
theorem zJa {f:Obj->Obj} (hi:s.heap.get? it = some u) (hn:(f u).isFreed = false):(s.heap.update it f).get? it = some (f u):=get?_update_self f hi hn
theorem zCa (hb:b ≠ it) (e:s.heap.get? b = some u):(s.heap.update it f).get? b = some u:=(get?_update_other _ _ (Ne.symm hb)).trans e
theorem zEw {Q:Option Value->Shared->Prop} {slot next:Nat} {tk:Tok} {x:Value} (hi:s.heap.get? it = some (itO (.int slot tk) i a es.size ep)) (ho:s.heap.get? a = some o) (hd:o.data = .set es ep t) (hf:t.fits es.size = true)
  (hs:∀ (R:Option (Value × Nat)->Shared->Prop) (E':Value->Shared->Prop),R (some (x,next)) s->wpAny (model prog w) A.in1 (setNext a slot i ep) R E' s)
  (h:∀ h',h'.get? it = some (itO (.int next 0) (i + 1) a es.size ep)->(∀ b u,b ≠ it->s.heap.get? b = some u->h'.get? b = some u)->Q (some x) { s with heap:=h' }):wpAny (model prog w) A (pyNext (.ref it)) Q E s:=by
 refine zBy hi ho hd hf ?_
 dsimp only
 refine wpAny_bind (hs _ _ ?_)
 dsimp only
 refine wpAny_bind (wpAny_setField hi rfl (by simp) ?_)
 have h1:=zJa (f:=Obj.mapFields (·.setIfInBounds 0 (rawInt next))) hi rfl
 refine wpAny_bind (wpAny_setField (s:={ s with heap:=_ }) h1 rfl (by simp) ?_)
 have h2:=zJa (s:={ s with heap:=_ }) (f:=Obj.mapFields (·.setIfInBounds 1 (rawInt ((i:Int) + 1)))) h1 rfl
 exact wpAny_pure ⟨x,rfl,h _ h2 λb u hb e=>zCa (s:={ s with heap:=_ }) hb (zCa hb e)⟩
theorem zHk {Q:Option Value->Shared->Prop} {slot:Nat} {tk:Tok} (hh:A.handled = none) (hi:s.heap.get? it = some (itO (.int slot tk) i a es.size ep)) (ho:s.heap.get? a = some o) (hd:o.data = .set es ep t) (hf:t.fits es.size = true)
  (hs:∀ (R:Option (Value × Nat)->Shared->Prop) (E':Value->Shared->Prop),R none s->wpAny (model prog w) A.in1 (setNext a slot i ep) R E' s)
  (h:∀ h',(∀ b u,b ≠ it->s.heap.get? b = some u->h'.get? b = some u)->Q none { s with heap:=h' }):wpAny (model prog w) A (pyNext (.ref it)) Q E s:=by
 refine zBy hi ho hd hf ?_
 dsimp only
 refine wpAny_bind (hs _ _ ?_)
 dsimp only
 refine wpAny_bind (wpAny_setField hi rfl (by simp) ?_)
 exact zLv (s:={ s with heap:=_ }) (by simp [hh]) λe h' k ty=>⟨ty,h h' λb u hb e=>k b u (zCa hb e)⟩
theorem zKz {Q:Option Value->Shared->Prop} {ps:List Nat} (hi:s.heap.get? it = some (itO (.ref T) i a es.size ep)) (ho:s.heap.get? a = some o) (hd:o.data = .set es ep t) (hf:t.fits es.size = true)
  (hT:s.heap.get? T = some { cls:=.type "tuple",data:=.seq (ps.map λ(i:Nat)=>Value.int i 0).toArray }) (hp:ps[i]? = some place) (hx:es[place]? = some x)
  (h:∀ h',h'.get? it = some (itO (.ref T) (i + 1) a es.size ep)->(∀ b u,b ≠ it->s.heap.get? b = some u->h'.get? b = some u)->Q (some x.2) { s with heap:=h' }):wpAny (model prog w) A (pyNext (.ref it)) Q E s:=by
 refine zBy hi ho hd hf ?_
 dsimp only
 refine wpAny_bind (wpAny_seqItems hT rfl ?_)
 have e:((ps.map λ(i:Nat)=>Value.int i 0).toArray)[(i:Int).toNat]? = some (.int (place:Nat) 0):=by
  rw [Int.toNat_natCast,getElem?_toArray,getElem?_map,hp]
  rfl
 dsimp only
 rw [e]
 dsimp only
 refine wpAny_bind (zKu ho hd hf (x:=x) (by rw [Int.toNat_natCast]; exact hx) ?_)
 refine wpAny_bind (wpAny_setField hi rfl (by simp) ?_)
 have h1:=zJa (f:=Obj.mapFields (·.setIfInBounds 1 (rawInt ((i:Int) + 1)))) hi rfl
 exact wpAny_pure ⟨x.2,rfl,h _ h1 λb u hb e=>zCa hb e⟩
theorem zN4 {Q:Option Value->Shared->Prop} {ps:List Nat} (hh:A.handled = none) (hi:s.heap.get? it = some (itO (.ref T) i a es.size ep)) (ho:s.heap.get? a = some o) (hd:o.data = .set es ep t) (hf:t.fits es.size = true)
  (hT:s.heap.get? T = some { cls:=.type "tuple",data:=.seq (ps.map λ(i:Nat)=>Value.int i 0).toArray }) (hp:ps[i]? = none)
  (h:∀ h',(∀ b u,b ≠ it->s.heap.get? b = some u->h'.get? b = some u)->Q none { s with heap:=h' }):wpAny (model prog w) A (pyNext (.ref it)) Q E s:=by
 refine zBy hi ho hd hf ?_
 dsimp only
 refine wpAny_bind (wpAny_seqItems hT rfl ?_)
 have e:((ps.map λ(i:Nat)=>Value.int i 0).toArray)[(i:Int).toNat]? = none:=by
  rw [Int.toNat_natCast,getElem?_toArray,getElem?_map,hp]
  rfl
 dsimp only
 rw [e]
 dsimp only
 refine wpAny_bind (wpAny_setField hi rfl (by simp) ?_)
 have h1:=zJa (f:=Obj.mapFields (·.setIfInBounds 0 (rawInt 0))) hi rfl
 refine wpAny_bind (wpAny_setField (s:={ s with heap:=_ }) h1 rfl (by simp) ?_)
 exact zLv (s:={ s with heap:=_ }) (by simp [hh]) λe h' k ty=>⟨ty,h h' λb u hb e=>k b u (zCa (s:={ s with heap:=_ }) hb (zCa hb e))⟩
end
set_option maxRecDepth 100000
section
variable {prog:Program} {w:World} {A:Around} {E:Value->Shared->Prop} {s:Shared} {a it T:Addr} {o:Obj} {es:Array (Int × Value)} {ep:Nat} {t:SetTable}
theorem zF0 {Q:Value->Shared->Prop} (hi:s.heap.get? it = some (itO first i a n ep)) (h:Q (.ref it) s):wpAny (model prog w) A (pyIter (.ref it)) Q E s:=by
 have hT:s.TypeIs (.ref it) "set_iterator":=⟨_,hi,rfl⟩
 refine wpAny_pyIter_slot hT zL3 (wpAny_call_entry zL3 hT zFj ?_ (zGs _))
 refine wpAny_bind (wpAny_pure ?_)
 exact wpAny_pure ⟨_,rfl,"set_iterator",_,hT,si_next.lookup,h⟩
theorem zAx (hf:t.fits es.size = true):t.place.size = es.size:=by
 unfold fits at hf
 rw [Bool.and_eq_true] at hf
 exact eq_of_beq hf.1
theorem zLd (hr:Rz xs):below xs 0 = 0:=by
 obtain ⟨b1,b2,b3⟩:=zGb hr 0
 cases e:below xs 0 with
 | zero=>rfl
 | succ k =>
  rw [e] at b1 b2
  have h0:0 < xs.size:=by omega
  exact absurd (b2 0 _ (Nat.succ_pos k) (Array.getElem?_eq_getElem h0)) (Nat.not_lt_zero _)
theorem zLe (hr:Rz xs) (h:xs[i]? = some j):below xs (j + 1) = i + 1:=by
 obtain ⟨b1,b2,b3⟩:=zGb hr (j + 1)
 generalize below xs (j + 1) = p at *
 have hi:i < xs.size:=by
  by_cases z:i < xs.size
  ·exact z
  ·rw [Array.getElem?_eq_none (by omega)] at h; cases h
 have h1:i < p:=by
  by_cases z:i < p
  ·exact z
  ·have:=b3 i j (by omega) h; omega
 by_cases z:p = i + 1
 ·exact z
 ·have hp:i + 1 < xs.size:=by omega
  have q1:=b2 (i + 1) _ (by omega) (Array.getElem?_eq_getElem hp)
  have q2:=hr i (i + 1) j _ (by omega) h (Array.getElem?_eq_getElem hp)
  omega
theorem zO9 {xs:Array Nat} (h:xs.size <= 1):Rz xs:=λi k a b hik ha hb=>by
 rw [Array.getElem?_eq_none (by omega)] at hb
 cases hb
theorem zJ9 (hh:A.handled = none) (hne:a ≠ it) (hd:o.data = .set es ep t) (hf:t.fits es.size = true) (hb:w.params.followText "set-order" = false) (hl:t.led = true) (hn:(!t.plain && decide (es.size > 1)) = false) (hr:Rz t.place) :
  Walks prog w A it [it,a] [it] es.size (λi v=>(es.toList.map (·.2))[i]? = some v) (λi h=>h.get? a = some o /\ ∃ (slot:Nat) (tk:Tok),h.get? it = some (itO (.int slot tk) i a es.size ep) /\ below t.place slot = i) where
 sub:=λb hb=>by simp at hb; simp [hb]
 frame:=λi h h' ⟨h1,slot,tk,h2,h3⟩ k=>⟨k a (by simp) _ h1,slot,tk,k it (by simp) _ h2,h3⟩
 item:=λi s Q E hi ⟨h1,slot,tk,h2,h3⟩ hQ=>by
  have hp:i < t.place.size:=by rw [zAx hf]; exact hi
  refine zEw (x:=es[i].2) (next:=t.place[i] + 1) h2 h1 hd hf (λR E' hR=>zEt h1 hd hf hb hl hn ?_) λh' hi' k=>?_
  ·rw [h3,Array.getElem?_eq_getElem hi,Array.getElem?_eq_getElem hp]
   exact hR
  ·refine hQ _ h' s.toks (by simp [hi]) ⟨k a o hne h1,_,_,hi',zLe hr (Array.getElem?_eq_getElem hp)⟩ λb u hb e=>k b u (λz=>hb (by simp [z])) e
 done:=λs Q E ⟨h1,slot,tk,h2,h3⟩ hQ=>by
  refine zHk hh h2 h1 hd hf (λR E' hR=>zEt h1 hd hf hb hl hn ?_) λh' k=>hQ h' s.toks λb u hb e=>k b u (λz=>hb (by simp [z])) e
  rw [h3,Array.getElem?_eq_none (Nat.le_refl _)]
  exact hR
 self:=λi s Q E ⟨h1,slot,tk,h2,h3⟩ hQ=>zF0 h2 hQ
theorem zLh (hh:A.handled = none) (hne:a ≠ it) (hd:o.data = .set es ep t) (hf:t.fits es.size = true) (hb:w.params.followText "set-order" = true) :
  Walks prog w A it [it,a] [it] es.size (λi v=>((pickOrder (w.params.setOrder a ep) es).toList.map (·.2))[i]? = some v) (λi h=>h.get? a = some o /\ ∃ (slot:Nat) (tk:Tok),h.get? it = some (itO (.int slot tk) i a es.size ep)) where
 sub:=λb hb=>by simp at hb; simp [hb]
 frame:=λi h h' ⟨h1,slot,tk,h2⟩ k=>⟨k a (by simp) _ h1,slot,tk,k it (by simp) _ h2⟩
 item:=λi s Q E hi ⟨h1,slot,tk,h2⟩ hQ=>by
  have hz:i < (pickOrder (w.params.setOrder a ep) es).size:=by rw [<- length_toList,(uR _ es).length_eq,length_toList]; exact hi
  refine zEw (x:=(pickOrder (w.params.setOrder a ep) es)[i].2) (next:=slot) h2 h1 hd hf (λR E' hR=>zHb h1 hd hf hb ?_) λh' hi' k=>?_
  ·rw [Array.getElem?_eq_getElem hz]
   exact hR
  ·refine hQ _ h' s.toks (by simp [hz]) ⟨k a o hne h1,_,_,hi'⟩ λb u hb e=>k b u (λz=>hb (by simp [z])) e
 done:=λs Q E ⟨h1,slot,tk,h2⟩ hQ=>by
  have hz:(pickOrder (w.params.setOrder a ep) es).size = es.size:=by rw [<- length_toList,(uR _ es).length_eq,length_toList]
  refine zHk hh h2 h1 hd hf (λR E' hR=>zHb h1 hd hf hb ?_) λh' k=>hQ h' s.toks λb u hb e=>k b u (λz=>hb (by simp [z])) e
  rw [Array.getElem?_eq_none (by rw [hz]; exact Nat.le_refl _)]
  exact hR
 self:=λi s Q E ⟨h1,slot,tk,h2⟩ hQ=>zF0 h2 hQ
theorem zKa {ps:List Nat} (hh:A.handled = none) (hne:a ≠ it) (hnT:T ≠ it) (hd:o.data = .set es ep t) (hf:t.fits es.size = true) (hp:ps.Perm (List.range es.size)) :
  Walks prog w A it [it,a,T] [it] es.size (λi v=>(ps.map λp=>((es[p]?).map (·.2)).getD .none)[i]? = some v)
   (λi h=>h.get? a = some o /\ h.get? T = some { cls:=.type "tuple",data:=.seq (ps.map λ(i:Nat)=>Value.int i 0).toArray } /\ h.get? it = some (itO (.ref T) i a es.size ep)) where
 sub:=λb hb=>by simp at hb; simp [hb]
 frame:=λi h h' ⟨h1,h2,h3⟩ k=>⟨k a (by simp) _ h1,k T (by simp) _ h2,k it (by simp) _ h3⟩
 item:=λi s Q E hi ⟨h1,h2,h3⟩ hQ=>by
  have hl:ps.length = es.size:=by rw [hp.length_eq,length_range]
  have hi':i < ps.length:=by omega
  have hm:ps[i] < es.size:=mem_range.mp (hp.mem_iff.mp (getElem_mem hi'))
  refine zKz (place:=ps[i]) (x:=es[ps[i]]) h3 h1 hd hf h2 (List.getElem?_eq_getElem hi') (Array.getElem?_eq_getElem hm) λh' hi' k=>?_
  refine hQ _ h' s.toks ?_ ⟨k a o hne h1,k T _ hnT h2,hi'⟩ λb u hb e=>k b u (λz=>hb (by simp [z])) e
  rw [getElem?_map,List.getElem?_eq_getElem (by omega),Option.map_some,Array.getElem?_eq_getElem hm]
  rfl
 done:=λs Q E ⟨h1,h2,h3⟩ hQ=>by
  have hl:ps.length = es.size:=by rw [hp.length_eq,length_range]
  exact zN4 hh h3 h1 hd hf h2 (List.getElem?_eq_none (by omega)) λh' k=>hQ h' s.toks λb u hb e=>k b u (λz=>hb (by simp [z])) e
 self:=λi s Q E ⟨h1,h2,h3⟩ hQ=>zF0 h3 hQ
end
set_option maxRecDepth 100000
section
variable {prog:Program} {w:World} {A:Around} {E:Value->Shared->Prop} {s:Shared} {a it T:Addr} {o:Obj} {es:Array (Int × Value)} {ep:Nat} {t:SetTable}
theorem zPy {Q:Bool->Shared->Prop} (hT:s.TypeIs (.ref a) "set") (h:Q false s):wpAny (model prog w) A (Builtin.List.listLengthHint (.ref a)) Q E s:=by
 unfold Builtin.List.listLengthHint
 refine wpAny_bind (wpAny_specialOf hT F.slot_set_len.lookup ?_)
 generalize hid:("set.__len__":String) = id0
 wp_delta
 rw [show splitId id0 = some ("set","__len__") from by subst hid; decide +kernel]
 subst hid
 refine wpAny_bind (wpAny_isInstance (T:="set") (b:=true) hT sub_set_self (wpAny_ite_split (λhab=>absurd hab (by decide)) λ_=>wpAny_ite_split (λ_=>wpAny_bind (wpAny_typeOf hT (wpAny_pure h))) λhab=>absurd (by decide +kernel) hab))
theorem zM7 {R:Result->Shared->Prop} {P:Nat->Value->Prop} {St:Nat->Heap->Prop} (W:Walks prog w A.in1 it fp [it] n P St) (hn:n <= sizeLine) (off:S ∉ fp)
  (st:St 0 s.heap) (hS:s.heap.get? S = some { cls:=.type "list",data:=.seq #[] c₁ })
  (hR:∀ h' tk acc c',(∀ b u,b ≠ S->b ≠ it->s.heap.get? b = some u->h'.get? b = some u)->h'.get? S = some { cls:=.type "list",dict:=none,data:=.seq acc c',slots:=#[] }->ItemsOf P acc n->R (.ok (.ret res)) { s with heap:=h',toks:=tk }) :
  codeAny (model prog w) A (.builtin "list.extend.loop" ⟨[.ref S,.ref it,res],[]⟩) R s:=by
 refine codeAny_extend_loopS W.toS hn S off res n 0 _ #[] c₁ rfl (Nat.zero_le _) st hS (ItemsOf.nil _) λs' acc c' hm hS' hacc=>?_
 rw [Moved.eq_with hm]
 refine hR s'.heap s'.toks acc c' (λb u h1 h2 e=>hm.heap b u (λz=>?_) e) hS' hacc
 rcases mem_cons.mp z with z | z
 ·exact h1 z
 ·exact h2 (mem_singleton.mp z)
theorem zH4 {R:Result->Shared->Prop} {P:Nat->Value->Prop} {St:Nat->Heap->Prop} (W:Walks prog w A.in1 it fp [it] n P St) (hn:n <= sizeLine) (off:S ∉ fp) (hT:s.TypeIs (.ref a) "set")
  (st:St 0 s.heap) (hS:s.heap.get? S = some { cls:=.type "list",data:=.seq #[] c₀ })
  (hR:∀ h' tk acc c',(∀ b u,b ≠ S->b ≠ it->s.heap.get? b = some u->h'.get? b = some u)->h'.get? S = some { cls:=.type "list",dict:=none,data:=.seq acc c',slots:=#[] }->ItemsOf P acc n->R (.ok (.ret res)) { s with heap:=h',toks:=tk }) :
  wpAny (model prog w) A.in1 (holding [.ref it] (Builtin.List.listLengthHint (.ref a)) >>= λroom=>if (room || b) = true then (rule "list.extend.makes-room" >>= λ_=>Builtin.List.listTouch (.ref S) >>= λ_=>again (.builtin "list.extend.loop" ⟨[.ref S,.ref it,res],[]⟩)) else again (.builtin "list.extend.loop" ⟨[.ref S,.ref it,res],[]⟩))
   (λfin s'=>match fin with | .done f=>R (.ok f) s' | .again c'=>c'.quiet = true /\ codeAny (model prog w) A c' R s') (λe s'=>R (.error e) s') s:=by
 refine wpAny_bind (wpAny_holding (zPy hT ?_))
 refine wpAny_ite_split (λ_=>?_) λ_=>wpAny_pure ⟨plainId_quiet F.plain_extend_loop _,zM7 W hn off st hS hR⟩
 refine wpAny_bind (wpAny_rule ?_)
 refine wpAny_bind ?_
 show wpAny _ _ (updateSeq S (·.push .none) >>= λ_=>updateSeq S (·.pop)) _ _ _
 refine wpAny_bind (wpAny_updateSeq hS rfl ?_)
 have hS2:=get?_update_self (Obj.mapSeq (·.push Value.none)) hS rfl
 refine wpAny_updateSeq (hz:=by seq_fits) hS2 rfl ?_
 have hS3:=get?_update_self (Obj.mapSeq (·.pop)) hS2 rfl
 have keep:∀ c u,c ≠ S->s.heap.get? c = some u->((s.heap.update S (Obj.mapSeq (·.push Value.none))).update S (Obj.mapSeq (·.pop))).get? c = some u:=λc u hc e=>(get?_update_other _ _ (Ne.symm hc)).trans ((get?_update_other _ _ (Ne.symm hc)).trans e)
 refine wpAny_pure ⟨plainId_quiet F.plain_extend_loop _,zM7 (s:={ s with heap:=_ }) W hn off (W.frame 0 _ _ st λc hc u e=>keep c u (λz=>off (z ▸ hc)) e) hS3 λh' tk acc c' k h1 h2=>hR h' tk acc c' (λc u n1 n2 e=>k c u n1 n2 (keep c u n1 e)) h1 h2⟩
theorem zFz (h:ItemsOf (λi v=>ord[i]? = some v) acc n) (hl:ord.length = n):acc.toList = ord:=by
 apply ext_getElem?
 intro i
 rw [getElem?_toList]
 by_cases hi:i < acc.size
 ·rw [Array.getElem?_eq_getElem hi]
  exact (h.2 i _ (Array.getElem?_eq_getElem hi)).symm
 ·rw [Array.getElem?_eq_none (by omega),List.getElem?_eq_none (by rw [hl,<- h.1]; omega)]
theorem zKm (es:Array (Int × Value)):(List.range es.size).map (λp=>((es[p]?).map (·.2)).getD Value.none) = es.toList.map (·.2):=by
 apply List.ext_getElem (by simp)
 intro i h1 h2
 have hi:i < es.size:=by simpa using h1
 simp [hi]
theorem zK6 {R:Result->Shared->Prop} (hh:A.handled = none) (ho:s.heap.get? a = some o) (hx:o.ExactSet) (hd:o.data = .set es ep t) (hf:t.fits es.size = true) (tb:Tb (yM w) t) (hz:es.size <= sizeLine) (hSa:S ≠ a)
  (hS:s.heap.get? S = some { cls:=.type "list",data:=.seq #[] c₀ })
  (hR:∀ h' tk d acc c',(∀ b u,b ≠ S->s.heap.get? b = some u->h'.get? b = some u)->h'.get? S = some { cls:=.type "list",dict:=none,data:=.seq acc c',slots:=#[] }->acc.toList.Perm (es.toList.map (·.2))->R (.ok (.ret res)) { s with heap:=h',toks:=tk,drawn:=d }) :
  wpAny (model prog w) A.in1 (Builtin.List.listExtendWith (.ref S) (.ref a) res)
   (λfin s'=>match fin with | .done f=>R (.ok f) s' | .again c'=>c'.quiet = true /\ codeAny (model prog w) A c' R s') (λe s'=>R (.error e) s') s:=by
 have hT:s.TypeIs (.ref a) "set":=⟨o,ho,hx.1⟩
 have lta:a < s.heap.objs.size:=lt_size ho
 have ltS:S < s.heap.objs.size:=lt_size hS
 have hi:A.in1.handled = none:=by simp [hh]
 unfold Builtin.List.listExtendWith
 refine wpAny_bind (wpAny_typeOf hT ?_)
 have h1:Builtin.List.listSameRef (.ref S) (.ref a) = false:=by simp [Builtin.List.listSameRef,hSa]
 simp only [h1,show (Value.type "set" == Value.type "list") = false by decide,show (Value.type "set" == Value.type "tuple") = false by decide,Bool.or_false,Bool.false_eq_true,if_false]
 have old:∀ {b:Addr} {u:Obj} {n:Nat},s.heap.get? b = some u->s.heap.objs.size <= n->b ≠ n:=λe hn z=>absurd (lt_size e) (by rw [z]; exact Nat.not_lt_of_le hn)
 refine wpAny_bind (zPw ho hx hd hf (λhc=>?_) λhc=>⟨hz,λd ps hp=>?_⟩)
 ·have hS':=get?_push_of_some (itO (.int 0 0) 0 a es.size ep) hS
  have ho':=get?_push_of_some (itO (.int 0 0) 0 a es.size ep) ho
  have hI:(s.heap.push (itO (.int 0 0) 0 a es.size ep)).get? s.heap.objs.size = some (itO (.int 0 0) 0 a es.size ep):=get?_push_size _ rfl
  have off:S ∉ [s.heap.objs.size,a]:=λz=>by
   rcases mem_cons.mp z with z | z
   ·exact old hS (Nat.le_refl _) z
   ·exact hSa (mem_singleton.mp z)
  have hne:a ≠ s.heap.objs.size:=old ho (Nat.le_refl _)
  cases hb:w.params.followText "set-order" with
  | true =>
   refine zH4 (s:={ s with heap:=_ }) (zLh hi hne hd hf hb) hz off ⟨o,ho',hx.1⟩ ⟨ho',0,0,hI⟩ hS' λh' tk acc c' k h2 h3=>?_
   refine hR h' tk s.drawn acc c' (λb u n e=>k b u n (old e (Nat.le_refl _)) (get?_push_of_some _ e)) h2 ?_
   rw [zFz h3 (by rw [length_map,(uR _ es).length_eq,length_toList])]
   exact (uR _ es).map _
  | false =>
   have hl:t.led = true:=by rw [tb.led]; unfold yM; rw [hb]; rfl
   have hn:(!t.plain && decide (es.size > 1)) = false:=by rw [hb] at hc; exact hc
   have hr:Rz t.place:=by
    cases hp:t.plain with
    | true=>exact tb.rz hp
    | false =>
     rw [hp] at hn
     refine zO9 ?_
     rw [zAx hf]
     have:¬ es.size > 1:=of_decide_eq_false (by simpa using hn)
     omega
   refine zH4 (s:={ s with heap:=_ }) (zJ9 hi hne hd hf hb hl hn hr) hz off ⟨o,ho',hx.1⟩ ⟨ho',0,0,hI,zLd hr⟩ hS' λh' tk acc c' k h2 h3=>?_
   refine hR h' tk s.drawn acc c' (λb u n e=>k b u n (old e (Nat.le_refl _)) (get?_push_of_some _ e)) h2 ?_
   rw [zFz h3 (by rw [length_map,length_toList])]
 ·have e0:∀ {b:Addr} {u:Obj},s.heap.get? b = some u->((s.heap.push { cls:=.type "tuple",data:=.seq (ps.map λ(i:Nat)=>Value.int i 0).toArray }).push (itO (.ref s.heap.objs.size) 0 a es.size ep)).get? b = some u:=λe=>get?_push_of_some _ (get?_push_of_some _ e)
  have sz:(s.heap.push ({ cls:=.type "tuple",data:=.seq (ps.map λ(i:Nat)=>Value.int i 0).toArray }:Obj)).objs.size = s.heap.objs.size + 1:=size_push ..
  have hI:((s.heap.push { cls:=.type "tuple",data:=.seq (ps.map λ(i:Nat)=>Value.int i 0).toArray }).push (itO (.ref s.heap.objs.size) 0 a es.size ep)).get? (s.heap.objs.size + 1) = some (itO (.ref s.heap.objs.size) 0 a es.size ep):=by
   rw [<- sz]; exact get?_push_size _ rfl
  have hTT:((s.heap.push { cls:=.type "tuple",data:=.seq (ps.map λ(i:Nat)=>Value.int i 0).toArray }).push (itO (.ref s.heap.objs.size) 0 a es.size ep)).get? s.heap.objs.size = some { cls:=.type "tuple",data:=.seq (ps.map λ(i:Nat)=>Value.int i 0).toArray }:=get?_push_of_some _ (get?_push_size _ rfl)
  have off:S ∉ [s.heap.objs.size + 1,a,s.heap.objs.size]:=λz=>by
   rcases mem_cons.mp z with z | z
   ·exact old hS (Nat.le_succ _) z
   ·rcases mem_cons.mp z with z | z
    ·exact hSa z
    ·exact old hS (Nat.le_refl _) (mem_singleton.mp z)
  refine zH4 (s:={ s with drawn:=d,heap:=_ }) (zKa hi (old ho (Nat.le_succ _)) (Nat.ne_of_lt (Nat.lt_succ_self _)) hd hf hp) hz off ⟨o,e0 ho,hx.1⟩ ⟨e0 ho,hTT,hI⟩ (e0 hS) λh' tk acc c' k h2 h3=>?_
  refine hR h' tk d acc c' (λb u n e=>k b u n (old e (Nat.le_succ _)) (e0 e)) h2 ?_
  rw [zFz h3 (by rw [length_map,hp.length_eq,length_range])]
  have e1:=zKm es
  rw [<- e1]
  exact hp.map _
theorem zIw {R:List Value->Shared->Prop} (hh:A.handled = none) (ho:s.heap.get? a = some o) (hx:o.ExactSet) (hd:o.data = .set es ep t) (hf:t.fits es.size = true) (tb:Tb (yM w) t) (hz:es.size <= sizeLine)
  (h:∀ h' tk d (acc:List Value),(∀ b u,s.heap.get? b = some u->h'.get? b = some u)->acc.Perm (es.toList.map (·.2))->R acc { s with heap:=h',toks:=tk,drawn:=d }) :
  wpAny (model prog w) A (collect (.ref a)) R E s:=by
 have lt:a < s.heap.objs.size:=lt_size ho
 unfold collect
 refine wpAny_bind (wpAny_runValue (codeAny_builtin entry_proto_collect' ?_))
 rw [Around.under_plainId F.plain_proto_collect _]
 refine wpAny_bind (m:=newList []) (wpAny_newObj_type (wpAny_pure ⟨plainId_quiet F.plain_list_iadd _,codeAny_builtin entry_list_iadd' ?_⟩))
 rw [Around.under_plainId F.plain_list_iadd _]
 have hS:(s.heap.push { cls:=.type "list",data:=.seq ([]:List Value).toArray }).get? s.heap.objs.size = some { cls:=.type "list",data:=.seq #[] }:=get?_push_size _ rfl
 have key:=zK6 (prog:=prog) (A:=A) (S:=s.heap.objs.size) (res:=.ref s.heap.objs.size) (s:={ s with heap:=s.heap.push { cls:=.type "list",data:=.seq ([]:List Value).toArray } })
  (R:=λ(q:Result) (s':Shared)=>∃ (h':Heap) (tk:Nat) (d:Drawn) (acc:Array Value) (c':Nat),q = .ok (.ret (.ref s.heap.objs.size)) /\ s' = { s with heap:=h',toks:=tk,drawn:=d } /\ (∀ b u,s.heap.get? b = some u->h'.get? b = some u) /\
   h'.get? s.heap.objs.size = some { cls:=.type "list",dict:=none,data:=.seq acc c',slots:=#[] } /\ acc.toList.Perm (es.toList.map (·.2)))
  hh (get?_push_of_some _ ho) hx hd hf tb hz (Nat.ne_of_gt lt) hS λh' tk d acc c' k h1 h2=>⟨h',tk,d,acc,c',rfl,rfl,λb u e=>k b u (Nat.ne_of_lt (lt_size e)) (get?_push_of_some _ e),h1,h2⟩
 refine wpAny_mono key (λfin s' x=>?_) λe s' x=>?_
 ·cases fin with
  | done f =>
   obtain ⟨h',tk,d,acc,c',e,rfl,k,h1,h2⟩:=x
   cases e
   refine wpAny_bind (m:=load s.heap.objs.size) (wpAny_load h1 ?_)
   exact wpAny_pure (h h' tk d acc.toList k h2)
  | again c1 =>
   refine ⟨x.1,codeAny_mono x.2 λq s2 y=>?_⟩
   obtain ⟨h',tk,d,acc,c',rfl,rfl,k,h1,h2⟩:=y
   refine wpAny_bind (m:=load s.heap.objs.size) (wpAny_load h1 ?_)
   exact wpAny_pure (h h' tk d acc.toList k h2)
 ·obtain ⟨_,_,_,_,_,e',_⟩:=x
  cases e'
end
end SetP
namespace L2
open PySem PySem.Spec PyProof.Rows SetP
theorem Inv.drew (I:Inv X pins σ H s) (d:Drawn):Inv X pins σ H { s with drawn:=d }:=⟨I.ok,I.os,I.bare,I.base,I.loc,I.cell,I.free,I.freeC,I.pin,I.hok,I.len⟩
section
variable {X:Cx}
theorem bt_set:bootBuiltins "set" = some (.type "set"):=by decide +kernel
end
end L2
namespace Ts
open PySem L2
section
variable {K:PySem.W.Frag} {B:Bs} {sl:SL K} {md:Md} {t:TE}
end
end Ts
namespace SetP
open PySem PySem.Spec PyProof.Rows
set_option maxRecDepth 100000
section
variable {prog:Program} {w:World} {κ:Type} [DecidableEq κ] {knd:KeyKind prog w κ} {dec:Value->κ} {led:Bool} {A:Around} {E:Value->Shared->Prop} {s:Shared}
theorem Good.size (g:Good knd dec led h a ks):∃ o es ep t,h.get? a = some o /\ o.ExactSet /\ o.data = .set es ep t /\ t.fits es.size = true /\ es.size = ks.length /\ Tb led t /\ ElemsOf knd es.toList /\ (es.toList.map λe=>dec e.2).Perm ks:=by
 obtain ⟨o,es,ep,t,h1,h2,h3,hel,hp,nd,hb,hf,tb⟩:=g
 exact ⟨o,es,ep,t,h1,h2,h3,hf,by rw [<- hp.length_eq,length_map,length_toList],tb,hel,hp⟩
theorem Good.type {s:Shared} (g:Good knd dec led s.heap a ks):s.TypeIs (.ref a) "set":=by
 obtain ⟨o,_,_,_,h1,h2,_⟩:=g
 exact ⟨o,h1,h2.1⟩
theorem zGd {Q:Bool->Shared->Prop} (hT:s.TypeIs (.ref a) "set") (h:Q true s):wpAny (model prog w) A (Builtin.Frozenset.isAnySet (.ref a)) Q E s:=by
 unfold Builtin.Frozenset.isAnySet
 refine wpAny_bind (wpAny_isInstance (T:="set") (b:=true) hT sub_set_self ?_)
 exact wpAny_pure h
theorem zPg (sets:List Addr) (hs:∀ a ∈ sets,∃ ks:List κ,Good knd dec led s.heap a ks) (hn:∀ k v,knd.is k v = true->∀ b,v ≠ .ref b) {Q:Bool->Shared->Prop} (h:Q true s):wpAny (model prog w) A (setsQuiet sets) Q E s:=by
 unfold setsQuiet
 refine wpAny_bind (wpAny_mono (wpAny_forIn_list (β:=Option Bool × Unit) _ (λl b s'=>s' = s /\ b = (none,()) /\ ∀ a ∈ l,∃ ks:List κ,Good knd dec led s.heap a ks) (λb s'=>s' = s /\ b = (none,())) ?turn (λb s' hI=>⟨hI.1,hI.2.1⟩) sets _ ⟨rfl,rfl,hs⟩) ?post (λ_ _ h=>h))
 case post =>
  rintro b s' ⟨rfl,rfl⟩
  exact wpAny_pure h
 case turn =>
  rintro a rest b s' ⟨rfl,rfl,hg⟩
  obtain ⟨ks,g⟩:=hg a mem_cons_self
  obtain ⟨o,es,ep,t,h1,h2,h3,hf,hl,tb,hel,hp⟩:=g.size
  refine wpAny_bind (zCp h1 h3 hf ?_)
  rw [<- forIn_toList]
  refine wpAny_bind (wpAny_mono (wpAny_forIn_list (β:=Option Bool × Unit) _ (λl b s''=>s'' = s' /\ b = (none,()) /\ ∀ e ∈ l,∀ c,e.2 ≠ .ref c) (λb s''=>s'' = s' /\ b = (none,())) ?t2 (λb s' hI=>⟨hI.1,hI.2.1⟩) es.toList _ ⟨rfl,rfl,?p0⟩) ?p2 (λ_ _ h=>h))
  case p0 =>
   intro e he c z
   obtain ⟨⟨k,hk,_⟩,_⟩:=hel e he
   exact hn k _ hk c z
  case p2 =>
   rintro b s'' ⟨rfl,rfl⟩
   exact wpAny_pure ⟨rfl,rfl,λa ha=>hg a (mem_cons_of_mem _ ha)⟩
  case t2 =>
   rintro ⟨hh,x⟩ l b s'' ⟨rfl,rfl,hl⟩
   have hx:=hl _ mem_cons_self
   dsimp only at hx ⊢
   split
   ·exact absurd rfl (hx _)
   ·exact wpAny_pure ⟨rfl,rfl,λe he=>hl e (mem_cons_of_mem _ he)⟩
theorem walk_ok (g:Good knd dec (yM w) s.heap a ks) (hq:w.params.followText "set-order" = false->∀ o es ep t,s.heap.get? a = some o->o.data = .set es ep t->(!t.plain && decide (es.size > 1)) = false) {Q:Array (Int × Value)->Shared->Prop}
  (h:∀ es:Array (Int × Value),ElemsOf knd es.toList->(es.toList.map λe=>dec e.2).Perm ks->Q es s):wpAny (model prog w) A (setWalk a) Q E s:=by
 obtain ⟨o,es,ep,t,h1,h2,h3,hf,hl,tb,hel,hp⟩:=g.size
 unfold setWalk
 refine wpAny_bind (wpAny_setState_of h1 h3 hf ?_)
 dsimp only
 refine wpAny_bind (zAa ?_)
 cases hb:w.params.followText "set-order" with
 | true =>
  simp only [↓reduceIte]
  refine wpAny_bind (wpAny_askSetting (wpAny_pure ?_))
  exact h _ (hel.perm (uR _ es)) (((uR _ es).map _).trans hp)
 | false =>
  have q:=hq hb o es ep t h1 h3
  have hled:t.led = true:=by rw [tb.led]; unfold yM; rw [hb]; rfl
  simp only [Bool.false_eq_true,↓reduceIte]
  show wpAny _ _ (if (!t.plain && decide (es.size > 1)) = true then _ else _) _ _ _
  rw [if_neg (by rw [q]; exact Bool.false_ne_true)]
  refine wpAny_bind ?_
  show wpAny _ _ (if (!t.led && decide (es.size > 1)) = true then _ else pure ()) _ _ _
  rw [if_neg (by rw [hled]; exact Bool.false_ne_true)]
  exact wpAny_pure (wpAny_pure (h es hel hp))
theorem zGj (g:Good knd dec (yM w) s.heap a ks) (gf:Good knd dec (yM w) s.heap f kf) (hs:∀ b ∈ others,∃ ks:List κ,Good knd dec (yM w) s.heap b ks) (hn:∀ k v,knd.is k v = true->∀ b,v ≠ .ref b) {Q:Array (Int × Value)->Shared->Prop}
  (h:∀ (es:Array (Int × Value)) (h':Heap),ElemsOf knd es.toList->(es.toList.map λe=>dec e.2).Perm ks->SameBut f s.heap h'->Good knd dec (yM w) h' f kf->Q es { s with heap:=h' }):wpAny (model prog w) A (setWalkUnseen a others (some f)) Q E s:=by
 obtain ⟨o,es,ep,t,h1,h2,h3,hf,hl,tb,hel,hp⟩:=g.size
 unfold setWalkUnseen
 refine wpAny_bind (wpAny_setState_of h1 h3 hf ?_)
 dsimp only
 refine wpAny_bind (zAa ?_)
 split
 ·rename_i c
  refine walk_ok g (λhb o' es' ep' t' h1' h3'=>?_) λes' hel' hp'=>h es' s.heap hel' hp' (SameBut.refl f s.heap) gf
  rw [h1] at h1'
  cases h1'
  rw [h3] at h3'
  cases h3'
  rw [hb] at c
  simp only [Bool.false_or,Bool.or_eq_true,Bool.and_eq_true,decide_eq_true_eq] at c
  rcases c with ⟨_,c⟩ | c
  ·rw [c]; rfl
  ·rw [decide_eq_false (by omega),Bool.and_false]
 ·refine wpAny_bind (zPg (knd:=knd) (dec:=dec) (led:=yM w) (a :: others) (λb hb=>(mem_cons.mp hb).elim (λe=>e ▸ ⟨ks,g⟩) (hs b)) hn ?_)
  simp only [Bool.not_true,Bool.false_eq_true,↓reduceIte]
  refine wpAny_bind (wpAny_rule ?_)
  obtain ⟨of,ef,epf,tf,f1,f2,f3,ff,fl,tbf,felm,fp⟩:=gf.size
  refine wpAny_bind (wpAny_setState_of f1 f3 ff ?_)
  dsimp only
  split
  ·have gl:=gf.len
   refine wpAny_bind (wpAny_storeSet_of f1 f3 ?_ (fits_of_scanBound (by rw [fl]; exact gl)))
   obtain ⟨_,_,_,_,e1,_,_,_,_,nd,hb,_,_⟩:=gf
   refine wpAny_pure (h es _ hel hp (SameBut.update _ f _) ⟨_,ef,_,_,zC0 (es':=ef) (t':=_) f1 f3,f2,rfl,felm,fp,nd,?_,?_,?_⟩)
   ·rw [fl]; exact gl
   ·exact ff
   ·refine ⟨?_,λz=>?_⟩
    ·show (tf.led && t.led) = _
     rw [tbf.led,tb.led,Bool.and_self]
    ·exact tbf.rz (Bool.and_eq_true_iff.mp z).1
  ·exact wpAny_pure (h es s.heap hel hp (SameBut.refl f s.heap) gf)
theorem base_ok (hT:s.TypeIs (.ref a) "set") {Q:Value->Shared->Prop} (h:Q (.type "set") s):wpAny (model prog w) A (Builtin.Frozenset.baseOf a) Q E s:=by
 unfold Builtin.Frozenset.baseOf
 refine wpAny_bind (wpAny_isInstance (T:="set") (b:=true) hT sub_set_self ?_)
 exact wpAny_pure h
theorem zM0 {Q:Value->Shared->Prop} (h:Q (.ref s.heap.objs.size) { s with heap:=s.heap.push { cls:=.type "set",dict:=none,data:=.set #[] 0 (.fresh 0 0 (yM w)) } }):wpAny (model prog w) A (newSet (.type "set")) Q E s:=by
 unfold newSet setsByText
 refine wpAny_bind (wpAny_bind (wpAny_askSetting (wpAny_pure ?_)))
 dsimp only
 simp only [newObj]
 exact wpAny_bind (wpAny_alloc (wpAny_pure h))
end
end SetP
namespace L2
open PySem PySem.Spec PyProof.Rows SetP
section
variable {X:Cx}
end
end L2
namespace Ts
open PySem L2
section
variable {K:PySem.W.Frag} {B:Bs} {sl:SL K} {md:Md} {t1 t2:TE}
end
end Ts
namespace L2
open PySem PySem.Spec PyProof.Rows
section
variable {X:Cx}
def rGetL (K:PySem.W.Frag):V->V->Hp->VK->Prop:=λx y H Q=>∃ p xs i v,x = .ref p /\ y = .int i /\ 0 <= i /\ SqL K H p xs /\ atI xs i = some v /\ Q v H
theorem zNo (K:PySem.W.Frag) (h:X.K = K:=by rfl):PGet X (rGetL K):=by
 subst h
 intro pins s σ H o i ov iv Q I rx ry h
 obtain ⟨p,xs,i,z,rfl,rfl,h0,hq,he,q⟩:=h
 cases rx
 obtain ⟨t,rfl⟩:=ry
 obtain ⟨its,r,pl,hz⟩:=I.list hq
 obtain ⟨j,h1,h2,h3,h4,h5⟩:=zIx he
 obtain ⟨w,ew,rw'⟩:=r.get h2
 have hl:=r.length
 have hn:=zEv
 have hj:i.toNat = j:=by
  rw [seqIndex_of h0 h5] at h1
  exact Option.some.inj h1
 exact wpAny_getItem_list pl.isList h0 (by omega) (by rw [hj]; simpa using ew) ⟨z,H,I,rw',q⟩
def tLR (ta:TA):TE:=λσ H Q=>ta σ H λvs H1=>∃ j:Int,vs = [.int j] /\ -(2 ^ 62) <= j /\ j < 1000000 /\ ∀ l,H1 l = none->Q (.ref l) (upd H1 l (.lst (((List.range j.toNat).map Int.ofNat).map V.int)))
theorem ints_at {acc:List Value}:∀ {ns:LI},acc.length = ns.length->(∀ (i:Nat) (v:Value),acc[i]? = some v->∃ t:Tok,v = Value.int (ns.getD i 0) t)->IntsAre acc ns:=by
 induction acc with
 | nil =>
  intro ns h _
  cases ns with
  | nil=>exact .nil
  | cons n ns=>simp at h
 | cons v acc ih =>
  intro ns h g
  cases ns with
  | nil=>simp at h
  | cons n ns =>
   obtain ⟨t,e⟩:=g 0 v rfl
   subst e
   exact .cons n t (ih (by simpa using h) λi v hv=>g (i + 1) v hv)
theorem zJk (hc:X.calm = true) (hg:Gl X "list") (hm:X.mg "list" = none) (hg2:Gl X "range") (hm2:X.mg "range" = none) (ha:PA X [a] ta) (hs:starEach [a] X.env = [(false,eval a X.env)]:=by rfl)
  (hs2:starEach [Expr.Call (.Name "range" p2) [a] [] pos2] X.env = [(false,eval (Expr.Call (.Name "range" p2) [a] [] pos2) X.env)]:=by rfl):PE X (.Call (.Name "list" p) [.Call (.Name "range" p2) [a] [] pos2] [] pos) (tLR ta):=by
 intro pins s σ H Q I h
 refine wpAny_Call_Name_kw (zB0 I hg hm (by decide +kernel:bootBuiltins "list" = some (.type "list")) ?_)
 refine PyProof.Rows.callWith_type1 ?_ hs2 rfl
 rw [hs2]
 show wpAny _ _ (spliced ((false,eval (Expr.Call (.Name "range" p2) [a] [] pos2) X.env) :: backTo pos [])) _ _ s
 refine Calls.spliced_cons (wpAny_Call_Name_kw (zB0 I hg2 hm2 boot_range (PyProof.Rows.callWith_type1 (thn (ha pos2 pins s σ H _ I h) λus s1 ⟨vs,H1,I1,r1,q1⟩=>?_) hs rfl)))
 obtain ⟨j,e,q1,q2,q⟩:=q1
 subst e
 cases r1 with
 | cons r rr =>
  cases rr
  obtain ⟨t,rfl⟩:=r
  refine call_range_1 (Calls.spliced_nil ?_)
  have I2:Inv X pins σ H1 { s1 with heap:=s1.heap.push { cls:=.type "range",data:=.fields #[.int 0 s1.toks,.int j t,.int 1 (s1.toks + 1)] },toks:=s1.toks + 1 + 1 }:=I1.kept λb o e=>get?_push_of_some _ e
  refine call_list_range (n:=j.toNat) (I2.ok.hd hc) (IsRange.new ..) (small_one (by omega) (by omega) q1 (by omega)) (by rw [rangeSize_one]; split <;> omega) (by omega) λh' tk acc' c' hk hS hacc=>?_
  have hI:IntsAre acc'.toList ((List.range j.toNat).map Int.ofNat):=ints_at (by rw [length_toList,hacc.1,length_map,length_range]) λi v hv=>by
   rw [getElem?_toList] at hv
   obtain ⟨t',rfl⟩:=hacc.2 i v hv
   have hi:i < j.toNat:=by
    have:=(Array.getElem?_eq_some_iff.mp hv).1
    rw [hacc.1] at this
    exact this
   refine ⟨t',?_⟩
   have e:((List.range j.toNat).map Int.ofNat).getD i 0 = (i:Int):=by
    rw [getD_eq_getElem?_getD,getElem?_map,getElem?_range hi]
    rfl
   rw [e]
   simp
  refine ⟨.ref _,_,I2.laid (h':=h') (t':=tk) (o:=.lst (((List.range j.toNat).map Int.ofNat).map V.int)) (λb ob w=>hk b ob w) (Nat.le_refl _) ?_,rfl,q _ (I2.hok.fresh (Nat.le_refl _))⟩
  refine ⟨?_,acc'.toList,c',zAq hI,?_⟩
  ·rw [length_map,length_map,length_range]
   exact Nat.le_trans (show j.toNat <= 1000000 by omega) (by decide)
  ·rw [toArray_toList]; exact hS
end
end L2
namespace Ts
open PySem L2
section
variable {K:PySem.W.Frag} {B:Bs} {sl:SL K} {md:Md} {t t1 t2 te:TE} {m1 m2:Option Int}
def lrM (n:Int):Option LI:=if -(2 ^ 62) <= n /\ n < 1000000 then some ((List.range n.toNat).map Int.ofNat) else none
theorem zJ1 (h:Ex B sl .hp t m):Eo B sl md (tLR (xF t tNil)) (m.bind lrM):=λc hc F O H σ Q s k=>by
 cases m with
 | none=>cases hc
 | some n =>
  have hc:lrM n = some c:=hc
  unfold lrM at hc
  split at hc
  case isFalse=>cases hc
  rename_i hl
  cases hc
  refine h n rfl F O H σ _ s λv F' H' g r1=>?_
  cases r1
  exact ⟨n,rfl,hl.1,hl.2,λl hn=>k l _ F' H' g hn (zAf _)⟩
def augM (f:Int->Int->Int) (xs:LI) (ix:Int) (y:Int):Option LI:=if 0 <= ix then (L2.atI xs ix).bind λx=>zFn xs ix (f x y) else none
end
section
variable {K:PySem.W.Frag} {B:Bs} {sl:SL K} {F H H2:Hp} {O:Own} {σ:St} {te:TE}
end
section
variable {K:PySem.W.Frag} {B:Bs} {sl sl2:SL K} {G F H:Hp} {O:Own} {σ:St} {te:TE}
theorem zFf {α β:Type} [Rp K α] [Rp K β] {m:Option (α × β)} {L:α × β->SL K} (h:Ex B sl (mdb n) te m) (hg:Tg B sl n g L):Sn B sl (tAsg te g) L m:=λa ha G D σ H s k=>by
 obtain ⟨F,O,g0,z⟩:=s
 exact h a ha F O H σ _ z λv F' H' gr r=>hg v a F' O H' σ _ (z.grow gr) r λσ' z'=>k _ _ ⟨F',O,g0.trans gr.ff,z'⟩
inductive LeD {α:Type} [Rp K α] (kvs:List (Key × α)):SL K->SL K->Prop
 | here {a:SL K}:LeD kvs (.od kvs :: a) (.fz false (Dc.mk kvs) :: a)
 | skip {s:Slot K} {a b:SL K}:LeD kvs a b->LeD kvs (s :: a) (s :: b)
end
section
variable {K:PySem.W.Frag} {B:Bs} {sl:SL K} {md:Md} {t t2:TE} {α β:Type} [Rp K α] [Rp K β]
theorem ki_nt:kitOne K (.type "NoneType") (.type "tuple") = some false:=by
 first | rfl | (unfold kitOne kitCls; decide +kernel)
theorem ki_tt:kitOne K (.type "tuple") (.type "tuple") = some true:=by
 first | rfl | (unfold kitOne kitCls; decide +kernel)
theorem zJ6:bootBuiltins "tuple" = some (.type "tuple"):=by decide +kernel
theorem zP5 {m:Option (Option (α × β))} (h:Ex B sl .hp t m):Ex B sl md (tCB (rIsi K (.type "tuple")) (xF t (xF (tC (.ty "tuple")) tNil))) (m.bind λx=>some x.isSome):=λd hd F O H σ Q s k=>by
 cases m with
 | none=>cases hd
 | some a =>
  cases (show some a.isSome = some d from hd)
  refine h a rfl F O H σ _ s λv F' H' g r1=>?_
  cases a with
  | none=>cases r1; exact ⟨.non,.ty "tuple",_,false,rfl,rfl,.non,ki_nt,k _ F' H' g rfl⟩
  | some x=>exact ⟨v,.ty "tuple",_,true,rfl,rfl,Ty.is (K:=K) (α:=α × β) r1.2,ki_tt,k _ F' H' g rfl⟩
theorem zNy {m:Option (α × β)} (h:Ex B sl .hp t m):Ex B sl md (tCB (rLen K) (xF t tNil)) (m.bind λ_=>some (2:Int)):=λd hd F O H σ Q s k=>by
 cases m with
 | none=>cases hd
 | some a =>
  cases (show some (2:Int) = some d from hd)
  refine h a rfl F O H σ _ s λv F' H' g r1=>?_
  obtain ⟨p,w1,w2,rfl,h1,h2,h3⟩:=r1
  exact ⟨p,[w1,w2],rfl,.inr (.inl (.inl h1)),k _ F' H' g rfl⟩
end
def cutL {α:Type} (xs:List α) (lo hi:Option Int):List α:=(xs.drop (HT.sIx xs.length 0 lo)).take (HT.sIx xs.length xs.length hi - HT.sIx xs.length 0 lo)
def catM {α:Type} (xs ys:List α):Option (List α):=if xs.length + ys.length <= cap then some (xs ++ ys) else none
section
variable {P:Program} {w:World} {K:PySem.W.Frag} {mg:Str->Option Value} {base:Heap} {B:Bs} {sl:SL K} {md:Md} {α β:Type} [Rp K α] [Rp K β] {tA:Addr} {tO:HO} {te t1 t2:TE}
theorem A2.cut (h:A2 R vs xs) (lo hi:Option Int):A2 R (cutV vs lo hi) (cutL xs lo hi):=by
 unfold cutV cutL
 rw [h.len]
 exact (h.dr _).tk _
theorem zN3 [Sc K α] {m1 m2:Option (List α)} (h1:Ex B sl .hp t1 m1) (h2:Ex B sl .hp t2 m2):Eo B sl md (tOp rCat t1 t2) (m1.bind λa=>m2.bind λb=>catM a b):=λc hc F O H σ Q s k=>by
 obtain ⟨xs,ys,hx,hy,hc⟩:=zAo hc
 unfold catM at hc
 split at hc
 case isFalse=>cases hc
 rename_i hl
 cases hc
 refine h1 xs hx F O H σ _ s λv F' H' g r=>?_
 refine h2 ys hy F' O H' σ _ (s.grow g) λu F2 H2 g2 r2=>?_
 obtain ⟨p,vs,rfl,z1,z2⟩:=r
 obtain ⟨q,ws,rfl,z3,z4⟩:=r2
 refine ⟨p,q,vs,ws,rfl,rfl,g2.hh _ _ z1,z3,?_,λl hl'=>k l _ F2 H2 (g.trans g2) hl' (z2.sc.app z4.sc)⟩
 rw [z2.len,z4.len]
 exact zRk hl
theorem slLK (K:PySem.W.Frag) {X:Cx} (h:X.K = K:=by rfl):SlR X (rSlL K):=by subst h; exact sl_list
end
section
variable {X:Cx} {pos pos':Pos} {x:Str} {e:Expr} {te:TE}
theorem yI (i:Nat) (hN:X.N.Nodup) (he:PE X e te) (hi:X.N[i]? = some x:=by rfl) (hx:Loc X.env.scope x:=by first|exact .inl rfl|exact .inr rfl) (hs:swapsWith e (some (.Name x pos')) pos.line X.env = pure false:=by rfl)
  (hf:X.fn x = true \/ X.env.scope.names.lookup x = some .local:=by first|exact .inl rfl|exact .inr rfl|assumption):PS X (.Assign [.Name x pos'] e pos) (tAsg te (zAd i)):=zMh hN hi hx he hs hf
theorem pg_n (i:Nat) (hN:X.N.Nodup) (hi:X.N[i]? = some x:=by rfl) (hx:Loc X.env.scope x:=by first|exact .inl rfl|exact .inr rfl) (hf:X.fn x = true \/ X.env.scope.names.lookup x = some .local:=by first|exact .inl rfl|exact .inr rfl|assumption):PG X (.Name x pos) (zAd i):=yL hN hi hx hf
end
theorem esc {K:PySem.W.Frag} {B:Bs} {sl:SL K} {md:Md} {α:Type} [Rp K α] [Sc K α] {t:TE} {m:Option α} (h:Ex B sl .hp t m):Ex B sl md t m:=h.sc
theorem fsc {N P:List Str} {s:Scope} (h1:s.kind = .function:=by rfl) (h2:s.isCoroutine = false:=by rfl) (h3:s.isGenerator = false:=by rfl) (h4:N.Nodup:=by decide +kernel) (h5:N.take P.length = P:=by rfl) (h6:∀ x ∈ P,s.names.lookup x = some .local \/ s.names.lookup x = some .cell:=by decide +kernel) (h7:∀ y ∈ s.names,y.2 ≠ .free:=by decide +kernel):FnScope N P s:=⟨h1,h2,h3,h4,h5,h6,h7⟩
section
variable {K:PySem.W.Frag} {x y:Str} {st:Stmt} {f:Addr} {fd:FuncData} {p0 p1 p2 p3 p4:Str}
theorem bi1 (F:Fun K x y st f fd) (h:∀ kV dc pm an cd ct u0,bindArgs (fnOf x y (vD st) (xU st) (zK st) .none kV dc pm an cd ct) ⟨[u0],[]⟩ = pure [(p0,u0)]:=by intros; rfl):Binds K fd [p0] []:=F.binds λa b c d e g us hl=>match us,hl with | [u0],_=>h a b c d e g u0
theorem bi2 (F:Fun K x y st f fd) (h:∀ kV dc pm an cd ct u0 u1,bindArgs (fnOf x y (vD st) (xU st) (zK st) .none kV dc pm an cd ct) ⟨[u0,u1],[]⟩ = pure [(p0,u0),(p1,u1)]:=by intros; rfl):Binds K fd [p0,p1] []:=F.binds λa b c d e g us hl=>match us,hl with | [u0,u1],_=>h a b c d e g u0 u1
theorem bi3 (F:Fun K x y st f fd) (h:∀ kV dc pm an cd ct u0 u1 u2,bindArgs (fnOf x y (vD st) (xU st) (zK st) .none kV dc pm an cd ct) ⟨[u0,u1,u2],[]⟩ = pure [(p0,u0),(p1,u1),(p2,u2)]:=by intros; rfl):Binds K fd [p0,p1,p2] []:=F.binds λa b c d e g us hl=>match us,hl with | [u0,u1,u2],_=>h a b c d e g u0 u1 u2
theorem bi4 (F:Fun K x y st f fd) (h:∀ kV dc pm an cd ct u0 u1 u2 u3,bindArgs (fnOf x y (vD st) (xU st) (zK st) .none kV dc pm an cd ct) ⟨[u0,u1,u2,u3],[]⟩ = pure [(p0,u0),(p1,u1),(p2,u2),(p3,u3)]:=by intros; rfl):Binds K fd [p0,p1,p2,p3] []:=F.binds λa b c d e g us hl=>match us,hl with | [u0,u1,u2,u3],_=>h a b c d e g u0 u1 u2 u3
theorem bi5 (F:Fun K x y st f fd) (h:∀ kV dc pm an cd ct u0 u1 u2 u3 u4,bindArgs (fnOf x y (vD st) (xU st) (zK st) .none kV dc pm an cd ct) ⟨[u0,u1,u2,u3,u4],[]⟩ = pure [(p0,u0),(p1,u1),(p2,u2),(p3,u3),(p4,u4)]:=by intros; rfl):Binds K fd [p0,p1,p2,p3,p4] []:=F.binds λa b c d e g us hl=>match us,hl with | [u0,u1,u2,u3,u4],_=>h a b c d e g u0 u1 u2 u3 u4
end
theorem lea {K:PySem.W.Frag} {a b:SL K} (h:Le a b:=by repeat (first | exact Le.nil | refine Le.eq ?_ | refine Le.un ?_ | refine Le.fr ?_)):Le a b:=h
theorem lea0 {K:PySem.W.Frag} {a b:SL K} (h:Le0 a b:=by repeat (first | exact Le0.nil | refine Le0.eq ?_ | refine Le0.un ?_)):Le0 a b:=h
abbrev Slot.z {α:Type} [Rp K α] (a:α):Slot K:=.fz false a
abbrev Slot.y {α:Type} [Rp K α] (a:α):Slot K:=.fz true a
end Ts
namespace SetP
open PySem PySem.SetTable
set_option maxRecDepth 100000
def itr (m:Nat):Nat->Nat->Nat
 | 0,i=>i
 | t + 1,i=>itr m t ((i * 5 + 1) % m)
def seen (m:Nat):Nat->Nat->Nat->Nat
 | 0,_,acc=>acc
 | t + 1,i,acc=>seen m t ((i * 5 + 1) % m) (acc ||| 1 <<< i)
theorem zJc (m j:Nat):∀ (t i acc:Nat),(seen m t i acc).testBit j = true->acc.testBit j = true \/ ∃ u,u < t /\ itr m u i = j
 | 0,i,acc,h=>.inl h
 | t + 1,i,acc,h=>by
  rcases zJc m j t _ _ h with z | ⟨u,hu,e⟩
  ·rw [Nat.testBit_or,Bool.or_eq_true] at z
   rcases z with z | z
   ·exact .inl z
   ·rw [Nat.testBit_shiftLeft,Bool.and_eq_true,decide_eq_true_eq] at z
    obtain ⟨z1,z2⟩:=z
    have:j - i = 0:=by
     cases q:j - i with
     | zero=>rfl
     | succ n =>
      rw [q] at z2
      have:(1:Nat).testBit (n + 1) = false:=Nat.testBit_lt_two_pow (Nat.lt_of_lt_of_le (by decide) (Nat.pow_le_pow_right (by decide) (Nat.succ_le_succ (Nat.zero_le n))))
      rw [this] at z2
      cases z2
    exact .inr ⟨0,Nat.succ_pos _,by show i = j; omega⟩
  ·exact .inr ⟨u + 1,Nat.succ_lt_succ hu,e⟩
def cyc (m:Nat):Bool:=(List.range m).all λi=>seen m m i 0 == 2 ^ m - 1
theorem cyc_hit (h:cyc m = true) (hi:i < m) (hj:j < m):∃ u,u < m /\ itr m u i = j:=by
 have q:=all_eq_true.mp h i (mem_range.mpr hi)
 have e:seen m m i 0 = 2 ^ m - 1:=by simpa using q
 have t:(seen m m i 0).testBit j = true:=by rw [e,Nat.testBit_two_pow_sub_one]; simpa using hj
 rcases zJc m j m i 0 t with z | z
 ·rw [Nat.zero_testBit] at z; cases z
 ·exact z
theorem cyc8:cyc 8 = true:=by decide +kernel
theorem cyc16:cyc 16 = true:=by decide +kernel
theorem cyc32:cyc 32 = true:=by decide +kernel
theorem cyc64:cyc 64 = true:=by decide +kernel
theorem cyc128:cyc 128 = true:=by decide +kernel
theorem cyc256:cyc 256 = true:=by decide +kernel
theorem find0 {owner:Array (Option Nat)} {mask i:Nat} (h:owner.getD i (some 0) = none):(List.range (runEnd mask i + 1 - i)).find? (λk=>(owner.getD (i + k) (some 0)).isNone) ≠ none:=λe=>by
 have q:=List.find?_eq_none.mp e 0 (mem_range.mpr (by unfold runEnd; split <;> omega))
 apply q
 show (owner.getD (i + 0) (some 0)).isNone = true
 rw [Nat.add_zero,h]; rfl
theorem zHg {owner:Array (Option Nat)} {mask:Nat}:∀ (fuel i p j:Nat),layClean.free mask owner fuel i p = some j->owner.getD j (some 0) = none
 | 0,_,_,_,h=>by cases h
 | fuel + 1,i,p,j,h=>by
  unfold layClean.free at h
  split at h
  ·rename_i k hk
   cases h
   have:=List.find?_some hk
   simpa using this
  ·exact zHg fuel _ _ j h
theorem zHh {owner:Array (Option Nat)} {mask j:Nat} (hj:owner.getD j (some 0) = none):∀ (fuel u i:Nat),u < fuel->itr (mask + 1) u i = j->layClean.free mask owner fuel i 0 ≠ none
 | 0,u,i,h,_=>absurd h (Nat.not_lt_zero _)
 | fuel + 1,0,i,_,e=>by
  have e':i = j:=e
  subst e'
  unfold layClean.free
  cases q:(List.range (runEnd mask i + 1 - i)).find? λk=>(owner.getD (i + k) (some 0)).isNone with
  | none=>exact absurd q (find0 hj)
  | some k=>exact λz=>by cases z
 | fuel + 1,u + 1,i,h,e=>by
  unfold layClean.free
  cases q:(List.range (runEnd mask i + 1 - i)).find? λk=>(owner.getD (i + k) (some 0)).isNone with
  | none=>exact zHh hj fuel u _ (Nat.lt_of_succ_lt_succ h) e
  | some k=>exact λz=>by cases z
theorem zJw {owner:Array (Option Nat)} {mask:Nat} (fuel:Nat) (h0:∀ i,i <= mask->layClean.free mask owner fuel i 0 ≠ none):∀ (d i p:Nat),i <= mask->p < 32 ^ d->layClean.free mask owner (fuel + d) i p ≠ none
 | 0,i,p,hi,hp=>by
  have e:p = 0:=by rw [Nat.pow_zero] at hp; omega
  subst e
  exact h0 i hi
 | d + 1,i,p,hi,hp=>by
  show layClean.free mask owner (fuel + d + 1) i p ≠ none
  unfold layClean.free
  cases q:(List.range (runEnd mask i + 1 - i)).find? λk=>(owner.getD (i + k) (some 0)).isNone with
  | none=>exact zJw fuel h0 d _ _ (Nat.le_of_lt_succ (Nat.mod_lt _ (Nat.succ_pos _))) (by rw [Nat.pow_succ] at hp; show p / 32 < _; omega)
  | some k=>exact λz=>by cases z
theorem free_ok {owner:Array (Option Nat)} {mask j:Nat} (hc:cyc (mask + 1) = true) (hs:j <= mask) (hj:owner.getD j (some 0) = none) (h:Int):∃ k,layClean.free mask owner (turns mask) (bits h % (mask + 1)) (bits h) = some k /\ owner.getD k (some 0) = none:=by
 have q:layClean.free mask owner (mask + 2 + 13) (bits h % (mask + 1)) (bits h) ≠ none:=zJw (mask + 2) (λi hi=>by
  obtain ⟨u,hu,e⟩:=cyc_hit hc (Nat.lt_succ_of_le hi) (Nat.lt_succ_of_le hs)
  exact zHh hj _ u i (by omega) e) 13 _ _ (Nat.le_of_lt_succ (Nat.mod_lt _ (Nat.succ_pos _))) (by unfold bits; have:=Int.emod_lt_of_pos h (b:=2 ^ 64) (by decide); have:=Int.emod_nonneg h (b:=2 ^ 64) (by decide); omega)
 unfold turns
 cases e:layClean.free mask owner (mask + 15) (bits h % (mask + 1)) (bits h) with
 | none=>exact absurd e q
 | some k=>exact ⟨k,rfl,zHg _ _ _ _ e⟩
theorem zFm {α:Type} (v:α):∀ (l:List (Option α)) (j:Nat),l[j]? = some none->((l.set j (some v)).filterMap id).Perm (v :: l.filterMap id)
 | [],j,h=>by simp at h
 | x :: l,0,h=>by
  have e:x = none:=by simpa using h
  subst e
  exact .refl _
 | none :: l,j + 1,h=>by
  show ((l.set j (some v)).filterMap id).Perm (v :: l.filterMap id)
  exact zFm v l j (by simpa using h)
 | some x :: l,j + 1,h=>by
  show (x :: (l.set j (some v)).filterMap id).Perm (v :: x :: l.filterMap id)
  exact ((zFm v l j (by simpa using h)).cons x).trans (.swap _ _ _)
theorem zGm:∀ (l:List (Option Nat)),(l.filterMap id).length < l.length->∃ j,j < l.length /\ l[j]? = some none
 | [],h=>by simp at h
 | none :: l,_=>⟨0,by simp,rfl⟩
 | some x :: l,h=>by
  obtain ⟨j,hj,e⟩:=zGm l (by simpa using h)
  exact ⟨j + 1,by simpa using hj,e⟩
theorem getD_none {owner:Array (Option Nat)}:owner.getD j (some 0) = none ↔ owner.toList[j]? = some none:=by
 rw [Array.getD_eq_getD_getElem?,getElem?_toList]
 cases owner[j]? with
 | none=>simp
 | some x=>simp
theorem zRc {mask:Nat} (hc:cyc (mask + 1) = true):∀ (hs:LI) (owner:Array (Option Nat)) (k:Nat),owner.size = mask + 1->(owner.toList.filterMap id).Perm (List.range k)->k + hs.length <= mask ->
  ∃ owner',hs.foldl (λacc h=>do
   let (owner,k) <- acc
   let j <- layClean.free mask owner (turns mask) (bits h % (mask + 1)) (bits h)
   pure (owner.setIfInBounds j (some k),k + 1)) (some (owner,k)) = some (owner',k + hs.length) /\ owner'.size = mask + 1 /\ (owner'.toList.filterMap id).Perm (List.range (k + hs.length))
 | [],owner,k,h1,h2,h3=>⟨owner,rfl,h1,h2⟩
 | h :: hs,owner,k,h1,h2,h3=>by
  obtain ⟨j,hj,ej⟩:=zGm owner.toList (by rw [h2.length_eq,length_range,length_toList,h1]; rw [length_cons] at h3; omega)
  obtain ⟨i,ei,fi⟩:=free_ok hc (owner:=owner) (j:=j) (by rw [length_toList,h1] at hj; omega) (getD_none.mpr ej) h
  have q:=zRc hc hs (owner.setIfInBounds i (some k)) (k + 1) (by rw [Array.size_setIfInBounds]; exact h1) ?_ (by rw [length_cons] at h3; omega)
  ·obtain ⟨o',e,z1,z2⟩:=q
   have ek:k + (h :: hs).length = k + 1 + hs.length:=by rw [length_cons]; omega
   refine ⟨o',?_,z1,by rw [ek]; exact z2⟩
   rw [ek,List.foldl_cons,<- e]
   refine congrArg (λz=>List.foldl _ z hs) ?_
   show (layClean.free mask owner (turns mask) (bits h % (mask + 1)) (bits h)).bind _ = _
   rw [ei]
   rfl
  ·rw [Array.toList_setIfInBounds,range_succ]
   exact ((zFm k owner.toList i (getD_none.mp fi)).trans (h2.cons k)).trans (List.perm_append_singleton k _).symm
theorem zGz:∀ (l:List (Option Nat)),(List.range l.length).filterMap (λj=>(l[j]?).getD none) = l.filterMap id
 | []=>rfl
 | x :: l=>by
  rw [length_cons,range_succ_eq_map,filterMap_cons,List.filterMap_map]
  have e:((λj=>((x :: l)[j]?).getD none) ∘ Nat.succ) = λj=>(l[j]?).getD none:=rfl
  rw [e,zGz l]
  cases x <;> rfl
theorem zNc {mask:Nat} (hc:cyc (mask + 1) = true) (finger moves:Nat) (led plain:Bool) (hs:Array Int) (hn:hs.size <= mask) :
  ∃ t order,laid mask finger moves led plain hs = some (t,order) /\ order.toList.Perm (List.range hs.size) /\ t.place.size = hs.size /\ t.dummies = #[] /\ t.mask = mask /\ t.led = led /\ t.plain = plain /\ Rz t.place:=by
 obtain ⟨o',e,z1,z2⟩:=zRc hc hs.toList (Array.replicate (mask + 1) none) 0 (by rw [Array.size_replicate]) (by rw [Array.toList_replicate,List.filterMap_replicate_of_none rfl]; exact .refl _) (by rw [Nat.zero_add,length_toList]; exact hn)
 rw [Nat.zero_add,length_toList] at z2
 have el:layClean mask hs = some o':=by
  unfold layClean
  rw [<- Array.foldl_toList,e]
  rfl
 have eo:((List.range (mask + 1)).filterMap λj=>(o'.getD j none).map λk=>(j,k)).map (·.2) = o'.toList.filterMap id:=by
  rw [<- zGz o'.toList,length_toList,z1,List.map_filterMap]
  refine congrArg (λf=>filterMap f _) (funext λj=>?_)
  rw [Array.getD_eq_getD_getElem?,getElem?_toList]
  cases (o'[j]?).getD none <;> rfl
 refine ⟨_,_,by unfold laid; rw [el]; rfl,?_,?_,rfl,rfl,rfl,rfl,zGt (λj=>o'.getD j none) _⟩
 ·show ((List.range (mask + 1)).filterMap λj=>(o'.getD j none).map λk=>(j,k)).map (·.2) |>.Perm _
  rw [eo]
  exact z2
 ·show (((List.range (mask + 1)).filterMap λj=>(o'.getD j none).map λk=>(j,k)).map (·.1)).length = _
  rw [length_map,<- length_map (f:=(·.2)),eo,z2.length_eq,length_range]
theorem zQi (h:n <= 255):∃ m,sizeAbove n = m + 1 /\ n <= m /\ cyc (m + 1) = true /\ m <= 255:=by
 by_cases h1:n < 8
 ·exact ⟨7,by unfold sizeAbove; unfold sizeAbove.go; rw [if_neg (by omega)],by omega,cyc8,by omega⟩
 by_cases h2:n < 16
 ·exact ⟨15,by unfold sizeAbove; unfold sizeAbove.go; rw [if_pos (by omega)]; unfold sizeAbove.go; rw [if_neg (by omega)],by omega,cyc16,by omega⟩
 by_cases h3:n < 32
 ·exact ⟨31,by unfold sizeAbove; unfold sizeAbove.go; rw [if_pos (by omega)]; unfold sizeAbove.go; rw [if_pos (by omega)]; unfold sizeAbove.go; rw [if_neg (by omega)],by omega,cyc32,by omega⟩
 by_cases h4:n < 64
 ·exact ⟨63,by unfold sizeAbove; unfold sizeAbove.go; rw [if_pos (by omega)]; unfold sizeAbove.go; rw [if_pos (by omega)]; unfold sizeAbove.go; rw [if_pos (by omega)]; unfold sizeAbove.go; rw [if_neg (by omega)],by omega,cyc64,by omega⟩
 by_cases h5:n < 128
 ·exact ⟨127,by unfold sizeAbove; unfold sizeAbove.go; rw [if_pos (by omega)]; unfold sizeAbove.go; rw [if_pos (by omega)]; unfold sizeAbove.go; rw [if_pos (by omega)]; unfold sizeAbove.go; rw [if_pos (by omega)]; unfold sizeAbove.go; rw [if_neg (by omega)],by omega,cyc128,by omega⟩
 ·exact ⟨255,by unfold sizeAbove; unfold sizeAbove.go; rw [if_pos (by omega)]; unfold sizeAbove.go; rw [if_pos (by omega)]; unfold sizeAbove.go; rw [if_pos (by omega)]; unfold sizeAbove.go; rw [if_pos (by omega)]; unfold sizeAbove.go; rw [if_pos (by omega)]; unfold sizeAbove.go; rw [if_neg (by omega)],by omega,cyc256,by omega⟩
open PySem PySem.Spec PyProof.Rows
set_option maxRecDepth 100000
section
variable {prog:Program} {w:World} {κ:Type} [DecidableEq κ] {knd:KeyKind prog w κ} {dec:Value->κ} {led:Bool} {A:Around} {E:Value->Shared->Prop} {s:Shared}
theorem zEs {α:Type} (es:Array α) (order:Array Nat) (h:order.toList.Perm (List.range es.size)):(order.filterMap (es[·]?)).toList.Perm es.toList:=by
 rw [Array.toList_filterMap]
 refine (h.filterMap _).trans ?_
 have e:(List.range es.size).filterMap (es[·]?) = es.toList:=by
  have:∀ l:List α,(List.range l.length).filterMap (λj=>l[j]?) = l:=λl=>by
   induction l with
   | nil=>rfl
   | cons x l ih =>
    rw [length_cons,range_succ_eq_map,filterMap_cons,List.filterMap_map]
    show x :: filterMap (λj=>l[j]?) _ = _
    rw [ih]
  have q:=this es.toList
  rw [length_toList] at q
  rw [<- q]
  refine congrArg (λf=>filterMap f _) (funext λj=>?_)
  rw [getElem?_toList]
 rw [e]
theorem zJh {Q:Unit->Shared->Prop} (ho:s.heap.get? a = some o) (hd:o.data = .set es ep t) (hf:t.fits es.size = true) (hw:wanted <= 255) (hn:es.size <= wanted)
  (h:∀ (es':Array (Int × Value)) (t':SetTable),es'.toList.Perm es.toList->t'.place.size = es.size->t'.dummies = #[]->wanted <= t'.mask->cyc (t'.mask + 1) = true->t'.led = t.led->Rz t'.place->Q () { s with heap:=s.heap.update a (Obj.putSet es' t') }):wpAny (model prog w) A (setRelay a wanted) Q E s:=by
 obtain ⟨m,e1,e2,e3,e4⟩:=zQi hw
 unfold setRelay
 refine wpAny_bind (wpAny_setState_of ho hd hf ?_)
 dsimp only
 rw [if_neg (by rw [e1]; show ¬ m + 1 > 2 ^ 24; omega)]
 obtain ⟨t',order,q1,q2,q3,q4,q5,q6,q7,q8⟩:=zNc (mask:=m) e3 t.finger (t.movedTo m) t.led t.plain (es.map (·.1)) (by rw [size_map]; omega)
 rw [size_map] at q2 q3
 have er:t.relaid (es.map (·.1)) wanted = some (t',order):=by
  unfold SetTable.relaid
  rw [e1]
  exact q1
 rw [er]
 have p:=zEs es order q2
 have sz:(order.filterMap (es[·]?)).size = es.size:=by rw [<- length_toList,p.length_eq,length_toList]
 refine wpAny_bind (m:=(if ((order.filterMap (es[·]?)).size != es.size) = true then unsupported "internal:set-table-lost-an-element" else pure (order.filterMap (es[·]?),t'))) ?_
 rw [if_neg (by rw [sz]; simp)]
 refine wpAny_pure ?_
 exact wpAny_storeSet_of ho hd (h _ t' p q3 q4 (by rw [q5]; exact e2) (by rw [q5]; exact e3) q6 q8) (by rw [sz]; show es.size <= 2 ^ 24; omega)
theorem zCl {t':SetTable} (h1:t'.place.size = n) (h2:t'.dummies = #[]) (h3:wanted <= t'.mask) (h4:n <= wanted):t'.fits n = true:=by
 unfold fits SetTable.fill
 rw [h1,h2]
 simp
 omega
theorem zPe {Q:Unit->Shared->Prop} (g:Good knd dec led s.heap a ks) (hw:wanted <= 255) (hn:ks.length <= wanted)
  (h:∀ h',SameBut a s.heap h'->Good knd dec led h' a ks->Q () { s with heap:=h' }):wpAny (model prog w) A (setRelay a wanted) Q E s:=by
 obtain ⟨o,es,ep,t,ho,hx,hd,hel,hp,nd,hb,hf,tb⟩:=g
 have ln:es.size = ks.length:=by rw [<- hp.length_eq,length_map,length_toList]
 refine zJh ho hd hf hw (by rw [ln]; exact hn) λes' t' p q3 q4 q5 q6 q7 q8=>h _ (SameBut.update _ a _) ?_
 have sz:es'.size = es.size:=by rw [<- length_toList,p.length_eq,length_toList]
 exact ⟨_,es',_,t',zC0 (es':=es') (t':=t') ho hd,hx,rfl,hel.perm p,(p.map _).trans hp,nd,by rw [sz]; exact hb,by rw [sz]; exact zCl q3 q4 q5 (by rw [ln]; exact hn),⟨q7.trans tb.led,λ_=>q8⟩⟩
theorem room_ok {Q:Unit->Shared->Prop} (g:Good knd dec led s.heap a ks) (hw:(ks.length + more) * 2 <= 255)
  (h:∀ h',SameBut a s.heap h'->Good knd dec led h' a ks->Q () { s with heap:=h' }):wpAny (model prog w) A (setRoomFor a more) Q E s:=by
 obtain ⟨o,es,ep,t,ho,hx,hd,hel,hp,nd,hb,hf,tb⟩:=id g
 have ln:es.size = ks.length:=by rw [<- hp.length_eq,length_map,length_toList]
 unfold setRoomFor
 refine wpAny_bind (wpAny_setState_of ho hd hf ?_)
 dsimp only
 unfold SetTable.roomFor
 have pl:t.place.size = es.size:=zAx hf
 split
 ·rename_i z
  split at z
  ·cases z
   exact zPe g (by rw [pl,ln]; exact hw) (by rw [pl,ln]; omega) h
  ·cases z
 ·exact wpAny_pure (h _ (SameBut.refl a s.heap) g)
theorem zIm {Q:Unit->Shared->Prop} (hr:s.heap.get? r = some { cls:=.type "set",dict:=none,data:=.set #[] 0 (.fresh 0 0 (yM w)) }) (hne:r ≠ o) (g:Good knd dec (yM w) s.heap o ks) (hl:ks.length <= 127)
  (h:∀ h',SameBut r s.heap h'->Good knd dec (yM w) h' r ks->Q () { s with heap:=h' }):wpAny (model prog w) A (setMerge r o each) Q E s:=by
 obtain ⟨ob,es,ep,t,ho,hx,hd,hel,hp,nd,hb,hf,tb⟩:=id g
 have ln:es.size = ks.length:=by rw [<- hp.length_eq,length_map,length_toList]
 unfold setMerge
 rw [if_neg (by simpa using hne)]
 refine wpAny_bind (wpAny_setState_of ho hd hf ?_)
 dsimp only
 by_cases hemp:es.isEmpty = true
 ·rw [if_pos hemp]
  have e0:es.size = 0:=by simpa [Array.isEmpty] using hemp
  have k0:ks = []:=length_eq_zero_iff.mp (by rw [<- ln]; exact e0)
  subst k0
  exact wpAny_pure (h _ (SameBut.refl r s.heap) (zF3 hr))
 rw [if_neg hemp]
 refine wpAny_bind (wpAny_mono (Q:=λ_ s'=>∃ (h1:Heap) (o1:Obj) (ep1:Nat) (t1:SetTable),s' = { s with heap:=h1 } /\ SameBut r s.heap h1 /\ h1.get? r = some o1 /\ o1.ExactSet /\ o1.data = .set #[] ep1 t1 /\ t1.place.size = 0 /\ t1.dummies = #[] /\ t1.led = yM w /\ cyc (t1.mask + 1) = true /\ es.size <= t1.mask) ?first ?post (λ_ _ h=>h))
 case post =>
  rintro _ _ ⟨h1,o1,ep1,t1,rfl,sb,g1,x1,d1,pl,du,le,cy,rm⟩
  refine wpAny_bind (wpAny_setState_of (s:={ s with heap:=h1 }) g1 d1 (by show t1.fits 0 = true; exact zCl pl du (Nat.zero_le _) (Nat.le_refl 0)) ?_)
  dsimp only
  have hfill:t1.fill = 0:=by unfold SetTable.fill; rw [pl,du]; rfl
  unfold SetTable.road
  rw [hfill]
  rw [if_neg (by simp)]
  by_cases hsl:(t1.mask == t.mask && t.dummies.isEmpty) = true
  ·rw [if_pos hsl]
   refine wpAny_storeSet_of (s:={ s with heap:=h1 }) g1 d1 (h _ (sb.trans (SameBut.update _ r _)) ⟨_,es,_,_,zC0 (es':=es) (t':=_) g1 d1,x1,rfl,hel,hp,nd,hb,hf,⟨?_,λz=>tb.rz (Bool.and_eq_true_iff.mp z).2⟩⟩) (fits_of_scanBound hb)
   show (t1.led && t.led) = _
   rw [le,tb.led,Bool.and_self]
  ·rw [if_neg hsl]
   obtain ⟨t',order,q1,q2,q3,q4,q5,q6,q7,q8⟩:=zNc (mask:=t1.mask) cy t1.finger t1.moves (t1.led && t.led) (t1.plain && t.plain) (es.map (·.1)) (by rw [size_map]; exact rm)
   rw [size_map] at q2 q3
   dsimp only
   rw [q1]
   have p:=zEs es order q2
   have sz:(order.filterMap (es[·]?)).size = es.size:=by rw [<- length_toList,p.length_eq,length_toList]
   refine wpAny_bind (m:=(if ((order.filterMap (es[·]?)).size != es.size) = true then unsupported "internal:set-table-lost-an-element" else pure (order.filterMap (es[·]?),t'))) ?_
   rw [if_neg (by rw [sz]; simp)]
   refine wpAny_pure ?_
   refine wpAny_storeSet_of (s:={ s with heap:=h1 }) g1 d1 (h _ (sb.trans (SameBut.update _ r _)) ⟨_,_,_,t',zC0 (es':=order.filterMap (es[·]?)) (t':=t') g1 d1,x1,rfl,hel.perm p,(p.map _).trans hp,nd,by rw [sz]; exact hb,by rw [sz]; exact zCl q3 q4 (by rw [q5]; exact rm) (Nat.le_refl _),⟨?_,λ_=>q8⟩⟩) (fits_of_scanBound (by rw [sz]; exact hb))
   rw [q6,le,tb.led,Bool.and_self]
 case first =>
  unfold setRoomFor
  refine wpAny_bind (wpAny_setState_of hr rfl rfl ?_)
  dsimp only
  have e1:(SetTable.fresh 0 0 (yM w)).roomFor es.size = if (es.size * 5 ≥ 21) then some (es.size * 2) else none:=by
   unfold SetTable.roomFor SetTable.fill SetTable.fresh
   simp
  rw [e1]
  by_cases c:es.size * 5 ≥ 21
  ·rw [if_pos c]
   refine zJh hr rfl rfl (by omega) (Nat.zero_le _) λes' t' p q3 q4 q5 q6 q7 q8=>?_
   have ee:es' = #[]:=by
    have:=p.length_eq
    rw [length_toList] at this
    exact Array.eq_empty_of_size_eq_zero this
   subst ee
   exact ⟨_,_,_,t',rfl,SameBut.update _ r _,zC0 (es':=#[]) (t':=t') hr rfl,⟨rfl,rfl,rfl⟩,rfl,q3,q4,q7,q6,by omega⟩
  ·rw [if_neg c]
   exact wpAny_pure ⟨s.heap,_,0,_,rfl,SameBut.refl r s.heap,hr,⟨rfl,rfl,rfl⟩,rfl,rfl,rfl,rfl,cyc8,by show es.size <= 7; omega⟩
end
set_option maxRecDepth 100000
section
variable {prog:Program} {w:World} {κ:Type} [DecidableEq κ] {knd:KeyKind prog w κ} {dec:Value->κ} {led:Bool} {A:Around} {E:Value->Shared->Prop} {s:Shared}
theorem zD2 {α:Type} (xs:Array α) (p:Nat):(eraseAt xs p).toList = xs.toList.eraseIdx p:=by
 unfold eraseAt
 rw [Array.toList_append,List.eraseIdx_eq_take_drop_succ,Array.toList_extract,Array.toList_extract]
 simp [List.extract_eq_take_drop]
 exact List.take_of_length_le (by rw [length_drop,length_toList]; omega)
theorem zPx {α:Type} (xs:Array α) (p:Nat) (x:α):(insertAt xs p x).size = xs.size + 1:=by
 unfold insertAt
 simp
 omega
theorem er_rz (hr:Rz xs) (p:Nat):Rz (eraseAt xs p):=by
 intro i k a b hik ha hb
 rw [<- getElem?_toList,zD2,List.getElem?_eraseIdx] at ha hb
 have q:∀ j,xs.toList[j]? = xs[j]?:=λj=>getElem?_toList
 split at ha <;> split at hb
 ·exact hr i k a b hik (by rw [<- q]; exact ha) (by rw [<- q]; exact hb)
 ·exact hr i (k + 1) a b (by omega) (by rw [<- q]; exact ha) (by rw [<- q]; exact hb)
 ·omega
 ·exact hr (i + 1) (k + 1) a b (by omega) (by rw [<- q]; exact ha) (by rw [<- q]; exact hb)
theorem zN8 (hdec:∀ k v,knd.is k v = true->dec v = k) {Q:Bool->Shared->Prop} (hk:knd.is k x = true) (hs:x.scannable = true) (g:Good knd dec led s.heap a ks)
  (h:∀ (h':Heap) (b:Bool),SameBut a s.heap h'->Good knd dec led h' a (ks.erase k)->(b = true ↔ k ∈ ks)->Q b { s with heap:=h' }) :
  wpAny (model prog w) A (setDiscardHashed a x (knd.hash k)) Q E s:=by
 obtain ⟨o,es,ep,t,ho,hx,hd,hel,hp,nd,hb,hf,tb⟩:=id g
 unfold setDiscardHashed
 refine wpAny_bind ?_
 unfold setFind setFindIn
 refine wpAny_bind (wpAny_setState_of ho hd hf ?_)
 dsimp only
 rw [byScan_of hs hb hel]
 simp only [↓reduceIte]
 refine wpAny_bind (wpAny_rule (wpAny_bind (wpAny_setScan_of hk ho hd hf hel ?_)))
 have fi:=zHi hdec hel k
 cases hr:List.findIdx? (λe=>knd.is k e.2) es.toList with
 | none =>
  have hm:k ∉ ks:=λz=>fi.mp hr (hp.mem_iff.mpr z)
  dsimp only
  refine wpAny_pure (wpAny_pure ?_)
  have q:=h s.heap false (SameBut.refl a s.heap)
  rw [List.erase_of_not_mem hm] at q
  exact q g ⟨λz=>(by cases z),λz=>absurd z hm⟩
 | some j =>
  obtain ⟨hj,hpj,_⟩:=List.findIdx?_eq_some_iff_getElem.mp hr
  dsimp only
  rw [Nat.zero_add]
  refine wpAny_pure (wpAny_bind (wpAny_setState_of ho hd hf ?_))
  dsimp only
  have pl:t.place.size = es.size:=zAx hf
  have hj':j < t.place.size:=by rw [pl,<- length_toList]; exact hj
  have sz:(eraseAt es j).size = es.size - 1:=by rw [<- length_toList,zD2,length_eraseIdx,if_pos hj,length_toList]
  have ed:t.drop j = { t with place:=eraseAt t.place j,dummies:=insertAt t.dummies (below t.dummies t.place[j]) t.place[j] }:=by
   unfold SetTable.drop
   rw [Array.getElem?_eq_getElem hj']
  have jz:j < es.size:=by rw [<- length_toList]; exact hj
  have ft:(t.drop j).fits (eraseAt es j).size = true:=by
   rw [ed]
   unfold fits SetTable.fill at hf ⊢
   have e1:(eraseAt t.place j).size = es.size - 1:=by rw [<- length_toList,zD2,length_eraseIdx,length_toList,if_pos hj',pl]
   dsimp only
   rw [e1,zPx,sz]
   rw [Bool.and_eq_true,decide_eq_true_eq] at hf
   rw [Bool.and_eq_true,decide_eq_true_eq]
   refine ⟨by simp,?_⟩
   have:=hf.2
   omega
  have tb':Tb led (t.drop j):=by
   rw [ed]
   exact ⟨tb.led,λz=>er_rz (tb.rz z) j⟩
  have hp':((eraseAt es j).toList.map λe=>dec e.2).Perm (ks.erase k):=by
   rw [zD2]
   have p1:=((zBd hj).map λe=>dec e.2).trans hp
   rw [map_cons,hdec k _ hpj] at p1
   have p2:=p1.erase k
   rw [List.erase_cons_head] at p2
   exact p2
  have km:k ∈ ks:=hp.mem_iff.mp (mem_map.mpr ⟨es.toList[j],getElem_mem hj,hdec k _ hpj⟩)
  refine wpAny_bind (wpAny_storeSet_of ho hd (wpAny_bind (wpAny_point (wpAny_pure (h _ true (SameBut.update _ a _) ⟨_,_,_,_,zC0 (es':=eraseAt es j) (t':=t.drop j) ho hd,hx,rfl,λe he=>?_,hp',nd.erase k,by rw [sz]; omega,ft,tb'⟩ ⟨λ_=>km,λ_=>rfl⟩)))) (fits_of_scanBound (by rw [sz]; omega)))
  rw [zD2] at he
  exact hel e (List.mem_of_mem_eraseIdx he)
end
set_option maxRecDepth 100000
section
variable {prog:Program} {w:World} {κ:Type} [DecidableEq κ] {knd:KeyKind prog w κ} {dec:Value->κ} {led:Bool} {A:Around} {E:Value->Shared->Prop} {s:Shared}
end
set_option maxRecDepth 100000
section
variable {prog:Program} {w:World} {κ:Type} [DecidableEq κ] {knd:KeyKind prog w κ} {dec:Value->κ} {led:Bool} {A:Around} {E:Value->Shared->Prop} {s:Shared}
theorem zPp (hdec:∀ k v,knd.is k v = true->dec v = k) (id:String) (hn:∀ k v,knd.is k v = true->∀ b,v ≠ .ref b) (hne:o ≠ r) (g:Good knd dec (yM w) s.heap r kr) (go:Good knd dec (yM w) s.heap o ko) (hk:kr ≠ []) (hl:(kr.length + ko.length) * 2 <= 255) (hep:∀ ob es e t,s.heap.get? o = some ob->ob.data = .set es e t->e = ep) {Q:Unit->Shared->Prop}
  (h:∀ (h':Heap) (ks:List κ),SameBut r s.heap h'->Good knd dec (yM w) h' r ks->(∀ k,k ∈ ks ↔ k ∈ kr \/ k ∈ ko)->Q () { s with heap:=h' }) :
  wpAny (model prog w) A (setMerge r o (Builtin.Frozenset.unchanged id o ep)) Q E s:=by
 obtain ⟨ob,es,ep',t,h1,h2,h3,hf,hlo,tb,hel,hp⟩:=go.size
 have e1:=hep ob es ep' t h1 h3
 subst e1
 unfold setMerge
 rw [if_neg (by simpa using (Ne.symm hne))]
 refine wpAny_bind (wpAny_setState_of h1 h3 hf ?_)
 dsimp only
 by_cases hemp:es.isEmpty = true
 ·rw [if_pos hemp]
  have e0:es.size = 0:=by simpa [Array.isEmpty] using hemp
  have k0:ko = []:=length_eq_zero_iff.mp (by rw [<- hlo]; exact e0)
  subst k0
  exact wpAny_pure (h _ kr (SameBut.refl r s.heap) g λk=>by simp)
 rw [if_neg hemp]
 refine wpAny_bind (room_ok g (by rw [hlo]; exact hl) λh4 sb4 g4=>?_)
 obtain ⟨o5,es5,ep5,t5,i1,i2,i3,if5,il5,tb5,iel5,ip5⟩:=g4.size
 have go4:=go.keep (h':=h4) λob' e=>by rw [sb4.2 o hne]; exact e
 refine wpAny_bind (wpAny_setState_of (s:={ s with heap:=h4 }) i1 i3 if5 ?_)
 dsimp only
 have hfill:t5.fill ≠ 0:=by
  unfold SetTable.fill
  rw [zAx if5,il5]
  cases kr with
  | nil=>exact absurd rfl hk
  | cons a l=>rw [length_cons]; omega
 unfold SetTable.road
 rw [if_pos (by simpa using hfill)]
 dsimp only
 refine wpAny_bind (zGj (s:={ s with heap:=h4 }) go4 g4 (λb hb=>(mem_singleton.mp hb) ▸ ⟨kr,g4⟩) hn λes' h' hel' hp' sb gr'=>?_)
 rw [<- forIn_toList]
 have ln:es'.toList.length = ko.length:=by rw [<- hp'.length_eq,length_map]
 refine wpAny_bind (wpAny_mono (wpAny_forIn_list (β:=Unit) _ (λl _ s'=>∃ h2 ks,s' = { s with heap:=h2 } /\ SameBut r s.heap h2 /\ Good knd dec (yM w) h2 r ks /\ ElemsOf knd l /\ ks.length + l.length <= 128 /\ ∀ k,(k ∈ ks \/ k ∈ l.map λe=>dec e.2) ↔ (k ∈ kr \/ k ∈ ko)) (λ_ s'=>∃ h2 ks,s' = { s with heap:=h2 } /\ SameBut r s.heap h2 /\ Good knd dec (yM w) h2 r ks /\ ∀ k,k ∈ ks ↔ k ∈ kr \/ k ∈ ko) ?turn ?fin es'.toList () ⟨h',kr,rfl,sb4.trans sb,gr',hel',by rw [ln]; omega,λk=>?_⟩) ?post (λ_ _ h=>h))
 case turn =>
  rintro ⟨hs,v⟩ l b s' ⟨h2',ks,rfl,sb2,g2,hl2,hlen,hm⟩
  obtain ⟨⟨k,hk',hh⟩,hsc⟩:=hl2 _ mem_cons_self
  dsimp only at hk' hh hsc ⊢
  subst hh
  have dv:dec v = k:=hdec k v hk'
  rw [length_cons] at hlen
  have big:(129:Nat) < scanBound:=by decide
  have room:ks.length + 1 < scanBound:=by omega
  refine wpAny_bind (wpAny_holding (zOk (led:=yM w) (s:={ s with heap:=h2' }) hdec hk' hsc g2 room λh3' b' sb3 g3=>?_))
  have at3:h3'.get? o = some ob:=by rw [sb3.2 o hne]; show h2'.get? o = _; rw [sb2.2 o hne]; exact h1
  refine wpAny_bind ?_
  unfold Builtin.Frozenset.unchanged
  refine wpAny_bind (wpAny_setEpoch_of (s:={ s with heap:=h3' }) at3 h3 hf ?_)
  simp only [bne_self_eq_false,Bool.false_eq_true,↓reduceIte]
  refine wpAny_pure (wpAny_bind (wpAny_setState_of (s:={ s with heap:=h3' }) at3 h3 hf ?_))
  simp only [bne_self_eq_false,Bool.false_eq_true,↓reduceIte]
  refine wpAny_pure ⟨h3',_,rfl,sb2.trans sb3,g3,λe he=>hl2 e (mem_cons_of_mem _ he),?_,λc=>?_⟩
  ·split
   ·omega
   ·rw [length_cons]; omega
  ·rw [<- hm c,map_cons,mem_cons]
   show _ ↔ (c ∈ ks \/ (c = dec v \/ _))
   rw [dv]
   have e:c ∈ (if k ∈ ks then ks else k :: ks) ↔ c = k \/ c ∈ ks:=by
    split
    ·rename_i z
     exact ⟨.inr,λq=>q.elim (λq=>q ▸ z) λq=>q⟩
    ·exact mem_cons
   rw [e]
   constructor
   ·rintro ((z | z) | z)
    ·exact .inr (.inl z)
    ·exact .inl z
    ·exact .inr (.inr z)
   ·rintro (z | z | z)
    ·exact .inl (.inr z)
    ·exact .inl (.inl z)
    ·exact .inr z
 case fin =>
  rintro b s' ⟨h2',ks,rfl,sb2,g2,_,_,hm⟩
  refine ⟨h2',ks,rfl,sb2,g2,λk=>?_⟩
  rw [<- hm k]
  simp
 case post =>
  rintro b s' ⟨h2',ks,rfl,sb2,g2,hm⟩
  exact wpAny_pure (h h2' ks sb2 g2 hm)
 ·rw [hp'.mem_iff]
theorem upd_ok (hdec:∀ k v,knd.is k v = true->dec v = k) (id:String) (hn:∀ k v,knd.is k v = true->∀ b,v ≠ .ref b) (hne:o ≠ r) (g:Good knd dec (yM w) s.heap r kr) (go:Good knd dec (yM w) s.heap o ko) (h0:kr = []->s.heap.get? r = some { cls:=.type "set",dict:=none,data:=.set #[] 0 (.fresh 0 0 (yM w)) }) (hl:(kr.length + ko.length) * 2 <= 255) {Q:Unit->Shared->Prop}
  (h:∀ (h':Heap) (ks:List κ),SameBut r s.heap h'->Good knd dec (yM w) h' r ks->(∀ k,k ∈ ks ↔ k ∈ kr \/ k ∈ ko)->Q () { s with heap:=h' }) :
  wpAny (model prog w) A (Builtin.Frozenset.updateFrom id r (.ref o)) Q E s:=by
 obtain ⟨ob,es,ep',t,h1,h2,h3,hf,hlo,tb,hel,hp⟩:=go.size
 unfold Builtin.Frozenset.updateFrom
 refine wpAny_bind (zGd go.type ?_)
 simp only [↓reduceIte]
 refine wpAny_bind (wpAny_pure ?_)
 unfold Builtin.Frozenset.merge
 refine wpAny_bind (wpAny_setEpoch_of h1 h3 hf ?_)
 cases kr with
 | nil=>exact zIm (h0 rfl) (Ne.symm hne) go (by simp at hl; omega) λh' sb g'=>h h' ko sb g' λk=>by simp
 | cons a l =>
  refine zPp hdec id hn hne g go (λz=>by cases z) hl (λob' es' e' t' z1 z2=>?_) h
  rw [h1] at z1
  cases z1
  rw [h3] at z2
  cases z2
  rfl
end
end SetP
namespace L2
open PySem PySem.Spec PyProof.Rows SetP
section
variable {X:Cx}
end
end L2
namespace Ts
open PySem L2
section
variable {K:PySem.W.Frag} {B:Bs} {sl:SL K} {md:Md} {t1 t2:TE}
end
end Ts
namespace L2
open PySem PySem.Spec PyProof.Rows
structure Cat (K:PySem.W.Frag) (C:Addr) (m:Str) (f:Addr):Prop where
 sp:specialIn K (.ref C) "__getattribute__" = some (some (.builtin "type.__getattribute__"))
 rd:PySem.W.readsIn K C (.type "type") = true
 at_:PySem.W.findCls K (.ref C) (.type "type") m = some (.val (.ref f))
 kp:keepIn K (.ref f) = true
section
variable {X:Cx} {CX:CXT} {k:Nat} {f C:Addr} {fd:FuncData} {ps:List Str} {sp:Sp} {dvs:List V} {ds:List Value} {E:XK} {x m:Str} {p pos apos:Pos} {e o:Expr} {es:List Expr} {ta:TE} {t:TA}
end
end L2
namespace Sy
open PySem L2
inductive Tr where
 | all
 | mark (x:Str)
 | one (i:Fin 7) (t:Tr)
 | two (i:Fin 4) (l r:Tr)
def w1 (i:Fin 7):Str:=(["not","somenext","eachnext","somealways","eachalways","someever","eachever"]:List Str).getD i.val Str.empty
def w2 (i:Fin 4):Str:=(["both","either","sometill","eachtill"]:List Str).getD i.val Str.empty
def Tr.depth:Tr->Nat
 | .all=>0
 | .mark _=>0
 | .one _ t=>t.depth + 1
 | .two _ l r=>max l.depth r.depth + 1
def Kp (p:Addr) (H H':Hp):Prop:=∀ b o,b ≠ p->H b = some o->H' b = some o
theorem same_new (h:H p = none) (o:HO):Same H (upd H p o):=λb u q=>by rw [zO (zS q h)]; exact q
def zNr (w:V) (q:Addr):List (Str × V):=putF "parts" (.ref q) (putF "word" w [])
def fOne (w v:V) (q:Addr):List (Str × V):=putF "part" v (zNr w q)
def fTwo (w v u:V) (q:Addr):List (Str × V):=putF "right" u (putF "left" v (zNr w q))
def fMark (x:V) (q:Addr):List (Str × V):=putF "name" x (zNr x q)
theorem putF_len (f:Str) (v:V):∀ fs:List (Str × V),(putF f v fs).length <= fs.length + 1
 | []=>Nat.le_refl _
 | (g,x) :: r=>by
  unfold putF
  split
  ·exact Nat.le_succ _
  ·exact Nat.succ_le_succ (putF_len f v r)
structure KdAt (K:PySem.W.Frag) (C:Addr):Prop where
 cl:Cls K C
 nW:NoAttr K C "word"
 nP:NoAttr K C "parts"
 n1:NoAttr K C "part"
 nL:NoAttr K C "left"
 nR:NoAttr K C "right"
 nN:NoAttr K C "name"
inductive Hd where
 | all
 | mark
 | one (i:Fin 7)
 | two (i:Fin 4)
def spIA (C:Addr):Sp:=λvs H Q _=>∃ (p dx:Addr),vs = [.ref p] /\ H p = some (.ins C dx []) /\ ∀ (q:Addr) (H':Hp),Kp p H H'->H q = none->H' q = some (.tup [])->H' p = some (.ins C dx (zNr (.str "all") q))->Q .non H'
def spIM (C:Addr):Sp:=λvs H Q _=>∃ (p dx:Addr) (x:V),vs = [.ref p,x] /\ H p = some (.ins C dx []) /\ ∀ (q:Addr) (H':Hp),Kp p H H'->H q = none->H' q = some (.tup [])->H' p = some (.ins C dx (fMark x q))->Q .non H'
def spI1 (C:Addr) (w:Str):Sp:=λvs H Q _=>∃ (p dx:Addr) (v:V),vs = [.ref p,v] /\ H p = some (.ins C dx []) /\ ∀ (q:Addr) (H':Hp),Kp p H H'->H q = none->H' q = some (.tup [v])->H' p = some (.ins C dx (fOne (.str w) v q))->Q .non H'
def spI2 (C:Addr) (w:Str):Sp:=λvs H Q _=>∃ (p dx:Addr) (v u:V),vs = [.ref p,v,u] /\ H p = some (.ins C dx []) /\ ∀ (q:Addr) (H':Hp),Kp p H H'->H q = none->H' q = some (.tup [v,u])->H' p = some (.ins C dx (fTwo (.str w) v u q))->Q .non H'
inductive SayAt (cl:Hd->Addr) (H:Hp):Addr->Tr->Prop where
 | all {p q dx:Addr}:H p = some (.ins (cl .all) dx (zNr (.str "all") q))->H q = some (.tup [])->SayAt cl H p .all
 | mark {p q dx:Addr} {x:Str}:H p = some (.ins (cl .mark) dx (fMark (.str x) q))->H q = some (.tup [])->SayAt cl H p (.mark x)
 | one {p q dx c:Addr} {i:Fin 7} {t:Tr}:H p = some (.ins (cl (.one i)) dx (fOne (.str (w1 i)) (.ref c) q))->H q = some (.tup [.ref c])->SayAt cl H c t->SayAt cl H p (.one i t)
 | two {p q dx c d:Addr} {i:Fin 4} {l r:Tr}:H p = some (.ins (cl (.two i)) dx (fTwo (.str (w2 i)) (.ref c) (.ref d) q))->H q = some (.tup [.ref c,.ref d])->SayAt cl H c l->SayAt cl H d r->SayAt cl H p (.two i l r)
def hd:Tr->Hd
 | .all=>.all
 | .mark _=>.mark
 | .one i _=>.one i
 | .two i _ _=>.two i
def hw:Tr->Str
 | .all=>"all"
 | .mark x=>x
 | .one i _=>w1 i
 | .two i _ _=>w2 i
def pts:Tr->List Tr
 | .all=>[]
 | .mark _=>[]
 | .one _ t=>[t]
 | .two _ l r=>[l,r]
def n1 (i:Fin 7):Str:=(["Not","SomeNext","EachNext","SomeAlways","EachAlways","SomeEver","EachEver"]:List Str).getD i.val Str.empty
def n2 (i:Fin 4):Str:=(["Both","Either","SomeTill","EachTill"]:List Str).getD i.val Str.empty
structure Ini (P:Program) (w:World) (K:PySem.W.Frag) (mg:Str->Option Value) (base:Heap) (k:Nat) (cl fi:Hd->Addr) (di:Hd->FuncData):Prop where
 made:∀ h,Mk K (cl h) (fi h)
 iA:FnOk P w K mg base CX0 k (fi .all) (di .all) ["self"] (spIA (cl .all))
 bA:Binds K (di .all) ["self"] []
 iM:FnOk P w K mg base CX0 k (fi .mark) (di .mark) ["self","name"] (spIM (cl .mark))
 bM:Binds K (di .mark) ["self","name"] []
 i1:∀ i,FnOk P w K mg base CX0 k (fi (.one i)) (di (.one i)) ["self","part"] (spI1 (cl (.one i)) (w1 i))
 b1:∀ i,Binds K (di (.one i)) ["self","part"] []
 i2:∀ i,FnOk P w K mg base CX0 k (fi (.two i)) (di (.two i)) ["self","left","right"] (spI2 (cl (.two i)) (w2 i))
 b2:∀ i,Binds K (di (.two i)) ["self","left","right"] []
 mA:mg "All" = some (.ref (cl .all))
 mM:mg "Mark" = some (.ref (cl .mark))
 m1:∀ i,mg (n1 i) = some (.ref (cl (.one i)))
 m2:∀ i,mg (n2 i) = some (.ref (cl (.two i)))
end Sy
namespace Ts
open PySem L2 Sy
structure Say (cl:Hd->Addr) where
 t:Tr
def isHd:Hd->Tr->Bool
 | .all,.all=>true
 | .mark,.mark _=>true
 | .one i,.one j _=>decide (j = i)
 | .two i,.two j _ _=>decide (j = i)
 | _,_=>false
def Say.parts (x:Say cl):List (Say cl):=(pts x.t).map Say.mk
def Say.name (x:Say cl):Option Str:=match x.t with
 | .mark s=>some s
 | _=>none
structure SayC (P:Program) (w:World) (K:PySem.W.Frag) (mg:Str->Option Value) (base:Heap) (k:Nat) (cl fi:Hd->Addr) (di:Hd->FuncData):Prop where
 ini:Ini P w K mg base k cl fi di
 kd:∀ h,KdAt K (cl h)
 isi:∀ h h':Hd,∀ t:Tr,hd t = h->kitOne K (.ref (cl h)) (.ref (cl h')) = some (isHd h' t)
 c1:∀ h,findIn K (.ref (cl h)) "__class__" = some (some (.builtin "object.__class__"))
 c2:specialIn K (.builtin "object.__class__") "__get__" = some (some (.builtin "getset_descriptor.__get__"))
 c3:PySem.W.takesIn K (.builtin "object.__class__") = some true
 c4:∀ h,PySem.W.mroIn K (cl h) (.type "object") = some true
section
variable {K:PySem.W.Frag} {cl:Hd->Addr}
end
section
variable {K:PySem.W.Frag} {B:Bs} {F H H2:Hp} {O:Own}
end
section
variable {P:Program} {w:World} {K:PySem.W.Frag} {mg:Str->Option Value} {base:Heap} {B:Bs} {sl:SL K} {md:Md} {te t1 t2:TE} {cl fi:Hd->Addr} {di:Hd->FuncData} {k:Nat}
end
section
variable {K:PySem.W.Frag} {B:Bs} {sl:SL K} {md:Md} {te:TE} {α:Type} [Rp K α]
def extG {α:Type} (xs ys:List α):Option (List α):=if xs.length + ys.length < cap then some (xs ++ ys) else none
theorem zEo {n:Bool} {xs:List α} {m:Option (List α)} (i:Nat) (hs:sl[i]? = some (.ow n xs)) (hh:sl.all (λs=>!isHs s) = true) (h:Ex B sl (mdb n) te m) :
  Sn B sl (zEf (tBM K "list" zMf (tVar i) (xF te tNil))) (λys=>sl.set i (.ow n ys)) (m.bind λa=>extG xs a):=λys ha G D σ H s k=>by
 cases m with
 | none=>cases ha
 | some a =>
  have ha':extG xs a = some ys:=ha
  unfold extG at ha'
  split at ha'
  case isFalse=>cases ha'
  rename_i hl
  cases ha'
  obtain ⟨F,O,g,z⟩:=s
  obtain ⟨p,vs,h1,h2,h3,_⟩:=z.chg hs hh
  refine ⟨_,h1,.inl ⟨rfl,_,SqL.of h2⟩,?_⟩
  refine h a rfl F O H σ _ z λv F' H' gr r=>?_
  obtain ⟨p',vs',h1',h2',h3',h4'⟩:=(z.grow gr).chg hs hh
  have e:=h1.symm.trans h1'
  cases e
  obtain ⟨q,us,rfl,z1,z2⟩:=r
  obtain ⟨O',z'⟩:=h4' (vs' ++ us) (xs ++ a) (h3'.app z2)
  exact ⟨p,q,_,_,rfl,rfl,h2',zAs gr.ok n q _ z1,by rw [h3'.len,z2.len]; exact Nat.le_of_lt (zA0 hl),k _ _ ⟨F',O',g.trans gr.ff,z'⟩⟩
end
end Ts
namespace ZipL
open PySem PySem.Spec PyProof.Rows
set_option maxRecDepth 100000
section
variable {prog:Program} {w:World} {A:Around} {E:Value->Shared->Prop} {s:Shared}
abbrev IsZ2 (h:Heap) (z TI TO T:Addr) (b:Bool):Prop :=
 h.get? z = some { cls:=.type "zip",dict:=none,data:=.fields #[rawInt T,.bool b,.bool false,.ref TI,.ref TO],slots:=#[] }
structure ZSt (h:Heap) (S z TI TO i1 i2 l1 l2 N i:Nat) (xs ys acc:Array Value):Prop where
 sz:h.objs.size = N + i
 zz:(i = 0 /\ IsZip h z TI TO .none /\ ∃ a b,IsPair h TO a b) \/ (0 < i /\ ∃ b,IsZ2 h z TI TO N b)
 ti:IsPair h TI (.ref i1) (.ref i2)
 h1:h.IsListIter i1 l1 i
 h2:h.IsListIter i2 l2 i
 q1:h.IsList l1 xs
 q2:h.IsList l2 ys
 ls:∃ c,h.get? S = some { cls:=.type "list",dict:=none,data:=.seq acc c,slots:=#[] }
 al:acc.toList = (List.range i).map λj=>Value.ref (N + j)
 tp:∀ j x y,j < i->xs[j]? = some x->ys[j]? = some y->IsPair h (N + j) x y
variable {R:Result->Shared->Prop}
end
section
variable {prog:Program} {w:World} {A:Around} {E:Value->Shared->Prop} {s:Shared}
end
end ZipL
namespace L2
open PySem PySem.Spec PyProof.Rows ZipL
end L2
namespace Ts
open PySem L2
section
variable {K:PySem.W.Frag} {B:Bs} {sl:SL K} {md:Md} {t1 t2:TE} {α β:Type} [Rp K α] [Rp K β]
end
open PySem L2 Sy
inductive Rsn where
 | none
 | step (n:Int)
 | shut
 | walk (xs:LI)
 | out
 | loop (xs ys:LI)
 | rank (n:Int) (o:Option Int)
 | here
 | dead
 | plain
def Rsn.word:Rsn->Str
 | .none=>"none"
 | .step _=>"step"
 | .shut=>"shut"
 | .walk _=>"walk"
 | .out=>"out"
 | .loop _ _=>"loop"
 | .rank _ _=>"rank"
 | .here=>"here"
 | .dead=>"dead"
 | .plain=>"plain"
def Rsn.len:Rsn->Int
 | .step _=>2
 | .walk _=>2
 | .loop _ _=>3
 | .rank _ _=>3
 | _=>1
def Rsn.at1:Rsn->Option Int
 | .step n=>some n
 | .rank n _=>some n
 | _=>Option.none
section
variable {K:PySem.W.Frag}
def Rsn.rest (K:PySem.W.Frag) (F:Hp):Rsn->List V->Prop
 | .step n,vs=>vs = [.int n]
 | .walk xs,vs=>∃ a,vs = [a] /\ rp K F a xs
 | .loop xs ys,vs=>∃ a b,vs = [a,b] /\ rp K F a xs /\ rp K F b ys
 | .rank n o,vs=>∃ b,vs = [.int n,b] /\ rp K F b o
 | _,vs=>vs = []
theorem Rsn.rest_mono (s:Same F F'):∀ {r:Rsn} {vs:List V},r.rest K F vs->r.rest K F' vs
 | .step _,_,h=>h
 | .walk _,_,⟨a,h1,h2⟩=>⟨a,h1,Rp.mono s h2⟩
 | .loop _ _,_,⟨a,b,h1,h2,h3⟩=>⟨a,b,h1,Rp.mono s h2,Rp.mono s h3⟩
 | .rank _ _,_,⟨b,h1,h2⟩=>⟨b,h1,Rp.mono s h2⟩
 | .none,_,h=>h
 | .shut,_,h=>h
 | .out,_,h=>h
 | .here,_,h=>h
 | .dead,_,h=>h
 | .plain,_,h=>h
instance:Rp K Rsn:=⟨λF v r=>∃ p vs,v = .ref p /\ F p = some (.tup (.str r.word :: vs)) /\ r.rest K F vs,λs ⟨p,vs,h1,h2,h3⟩=>⟨p,vs,h1,s _ _ h2,Rsn.rest_mono s h3⟩⟩
instance:Nn K Rsn:=⟨λ⟨_,_,h,_⟩=>by rw [h]; intro e; cases e⟩
instance:Ty K Rsn:=⟨.type "tuple",λ⟨p,_,e,h,_⟩=>by rw [e]; exact .tup h⟩
end
section
variable {K:PySem.W.Frag} {B:Bs} {sl:SL K} {md:Md} {te t1 t2:TE}
end
end Ts
namespace L2
open PySem PySem.Spec PyProof.Rows
section
variable {X:Cx}
def rSlS:V->Option Int->Option Int->Hp->VK->Prop:=λx lo hi H Q=>∃ z j,x = .str z /\ lo = none /\ hi = some j /\ z.length <= sizeLine /\ Q (.str (Txt.slice z none (some j))) H
theorem sl_str:SlR X rSlS:=by
 intro pins s σ H x v vl vu lo hi sl Q I rx hs pl pu h
 obtain ⟨z,j,rfl,rfl,rfl,hz,q⟩:=h
 obtain ⟨t,rfl⟩:=rx
 cases pl
 cases pu with
 | int _ tk =>
  refine ⟨"str",_,PySem.F.slot_str_getitem.lookup,typeIs_str _ _ _,?_⟩
  exact wpAny_getItem_str_slice (l:=none) (u:=some (j,tk)) (st:=none) hs rfl (post_val_or_str ⟨Nat.le_trans (Txt.slice_le z _ _) hz,λt' k=>⟨.str _,H,I.tok k,⟨t',rfl⟩,q⟩⟩)
def rAddS:R2:=λx y H Q=>∃ i j,x = .str i /\ y = .str j /\ i.length + j.length <= sizeLine /\ Q (.str (i ++ j)) H
theorem zId:OpR X (binaryOp .Add) rAddS:=zKo
def rIxT1:R2:=λx y H Q=>∃ z i c,x = .str z /\ y = .int i /\ 0 <= i /\ i < 2 ^ 63 /\ i < z.length /\ z.cps[i.toNat]? = some c /\ Q (.str ⟨#[c]⟩) H
theorem zQ2 (ha:PE X a ta) (hb:PE X b tb) (hs:zJ8 b):PE X (.Subscript a b pos) (tOp rIxT1 ta tb):=zIa ha hb hs
end
end L2
namespace Ts
open PySem L2
section
variable {K:PySem.W.Frag} {B:Bs} {sl:SL K} {md:Md} {t t1 t2:TE}
def addS (a b:Str):Option Str:=if a.length + b.length <= 1000 then some (a ++ b) else none
theorem zIt (h1:Ex B sl .hp t1 m1) (h2:Ex B sl .hp t2 m2):Ex B sl md (tOp rAddS t1 t2) (m1.bind λa=>m2.bind λb=>addS a b):=λc hc F O H σ Q s k=>by
 obtain ⟨a,b,ha,hb,hf⟩:=zAo hc
 unfold addS at hf
 split at hf
 case isFalse=>cases hf
 rename_i hl
 cases hf
 refine h1 a ha F O H σ _ s λv F' H' g r1=>?_
 refine h2 b hb F' O H' σ _ (s.grow g) λw F2 H2 g2 r2=>?_
 cases r1
 cases r2
 exact ⟨a,b,rfl,rfl,Nat.le_trans hl (by decide),k _ F2 H2 (g.trans g2) rfl⟩
def ixS (z:Str) (i:Int):Option Str:=if 0 <= i /\ i < 2 ^ 63 /\ i < z.length then (z.cps[i.toNat]?).map λc=>⟨#[c]⟩ else none
theorem zRf (h1:Ex B sl .hp t1 m1) (h2:Ex B sl .hp t2 m2):Ex B sl md (tOp rIxT1 t1 t2) (m1.bind λa=>m2.bind λb=>ixS a b):=λc hc F O H σ Q s k=>by
 obtain ⟨a,b,ha,hb,hf⟩:=zAo hc
 unfold ixS at hf
 split at hf
 case isFalse=>cases hf
 rename_i hl
 cases e:a.cps[b.toNat]? with
 | none=>rw [e] at hf; cases hf
 | some z =>
  rw [e] at hf
  cases hf
  refine h1 a ha F O H σ _ s λv F' H' g r1=>?_
  refine h2 b hb F' O H' σ _ (s.grow g) λw F2 H2 g2 r2=>?_
  cases r1
  cases r2
  exact ⟨a,b,z,rfl,rfl,hl.1,hl.2.1,hl.2.2,e,k _ F2 H2 (g.trans g2) rfl⟩
def cutS (z:Str) (j:Int):Option Str:=if z.length <= 1000 then some (Txt.slice z none (some j)) else none
theorem ex_cutS (h1:Ex B sl .hp t1 m1) (h2:Ex B sl .hp t2 m2):Ex B sl md (tSl rSlS t1 zFc (zKh t2)) (m1.bind λa=>m2.bind λb=>cutS a b):=λc hc F O H σ Q s k=>by
 obtain ⟨a,b,ha,hb,hf⟩:=zAo hc
 unfold cutS at hf
 split at hf
 case isFalse=>cases hf
 rename_i hl
 cases hf
 refine h1 a ha F O H σ _ s λv F' H' g r1=>?_
 refine h2 b hb F' O H' σ _ (s.grow g) λw F2 H2 g2 r2=>?_
 cases r1
 cases r2
 exact ⟨b,rfl,a,b,rfl,rfl,rfl,Nat.le_trans hl (by decide),k _ F2 H2 (g.trans g2) rfl⟩
end
section
variable {K:PySem.W.Frag} {B:Bs} {sl:SL K} {F H H' L L':Hp} {O:Own} {σ:St} {α:Type} [Rp K α]
abbrev isNu:Slot K->Bool
 | @Slot.nu _ _ _ _=>true
 | _=>false
theorem SlotsOk.mut2 (h:SlotsOk B F L H sl σ O) (hn:sl.all (λs=>!isHs s && !isNu s) = true):SlotsOk B F L' H' sl σ O:=by
 induction h with
 | nil=>exact .nil
 | un _ ih=>exact .un (ih (by rw [all_cons,Bool.and_eq_true] at hn; exact hn.2))
 | fz r _ ih=>exact .fz (Rp.mono (xJ _ (.refl _)) r) (ih (by rw [all_cons,Bool.and_eq_true] at hn; exact hn.2))
 | hs r _ ih=>rw [all_cons,Bool.and_eq_true] at hn; exact absurd hn.1 (by simp)
 | nu r _ ih=>rw [all_cons,Bool.and_eq_true] at hn; exact absurd hn.1 (by simp)
 | ow r _ ih=>exact .ow (r.imp λ_ _=>Rp.mono (xJ _ (.refl _))) (ih (by rw [all_cons,Bool.and_eq_true] at hn; exact hn.2))
 | od r _ ih=>exact .od r (ih (by rw [all_cons,Bool.and_eq_true] at hn; exact hn.2))
 | ob r _ ih=>exact .ob (Ob.mono (xJ _ (.refl _)) r) (ih (by rw [all_cons,Bool.and_eq_true] at hn; exact hn.2))
end
open PySem L2 Sy
open PySem.SeqAt (EqAt RcAt RcNeAt)
section
variable {K:PySem.W.Frag}
variable {B:Bs} {sl:SL K} {md:Md} {t1 t2:TE}
end
theorem zL6 {β:Type} [Rp K β] {m:Option β} (sl2:SL K) (h:SB B sl2 t al m) (e:sl = sl2:=by rfl):SB B sl t al m:=e ▸ h
def del (H:Hp) (p:Addr):Hp:=λb=>if b = p then none else H b
section
variable {K:PySem.W.Frag} {B:Bs} {sl:SL K} {md:Md} {β:Type} [Rp K β]
end
structure RL (p:Addr) where
 ws:LI
section
variable {K:PySem.W.Frag} {B:Bs} {sl:SL K} {F H:Hp} {O:Own} {σ:St} {md:Md} {β:Type} [Rp K β] {p:Addr} {ws:LI}
instance:Rp K (RL p):=⟨λF v x=>v = .ref p /\ F p = some (.lst (x.ws.map V.int)),λs ⟨h1,h2⟩=>⟨h1,s _ _ h2⟩⟩
theorem At.chgN (z:At B sl F O H σ) (hs:sl[i]? = some (.nu (RL.mk (p:=p) ws))) (hh:(sl.set i .un).all (λs=>!isHs s && !isNu s) = true) :
  σ[i]? = some (some (.ref p)) /\ H p = some (.lst (ws.map V.int)) /\ B.H0 p = none /\ F p = none /\ (∀ x ∈ O,x.1 ≠ p) /\ ∀ ws':LI,At B (sl.set i (.nu (RL.mk (p:=p) ws'))) F O (upd H p (.lst (ws'.map V.int))) σ:=by
 obtain ⟨v,h1,rfl,h2⟩:=z.2.nu_at hs
 have b0:B.H0 p = none:=by
  cases q:B.H0 p with
  | none=>rfl
  | some u=>unfold dif at h2; rw [q] at h2; cases h2
 rw [xA b0] at h2
 have h2':=h2
 unfold lo at h2
 split at h2
 case isTrue=>cases h2
 rename_i hlo
 have hlo':=hlo
 rw [Bool.or_eq_true,not_or] at hlo
 have f0:F p = none:=by
  cases q:F p with
  | none=>rfl
  | some u=>exact absurd (by rw [q]; rfl) hlo.1
 have o0:∀ x ∈ O,x.1 ≠ p:=λx hx e=>hlo.2 (any_eq_true.mpr ⟨x,hx,by simpa using e⟩)
 refine ⟨h1,h2,b0,f0,o0,λws'=>⟨⟨z.1.fh.put f0 _,z.1.h0.put b0 _,z.1.fa,λx hx=>?_,z.1.nd⟩,?_⟩⟩
 ·obtain ⟨a1,a2,a3⟩:=z.1.fo x hx
  exact ⟨a1,a2,by rw [zO (o0 x hx)]; exact a3⟩
 ·have e:σ.set i (some (.ref p)) = σ:=by
   apply ext_getElem?
   intro j
   rw [List.getElem?_set]
   split
   ·rename_i hij
    subst hij
    split
    ·exact h1.symm
    ·rename_i hlt
     rw [List.getElem?_eq_none (by omega)] at h1
     cases h1
   ·rfl
  have q:=z.2.put (s':=.un) (x:=some (.ref p)) (λsl σ O h=>.un h) hs rfl
  rw [e] at q
  have q2:=q.mut2 (L':=lo F O (upd H p (.lst (ws'.map V.int)))) (H':=upd H p (.lst (ws'.map V.int))) hh
  have hlt:i < sl.length:=by
   cases c:decide (i < sl.length) with
   | true=>exact of_decide_eq_true c
   | false=>rw [List.getElem?_eq_none (by have:=of_decide_eq_false c; omega)] at hs; cases hs
  have q3:=q2.put (s:=.un) (s':=.nu (RL.mk (p:=p) ws')) (x:=some (.ref p)) (i:=i) (λsl σ O h=>.nu (by
   refine ⟨rfl,?_⟩
   rw [xA b0]
   unfold lo
   rw [if_neg hlo',zR]) h) (by rw [List.getElem?_set,if_pos rfl,if_pos hlt]) rfl
  rw [e,set_set] at q3
  exact q3
end
section
variable {K:PySem.W.Frag} {B:Bs} {sl:SL K} {F H:Hp} {O:Own} {σ:St} {md:Md} {α β S:Type} [Rp K α] [Rp K β] {p:Addr} {ws:LI} {te:TE} {t u:TS}
def SBR (B:Bs) (p:Addr) (sl:SL K) (t:TS) {β:Type} [Rp K β] (m:Option (β × LI)):Prop :=
 ∀ b ws,m = some (b,ws)->∀ (G:Hp) (D:Ends) (σ:St) (H:Hp),Sg B G sl σ H->(∀ v H',Same B.H0 H'->H' p = some (.lst (ws.map V.int))->(∃ F:Hp,F p = none /\ Same F H' /\ rp K (dif F B.H0) v b)->D.rt v H')->t D σ H
theorem SBR.of {m m':Option (β × LI)} (h:SBR B p sl t m) (e:m = m'):SBR B p sl t m':=e ▸ h
theorem sbr_ret {m:Option β} (i:Nat) (hs:sl[i]? = some (.nu (RL.mk (p:=p) ws))) (hh:(sl.set i .un).all (λs=>!isHs s && !isNu s) = true) (h:Ex B sl .nw te m):SBR B p sl (tSeq (tRet te) u) (m.bind λb=>some (b,ws)):=λb ws' hb G D σ H s k=>by
 cases m with
 | none=>cases hb
 | some c =>
  obtain ⟨rfl,rfl⟩:=Prod.mk.inj (Option.some.inj (show some (c,ws) = some (b,ws') from hb))
  obtain ⟨F,O,g,a⟩:=s
  refine h c rfl F O H σ _ a λv F' H' gr r=>?_
  obtain ⟨_,h2,_,f0,_⟩:=(a.grow gr).chgN hs hh
  exact k v H' gr.ok.h0 h2 ⟨F',f0,gr.ok.fh,r⟩
theorem zL1 (hs:sl[i]? = some s):(sl.set i s')[i]? = some s':=by
 have hlt:i < sl.length:=by
  cases c:decide (i < sl.length) with
  | true=>exact of_decide_eq_true c
  | false=>rw [List.getElem?_eq_none (by have:=of_decide_eq_false c; omega)] at hs; cases hs
 rw [List.getElem?_set,if_pos rfl,if_pos hlt]
theorem zJd {f:S->Option (β × LI)} (h1:Sn B sl t L m1) (h2:∀ s,SBR B p (L s) u (f s)):SBR B p sl (tSeq t u) (m1.bind f):=λa w ha G D σ H q k=>by
 cases m1 with
 | none=>cases ha
 | some s=>exact h1 s rfl G _ σ H q λσ' H' q'=>h2 s a w ha G D σ' H' q' k
theorem zGo {as:SL K} (k:Nat) (hf:as.all isF = true) (r:Ar F as vs):SlotsOk B F L' H (as ++ replicate k .un) (vs.map some ++ replicate k none) []:=by
 induction r with
 | nil =>
  show SlotsOk _ _ _ _ ([] ++ _) ([] ++ _) []
  rw [nil_append,nil_append]
  induction k with
  | zero=>exact .nil
  | succ k ih=>exact .un ih
 | @cons n _ _ _ _ _ _ r _ ih =>
  rw [all_cons,Bool.and_eq_true] at hf
  cases n with
  | false=>exact .fz r (ih hf.2)
  | true=>exact absurd hf.1 (by simp)
end
section
variable {P:Program} {w:World} {K:PySem.W.Frag} {mg:Str->Option Value} {base:Heap}
end
section
variable {K:PySem.W.Frag} {B:Bs} {sl:SL K} {md:Md} {α β S:Type} [Rp K α] [Rp K β] {te:TE}
end
section
variable {K:PySem.W.Frag} {B:Bs} {sl:SL K} {md:Md} {α β S:Type} [Rp K α] [Rp K β] {te:TE} {p:Addr} {ws:LI}
structure Fr (p:Addr) (F H F' H':Hp):Prop where
 ff:Same F F'
 hh:∀ b o,b ≠ p->H b = some o->H' b = some o
 nw:∀ b,F b = none->H b ≠ none->F' b = none
end
section
variable {K:PySem.W.Frag} {B:Bs} {sl:SL K} {md:Md} {α β S:Type} [Rp K α] [Rp K β] {te:TE} {p:Addr} {ws:LI} {n n':Bool}
end
section
variable {K:PySem.W.Frag} {B:Bs} {sl:SL K} {md:Md} {α β S:Type} [Rp K α] [Rp K β] {te t1 t2:TE} {p:Addr}
end
section
variable {K:PySem.W.Frag} {B:Bs} {sl:SL K} {F H:Hp} {O:Own} {σ:St}
end
structure Tri (α β γ:Type) where
 a:α
 b:β
 c:γ
section
variable {K:PySem.W.Frag} {B:Bs} {sl:SL K} {md:Md} {n:Bool} {α β γ S:Type} [Rp K α] [Rp K β] [Rp K γ] {te t1 t2 t3:TE}
instance:Rp K (Tri α β γ):=⟨λF v x=>∃ p u w z,v = .ref p /\ F p = some (.tup [u,w,z]) /\ rp K F u x.a /\ rp K F w x.b /\ rp K F z x.c,λs ⟨p,u,w,z,h1,h2,h3,h4,h5⟩=>⟨p,u,w,z,h1,s _ _ h2,Rp.mono s h3,Rp.mono s h4,Rp.mono s h5⟩⟩
instance:Nn K (Tri α β γ):=⟨λ⟨_,_,_,_,h,_⟩=>by rw [h]; intro e; cases e⟩
end
section
variable {K:PySem.W.Frag} {B:Bs} {sl:SL K} {md:Md} {te:TE}
end
section
variable {K:PySem.W.Frag} {B:Bs} {sl sl2:SL K} {md:Md} {te:TE} {t:TS} {β:Type} [Rp K β] {p:Addr}
theorem zP7 {m:Option Scr} {mi:Option Int} {ti:TE} (h:Ex B sl .hp te m) (hi:Ex B sl .hp ti mi):Eo B sl md (tSl (rSlL K) te zFc (zKh ti)) (m.bind λxs=>mi.bind λi=>some (cutL xs.ns none (some i))):=λc hc F O H σ Q s k=>by
 obtain ⟨xs,i,hx,hi',hc⟩:=zAo hc
 cases hc
 refine h xs hx F O H σ _ s λv F' H' g r=>?_
 refine hi i hi' F' O H' σ _ (s.grow g) λu F2 H2 g2 r2=>?_
 have r2:u = .int i:=r2
 obtain ⟨p,rfl,z1⟩:=r
 exact ⟨i,r2,p,xs.ns.map V.int,rfl,g2.hh.seq z1,λl hl=>k l _ F2 H2 (g.trans g2) hl ((A2.of_map (R:=rp K (reg B F2 H2 md)) (f:=V.int) (λ_=>rfl) xs.ns).cut _ _)⟩
theorem sbr_pre {m:Option (β × LI)} (l:Le sl sl2) (h:SBR B p sl2 t m):SBR B p sl t m:=λa w ha G D σ H q k=>h a w ha G D σ H (q.le l) k
theorem zQv {m:Option (β × LI)} (sl2:SL K) (h:SBR B p sl2 t m) (e:sl = sl2:=by rfl):SBR B p sl t m:=e ▸ h
end
section
variable {K:PySem.W.Frag} {B:Bs} {sl:SL K} {F H:Hp} {O:Own} {σ:St} {t u:TS} {al:Bool} {α β S A A1 A2:Type} [Rp K α] [Rp K β] {b:β}
end
end Ts
namespace L2
open PySem PySem.Spec PyProof.Rows
section
variable {X:Cx}
end
end L2
namespace Ts
open PySem L2
open PySem.SeqAt (EqAt RcAt RcNeAt)
section
variable {K:PySem.W.Frag} {B:Bs} {sl:SL K} {md:Md} {te t1 t2:TE} {α β γ δ:Type} [Rp K α] [Rp K β] [Rp K γ] [Rp K δ]
theorem zB8 {n:Bool} {xs:List α} (i:Nat) (hs:sl[i]? = some (.ow n xs)) (hh:sl.all (λs=>!isHs s) = true):Sn B sl (zEf (tBM0 K "list" zJi (tVar i))) (λys=>sl.set i (.ow n ys)) (some xs.reverse):=λa ha G D σ H s k=>by
 cases ha
 obtain ⟨F,O,g,z⟩:=s
 obtain ⟨p,vs,h1,h2,h3,h4⟩:=z.chg hs hh
 obtain ⟨O',z'⟩:=h4 vs.reverse xs.reverse h3.rev
 exact ⟨_,h1,.inl ⟨rfl,vs,SqL.of h2⟩,p,vs,rfl,rfl,h2,k _ _ ⟨F,O',g,z'⟩⟩
end
section
variable {K:PySem.W.Frag} {α β γ:Type} [Rp K α] [DecidableEq α] [Eqv K α] [Rp K β] [DecidableEq β] [Eqv K β] [Rp K γ] [DecidableEq γ] [Eqv K γ] {X:Cx} {pins:List (Addr × Obj)} {σ:St} {H:Hp} {s:Shared} {A:Around} {a b:Tri α β γ} {p p':Addr} {v1 v2 v3 w1 w2 w3:V}
end
section
variable {K:PySem.W.Frag} {B:Bs} {sl:SL K} {md:Md} {te:TE} {β S:Type} [Rp K β] {p:Addr} {ws:LI} {g:TG} {tb:TS}
theorem ex_varR (i:Nat) (hs:sl[i]? = some (.nu (RL.mk (p:=p) ws))):Ex B sl .hp (tVar i) (some ws):=λa' ha F O H σ Q s k=>by
 cases ha
 obtain ⟨v,h1,rfl,h2⟩:=s.2.nu_at hs
 exact ⟨_,h1,k _ F H (.refl s.1) ⟨p,_,rfl,dif_le.trans zPs _ _ h2,zAf ws⟩⟩
end
section
variable {K:PySem.W.Frag} {B:Bs} {sl slE slW:SL K} {md:Md} {te:TE} {F F' H H' L L':Hp} {O:Own} {σ:St} {α β γ:Type} [Rp K α] [Rp K β] [Rp K γ]
inductive CalmL:SL K->Prop
 | nil:CalmL []
 | nu {a:SL K}:CalmL a->CalmL (.nu (LOpq.mk ()) :: a)
 | oth {s:Slot K} {a:SL K}:zAj s = false->CalmL a->CalmL (s :: a)
inductive NuE:SL K->SL K->SL K->Prop
 | nil:NuE [] [] []
 | nu {α:Type} [Rp K α] [IsL K α] {x:α} {a b c:SL K}:NuE a b c->NuE (.nu x :: a) (.fz true x :: b) (.nu (LOpq.mk ()) :: c)
 | oth {s:Slot K} {a b c:SL K}:zAj s = false->isOw s = false->NuE a b c->NuE (s :: a) (.un :: b) (s :: c)
end
end Ts
namespace L2
open PySem PySem.Spec PyProof.Rows
section
variable {X:Cx}
end
end L2
namespace Ts
open PySem L2
section
variable {K:PySem.W.Frag} {mg:Str->Option Value} {B:Bs} {sl:SL K} {md:Md} {te t1 t2:TE} {C:Addr} {α β γ S:Type} [Rp K α] [Rp K β] [Rp K γ] {u:TS} {al:Bool}
end
end Ts
namespace L2
open PySem PySem.Spec PyProof.Rows
section
variable {X:Cx}
end
end L2
namespace Ts
open PySem L2
section
variable {K:PySem.W.Frag} {B:Bs} {sl:SL K} {md:Md} {α β:Type} [Rp K α] [Rp K β] {te t1 t2:TE}
end
end Ts
namespace PySem
open Sem (wp)
structure IK (prog:Program) (w:World) (α:Type) [DecidableEq α] where
 is:Heap->α->Value->Prop
 hash:α->Int
 draws:α->Nat
 inj:∀ {h:Heap} {v:Value} {x y:α},is h x v->is h y v->x = y
 keeps:∀ {h h':Heap} {k:α} {v:Value} {d:Addr} {o:Obj} {es ep},is h k v->h.get? d = some o->o.data = .dict es ep->SameBut d h h'->is h' k v
 pyHash:∀ {A:Around} {E:Value->Shared->Prop} {s:Shared} {k:α} {v:Value} {Q:Int->Shared->Prop},A.units < cLine->is s.heap k v->Q (hash k) { s with toks:=s.toks + draws k }->wpAny (model prog w) A (PySem.pyHash v) Q E s
 eqBool:∀ {A:Around} {E:Value->Shared->Prop} {s:Shared} {x y:α} {u v:Value} {Q:Bool->Shared->Prop},A.units < cLine->is s.heap x u->is s.heap y v->Q (decide (x = y)) s->wpAny (model prog w) A (PySem.eqBool u v) Q E s
 quiet:∀ {A:Around} {E:Value->Shared->Prop} {s:Shared} {k:α} {v:Value} {Q:Bool->Shared->Prop},is s.heap k v->Q true s->wpAny (model prog w) A (eqIsQuiet 7 v) Q E s
section
variable {prog:Program} {w:World} {α β:Type} [DecidableEq α] [DecidableEq β]
variable {k1:IK prog w α} {k2:IK prog w β}
variable {A:Around} {E:Value->Shared->Prop} {s:Shared}
end
section
variable {prog:Program} {w:World} {K:Type} [DecidableEq K] {knd:HeapKind prog w K} {A:Around} {E:Value->Shared->Prop} {s:Shared}
end
end PySem
namespace L2
open PySem PySem.Spec PyProof.Rows
structure AK (α:Type) [DecidableEq α] where
 at_:Hp->α->V->Prop
 ik:∀ (P:Program) (w:World),IK P w α
 ok:∀ {P:Program} {w:World} {H:Hp} {h:Heap} {x:α} {v:V} {u:Value},HOk P w H h->at_ H x v->RelV v u->(ik P w).is h x u
 mono:∀ {H H':Hp} {x:α} {v:V},at_ H x v->(∀ b xs,H b = some (.tup xs)->H' b = some (.tup xs))->at_ H' x v
section
variable {α β:Type} [DecidableEq α] [DecidableEq β]
abbrev NKV (α β:Type):=List ((α × β) × Addr × Int)
variable {X:Cx} {pins:List (Addr × Obj)} {σ:St} {H:Hp} {s:Shared} {a1:AK α} {a2:AK β} {d:Addr} {kvs:NKV α β}
end
end L2
namespace Ts
open PySem PySem.Spec L2 PyProof.Rows
def sleb (a b:Str):Bool:=!ltCps b.cps.toList a.cps.toList
theorem zC9:sleb a b = true ↔ ¬ b.cps.toList < a.cps.toList:=by
 unfold sleb
 rw [ltCps_eq]
 simp
theorem zL2 (h1:sleb a b = true) (h2:sleb b c = true):sleb a c = true:=by
 rw [zC9] at *
 exact not_lt.mpr (List.le_trans (not_lt.mp h1) (not_lt.mp h2))
theorem zO6 (a b:Str):(sleb a b || sleb b a) = true:=by
 rw [Bool.or_eq_true,zC9,zC9]
 rcases List.le_total a.cps.toList b.cps.toList with h | h
 ·exact .inl (not_lt.mpr h)
 ·exact .inr (not_lt.mpr h)
theorem sleb_anti (h1:sleb a b = true) (h2:sleb b a = true):a = b:=by
 rw [zC9] at *
 have e:=List.le_antisymm (not_lt.mp h1) (not_lt.mp h2)
 cases a
 cases b
 exact congrArg Str.mk (Array.toList_inj.mp e)
def ssort (l:List Str):List Str:=l.mergeSort sleb
def zEn (l:List Str):Option (List Str):=if l.length < 64 then some (ssort l) else none
theorem ssort_perm (l:List Str):(ssort l).Perm l:=List.mergeSort_perm l sleb
theorem ssort_pw (l:List Str):(ssort l).Pairwise λa b=>sleb a b = true:=List.pairwise_mergeSort (le:=sleb) (λ_ _ _ h1 h2=>zL2 h1 h2) zO6 l
theorem perm_uniq {α:Type} {r:α->α->Prop} (anti:∀ a b,r a b->r b a->a = b):∀ {xs ys:List α},xs.Perm ys->xs.Pairwise r->ys.Pairwise r->xs = ys
 | [],ys,h,_,_=>by rw [List.nil_perm.mp h]
 | x :: xs,[],h,_,_=>by cases List.perm_nil.mp h
 | x :: xs,y :: ys,h,h1,h2=>by
  have hx:x ∈ y :: ys:=h.subset mem_cons_self
  have hy:y ∈ x :: xs:=h.symm.subset mem_cons_self
  have e:x = y:=by
   rcases mem_cons.mp hx with q | q
   ·exact q
   rcases mem_cons.mp hy with z | z
   ·exact z.symm
   exact anti _ _ (rel_of_pairwise_cons h1 z) (rel_of_pairwise_cons h2 q)
  subst e
  rw [perm_uniq anti (List.perm_cons x |>.mp h) (pairwise_cons.mp h1).2 (pairwise_cons.mp h2).2]
theorem sortedS_pw:∀ {l:List Str},sortedS l = true->l.Pairwise λa b=>sleb a b = true
 | [],_=>.nil
 | x :: r,h=>by
  have go:∀ (p:Str) (l:List Str),risingS p l = true->(p :: l).Pairwise λa b=>sleb a b = true:=by
   intro p l
   induction l generalizing p with
   | nil=>intro _; exact List.pairwise_singleton _ _
   | cons y t ih =>
    intro q
    have q:(!ltCps y.cps.toList p.cps.toList && risingS y t) = true:=q
    rw [Bool.and_eq_true] at q
    have i:=ih y q.2
    refine pairwise_cons.mpr ⟨λz hz=>?_,i⟩
    rcases mem_cons.mp hz with e | hz
    ·rw [e]; exact q.1
    ·exact zL2 q.1 (rel_of_pairwise_cons i hz)
  exact go x r h
theorem strs_of {ss:List Str} (r:Vals (ss.map V.str) its):StrsAre its ss:=by
 induction ss generalizing its with
 | nil=>cases r; exact .nil
 | cons x t ih =>
  cases r with
  | cons r1 r =>
   obtain ⟨k,rfl⟩:=r1
   exact .cons x k (ih r)
theorem vals_of_strs (h:StrsAre vs ss):Vals (ss.map V.str) vs:=by
 induction h with
 | nil=>exact .nil
 | cons x t _ ih=>exact .cons ⟨t,rfl⟩ ih
section
variable {X:Cx} {K:PySem.W.Frag} {B:Bs} {sl:SL K} {md:Md} {t:TE}
def zQz (K:PySem.W.Frag):List V->Hp->VK->Prop:=λxs H Q=>∃ (p:Addr) (ss:List Str),xs = [.ref p] /\ SqL K H p (ss.map V.str) /\ ss.length < 64 /\ ∀ l:Addr,H l = none->Q (.ref l) (upd H l (.lst ((ssort ss).map V.str)))
theorem zE3 (K:PySem.W.Frag) (hK:X.K = K:=by rfl):zBu X (.builtin "sorted") (zQz K):=by
 subst hK
 intro pins s σ H xs us Q I r h
 obtain ⟨p,ss,rfl,hq,h64,q⟩:=h
 obtain ⟨u,rfl,rx⟩:=zGi r
 cases rx
 obtain ⟨its,r',pl,hz⟩:=I.list hq
 have hl:=r'.length
 rw [length_map] at hl
 refine sorted_strs pl.isList (strs_of r') (by omega) λout ss' a1 a2 a3=>?_
 obtain ⟨e,he⟩:=sortedAll_at s.heap its out
 have fr:H (s.heap.objs.size + 1) = none:=I.hok.fresh (Nat.le_succ _)
 have eu:ss' = ssort ss:=perm_uniq (r:=λa b=>sleb a b = true) (λ_ _=>sleb_anti) (a2.trans (ssort_perm ss).symm) (sortedS_pw a3) (ssort_pw ss)
 rw [eu] at a1
 refine ⟨.ref (s.heap.objs.size + 1),_,I.laid (t':=s.toks) (o:=.lst ((ssort ss).map V.str)) (λb ob w=>sortedAll_old w) (Nat.le_succ _) ⟨?_,out.toList,e,vals_of_strs a1,?_⟩,rfl,q _ fr⟩
 ·rw [length_map,(ssort_perm ss).length_eq]
  exact Nat.le_of_lt (Nat.lt_trans h64 (by decide))
 ·rw [toArray_toList]
  exact he
theorem zJz (h:Ex B sl .hp t m):Eo B sl md (tCB (zQz K) (xF t tNil)) (m.bind zEn):=λc hc F O H σ Q s k=>by
 cases m with
 | none=>cases hc
 | some ss =>
  have hc:zEn ss = some c:=hc
  unfold zEn at hc
  split at hc
  case isFalse=>cases hc
  rename_i hl
  cases hc
  refine h ss rfl F O H σ _ s λv F' H' g r1=>?_
  obtain ⟨p,vs,rfl,z1,z2⟩:=r1
  have z3:vs = ss.map V.str:=A2.eq_map z2
  subst z3
  exact ⟨p,ss,rfl,SqL.of z1,hl,λl hn=>k l _ F' H' g hn (A2.of_map (f:=V.str) (λ_=>rfl) _)⟩
structure Tp (α:Type) where
 xs:List α
deriving instance DecidableEq for Tp
end
open PySem L2
section
variable {X:Cx} {K:PySem.W.Frag} {B:Bs} {sl:SL K} {md:Md} {t:TE} {α:Type} [Rp K α]
instance {α:Type} [Rp K α]:Rp K (Tp α):=⟨λF v x=>∃ p vs,v = .ref p /\ F p = some (.tup vs) /\ A2 (rp K F) vs x.xs,λs ⟨p,vs,h1,h2,h3⟩=>⟨p,vs,h1,s _ _ h2,h3.imp λ_ _=>Rp.mono s⟩⟩
end
section
variable {κ:Type} [DecidableEq κ]
def dd:List κ->List κ->List κ
 | acc,[]=>acc
 | acc,k :: r=>dd (if k ∈ acc then acc else acc ++ [k]) r
end
end Ts
namespace L2
open PySem Ts
section
variable {α β:Type} [DecidableEq α] [DecidableEq β]
end
end L2
namespace Ts
open PySem L2
structure RwD where
 xss:List LI
def RowD (F:Hp) (q:Addr) (xs:LI):Prop:=F q = some (.lst (xs.map V.int))
section
variable {K:PySem.W.Frag} {B:Bs} {sl:SL K} {F H G L:Hp} {O:Own} {σ:St} {te t2:TE} {u:TS} {al:Bool}
instance:Rp K RwD:=⟨λF v x=>∃ (p:Addr) (ps:List Addr),v = .ref p /\ F p = some (.lst (ps.map V.ref)) /\ (p :: ps).Nodup /\ A2 (RowD F) ps x.xss,λs ⟨p,ps,h1,h2,h3,h4⟩=>⟨p,ps,h1,s _ _ h2,h3,h4.imp λ_ _ h=>s _ _ h⟩⟩
theorem rd_a2:∀ {ps:List Addr} {xss:List LI},A2 (RowD F) ps xss->A2 (rp K F) (ps.map V.ref) xss
 | [],[],_=>trivial
 | _ :: _,xs :: _,h=>⟨⟨_,xs.map V.int,rfl,h.1,zAf xs⟩,rd_a2 h.2⟩
 | [],_ :: _,h=>h.elim
 | _ :: _,[],h=>h.elim
theorem rd_ll {v:V} {x:RwD} (h:rp K F v x):rp K F v x.xss:=by
 obtain ⟨p,ps,h1,h2,h3,h4⟩:=h
 exact ⟨p,ps.map V.ref,h1,h2,rd_a2 h4⟩
theorem rd_at:∀ {ps:List Addr} {xss:List LI} {j:Nat} {r:LI},A2 (RowD F) ps xss->xss[j]? = some r->∃ q,ps[j]? = some q /\ RowD F q r
 | p :: ps,xs :: xss,0,r,h,e=>by cases e; exact ⟨p,rfl,h.1⟩
 | p :: ps,xs :: xss,j + 1,r,h,e=>by simpa using rd_at (j:=j) h.2 e
 | [],[],_,_,_,e=>by simp at e
 | [],_ :: _,_,_,h,_=>h.elim
 | _ :: _,[],_,_,h,_=>h.elim
theorem zMd:∀ {ps:List Addr} {xss:List LI},(∀ q ∈ ps,∀ xs,RowD F q xs->RowD F' q xs)->A2 (RowD F) ps xss->A2 (RowD F') ps xss
 | [],[],_,_=>trivial
 | p :: ps,_ :: _,k,h=>⟨k p mem_cons_self _ h.1,zMd (λq hq=>k q (mem_cons_of_mem _ hq)) h.2⟩
 | [],_ :: _,_,h=>h.elim
 | _ :: _,[],_,h=>h.elim
theorem zQx:∀ {ps:List Addr} {xss:List LI} {j:Nat} {q:Addr} {r:LI},ps.Nodup->ps[j]? = some q->(∀ b ∈ ps,b ≠ q->∀ xs,RowD F b xs->RowD F' b xs)->RowD F' q r->A2 (RowD F) ps xss->A2 (RowD F') ps (xss.set j r)
 | [],[],_,_,_,_,e,_,_,_=>by simp at e
 | p :: ps,xs :: xss,0,q,r,nd,e,k,n,h=>by
  cases e
  exact ⟨n,zMd (λb hb xs=>k b (mem_cons_of_mem _ hb) (λe=>(nodup_cons.mp nd).1 (e ▸ hb)) xs) h.2⟩
 | p :: ps,xs :: xss,j + 1,q,r,nd,e,k,n,h=>by
  have e:ps[j]? = some q:=by simpa using e
  exact ⟨k p mem_cons_self (λz=>(nodup_cons.mp nd).1 (z ▸ mem_of_getElem? e)) _ h.1,zQx (nodup_cons.mp nd).2 e (λb hb=>k b (mem_cons_of_mem _ hb)) n h.2⟩
 | [],_ :: _,_,_,_,_,_,_,_,h=>h.elim
 | _ :: _,[],_,_,_,_,_,_,_,h=>h.elim
theorem zQy:∀ {ps:List Addr} {xss:List LI} {q:Addr},A2 (RowD F) ps xss->q ∈ ps->∃ xs,RowD F q xs
 | p :: ps,xs :: xss,q,h,hq=>by
  rcases mem_cons.mp hq with e | hq
  ·rw [e]; exact ⟨_,h.1⟩
  ·exact zQy h.2 hq
 | [],[],_,_,hq=>by cases hq
 | [],_ :: _,_,h,_=>h.elim
 | _ :: _,[],_,h,_=>h.elim
theorem zP4 {x:RwD} (i:Nat) (hs:sl[i]? = some (.nu x)):Ex B sl .hp (tVar i) (some x.xss):=λa' ha F O H σ Q s k=>by
 cases ha
 obtain ⟨v,h1,h2⟩:=s.2.nu_at hs
 exact ⟨v,h1,k v F H (.refl s.1) (rd_ll (Rp.mono (dif_le.trans zPs) h2))⟩
theorem en_nilD:En B sl (tLst tNil) (some (RwD.mk [])):=λc hc F O H σ Q s kk=>by
 cases hc
 refine ⟨Nat.zero_le _,λp hp=>kk _ F H _ (.refl s.1) (same_new hp _) ⟨p,[],rfl,?_,by simp,trivial⟩⟩
 rw [xA hp,zR]; rfl
def zFp (x:RwD) (ys:LI):Option RwD:=if x.xss.length < cap then some (RwD.mk (x.xss ++ [ys])) else none
theorem sn_appD (i j:Nat) (hi:sl[i]? = some (.nu x)) (hj:sl[j]? = some (.ow n ys)) (hij:i ≠ j) (hn:((sl.set j .un).set i .un).all (λs=>!zAj s) = true) :
  Sn B sl (zEf (tBM K "list" zBq (tVar i) (xF (tVar j) tNil))) (λa=>(sl.set j .un).set i (.nu a)) (zFp x ys):=λc hc G D σ H s k=>by
 unfold zFp at hc
 split at hc
 case isFalse=>cases hc
 rename_i hl
 cases hc
 obtain ⟨F,O,g,z⟩:=s
 obtain ⟨v,y1,p,ps,rfl,y2,y3,y4⟩:=z.2.nu_at hi
 obtain ⟨a1,a2,a3,a4⟩:=zEu y2
 obtain ⟨O1,O2,q,vs,rfl,w1,w2,_,w4⟩:=z.2.ow_at hj
 have ev:vs = ys.map V.int:=A2.eq_map (w2.imp λ_ _ h=>h)
 obtain ⟨b1,b2,b3⟩:=z.1.one
 have qp:p ≠ q:=λe=>a3 (q,.lst vs) (by simp) e.symm
 have inO:∀ x ∈ O1 ++ O2,x ∈ O1 ++ (q,HO.lst vs) :: O2:=λx hx=>by
  rcases mem_append.mp hx with e | e
  ·exact mem_append_left _ e
  ·exact mem_append_right _ (mem_cons_of_mem _ e)
 have yl:ps.length = x.xss.length:=y4.len
 refine ⟨_,y1,.inl ⟨rfl,_,SqL.of a4⟩,_,w1,p,_,.ref q,rfl,rfl,a4,zA0 (by rw [length_map,yl]; exact hl),k _ _ ⟨F,O1 ++ O2,g,z.1.drop.poke a1 a2 λx hx=>a3 x (inO x hx),?_⟩⟩
 have zu:=w4 .un (some (.ref q)) λ_ _ _ y=>.un y
 rw [uJ w1] at zu
 have hi':(sl.set j .un)[i]? = some (.nu x):=by rw [getElem?_set_ne (Ne.symm hij)]; exact hi
 have z4:SlotsOk B F (lo F (O1 ++ O2) (upd H p (.lst (ps.map V.ref ++ [.ref q])))) (upd H p (.lst (ps.map V.ref ++ [.ref q]))) ((sl.set j .un).set i .un) σ (O1 ++ O2):=(zQu zu hi' rfl).calm hn
 have hil:i < (sl.set j .un).length:=(List.getElem?_eq_some_iff.mp hi').1
 have nq:q ∉ ps:=λhq=>by
  obtain ⟨xs,hx⟩:=zQy y4 hq
  exact (zEu hx).2.2.1 (q,.lst vs) (by simp) rfl
 have rl:rp K (dif (lo F (O1 ++ O2) (upd H p (.lst (ps.map V.ref ++ [.ref q])))) B.H0) (.ref p) (RwD.mk (x.xss ++ [ys])):=by
  refine ⟨p,ps ++ [q],rfl,?_,?_,?_⟩
  ·rw [xA a2,zIo a1 λx hx=>a3 x (inO x hx),zR,map_append]; rfl
  ·have n1:=nodup_cons.mp y3
   refine nodup_cons.mpr ⟨λe=>?_,?_⟩
   ·rcases mem_append.mp e with e | e
    ·exact n1.1 e
    ·exact qp (mem_singleton.mp e)
   ·rw [nodup_append]
    refine ⟨n1.2,by simp,λa ha b hb e=>nq ?_⟩
    rw [<- mem_singleton.mp hb,<- e]
    exact ha
  ·refine A2.snoc (zMd (λb hb xs hx=>?_) y4) ?_
   ·obtain ⟨c1,c2,c3,c4⟩:=zEu hx
    have bp:b ≠ p:=λe=>(nodup_cons.mp y3).1 (e ▸ hb)
    show dif _ _ b = _
    rw [xA c2,zIo c1 λx hx=>c3 x (inO x hx),zO bp,c4]
   ·show dif _ _ q = _
    rw [xA b2,zIo b1 (z.1.ndp),zO qp.symm,b3,ev]
 have z5:=z4.put (i:=i) (s:=.un) (s':=.nu (RwD.mk (x.xss ++ [ys]))) (x:=some (.ref p)) (λ_ _ _ y=>.nu rl y) (by rw [getElem?_set_self hil]) rfl
 rw [set_set,uJ y1] at z5
 exact z5
def zGw (x:RwD) (j y:Int):Option RwD:=if 0 <= j then (x.xss[j.toNat]?).bind λr=>if r.length < cap then some (RwD.mk (x.xss.set j.toNat (r ++ [y]))) else none else none
theorem zLz (i:Nat) (hs:sl[i]? = some (.nu x)) (hn:(sl.set i .un).all (λs=>!zAj s) = true) (h2:Ex B sl .hp t2 m2) (h:Ex B sl .hp te m) :
  Sn B sl (zEf (tBM K "list" zBq (tOp (rIxL K) (tVar i) t2) (xF te tNil))) (λa=>sl.set i (.nu a)) (m2.bind λj=>m.bind λy=>zGw x j y):=λc hc G D σ H s k=>by
 cases m2 with
 | none=>cases hc
 | some j =>
  cases m with
  | none=>cases hc
  | some y =>
   have hc:zGw x j y = some c:=hc
   unfold zGw at hc
   split at hc
   case isFalse=>cases hc
   rename_i j0
   cases er:x.xss[j.toNat]? with
   | none=>rw [er] at hc; cases hc
   | some r =>
    rw [er] at hc
    have hc:(if r.length < cap then some (RwD.mk (x.xss.set j.toNat (r ++ [y]))) else none) = some c:=hc
    split at hc
    case isFalse=>cases hc
    rename_i hl
    cases hc
    obtain ⟨F,O,g,z⟩:=s
    obtain ⟨v,y1,p,ps,rfl,y2,y3,y4⟩:=z.2.nu_at hs
    obtain ⟨a1,a2,a3,a4⟩:=zEu y2
    obtain ⟨q,e3,e4⟩:=rd_at y4 er
    obtain ⟨b1,b2,b3,b4⟩:=zEu e4
    refine ⟨_,y1,h2 j rfl F O H σ _ z λw F2 H2 g2 r2=>?_⟩
    cases r2
    have hix:atI (ps.map V.ref) j = some (.ref q):=by
     have:=zD7 (zMc e3)
     rw [show ((j.toNat:Nat):Int) = j by omega] at this
     exact this
    refine ⟨p,_,j,.ref q,rfl,rfl,SqL.of (g2.hh _ _ a4),hix,.inl ⟨rfl,_,SqL.of (g2.hh _ _ b4)⟩,?_⟩
    refine h y rfl F2 O H2 σ _ (z.grow g2) λw F3 H3 g3 r3=>?_
    cases r3
    have g23:=g2.trans g3
    have q1:=g23.nw q b1 (by rw [b4]; intro z; cases z)
    have p1:=g23.nw p a1 (by rw [a4]; intro z; cases z)
    have b4':=g23.hh _ _ b4
    refine ⟨q,_,.int y,rfl,rfl,b4',zA0 (by rw [length_map]; exact hl),k _ _ ⟨F3,O,g.trans g23.ff,g23.ok.poke q1 b2 b3,?_⟩⟩
    have z3:=(z.grow g23).2
    have z4:SlotsOk B F3 (lo F3 O (upd H3 q (.lst (r.map V.int ++ [.int y])))) (upd H3 q (.lst (r.map V.int ++ [.int y]))) (sl.set i .un) σ O:=(zQu z3 hs rfl).calm hn
    have hi:i < sl.length:=(List.getElem?_eq_some_iff.mp hs).1
    have pq:p ≠ q:=λe=>(nodup_cons.mp y3).1 (e ▸ mem_of_getElem? e3)
    have rl:rp K (dif (lo F3 O (upd H3 q (.lst (r.map V.int ++ [.int y])))) B.H0) (.ref p) (RwD.mk (x.xss.set j.toNat (r ++ [y]))):=by
     refine ⟨p,ps,rfl,?_,y3,zQx (nodup_cons.mp y3).2 e3 (λb hb nb xs hx=>?_) ?_ y4⟩
     ·rw [xA a2,zIo p1 a3,zO pq]
      exact g23.hh _ _ a4
     ·obtain ⟨c1,c2,c3,c4⟩:=zEu hx
      show dif _ _ b = _
      rw [xA c2,zIo (g23.nw b c1 (by rw [c4]; intro z; cases z)) c3,zO nb]
      exact g23.hh _ _ c4
     ·show dif _ _ q = _
      rw [xA b2,zIo q1 b3,zR,map_append]; rfl
    have z5:=z4.put (i:=i) (s:=.un) (s':=.nu (RwD.mk (x.xss.set j.toNat (r ++ [y])))) (x:=some (.ref p)) (λ_ _ _ y=>.nu rl y) (by rw [getElem?_set_self hi]) rfl
    rw [set_set,uJ y1] at z5
    exact z5
structure LLen where
 n:Nat
instance:Rp K LLen:=⟨λF v x=>∃ p vs,v = .ref p /\ F p = some (.lst vs) /\ vs.length <= x.n,λs ⟨p,vs,h1,h2,h3⟩=>⟨p,vs,h1,s _ _ h2,h3⟩⟩
end
structure Fx (v:V) (α:Type) where
 x:α
section
variable {K:PySem.W.Frag} {B:Bs} {sl:SL K} {F H G L:Hp} {O:Own} {σ:St} {te t2:TE} {t:TS} {al:Bool} {α:Type} [Rp K α] {md:Md}
instance:Rp K (Fx v α):=⟨λF u a=>u = v /\ rp K F u a.x,λs h=>⟨h.1,Rp.mono s h.2⟩⟩
end
section
variable {K:PySem.W.Frag} {B:Bs} {sl:SL K} {te:TE}
end
end Ts
namespace SetP
open PySem PySem.Spec PyProof.Rows
set_option maxRecDepth 100000
theorem zFl:entryFor table "set.__xor__" = some Builtin.«frozenset.__xor__»:=entryFor_alias (id':="frozenset.__xor__") (by kernel_rfl) rfl (by decide +kernel) (by kernel_rfl)
section
variable {prog:Program} {w:World} {κ:Type} [DecidableEq κ] {knd:KeyKind prog w κ} {dec:Value->κ} {led:Bool} {A:Around} {E:Value->Shared->Prop} {s:Shared}
theorem xupd_ok (hdec:∀ k v,knd.is k v = true->dec v = k) (id:String) (hn:∀ k v,knd.is k v = true->∀ b,v ≠ .ref b) (hab:b ≠ r) (ga:Good knd dec (yM w) s.heap r ka) (gb:Good knd dec (yM w) s.heap b kb) (hl:ka.length + kb.length <= 127) {Q:Unit->Shared->Prop}
  (h:∀ (h':Heap) (kr:List κ),SameBut r s.heap h'->Good knd dec (yM w) h' r kr->(∀ k,k ∈ kr ↔ ((k ∈ ka /\ k ∉ kb) \/ (k ∉ ka /\ k ∈ kb)))->Q () { s with heap:=h' }) :
  wpAny (model prog w) A (Builtin.Frozenset.symmetricDifferenceUpdate id r (.ref b)) Q E s:=by
 obtain ⟨o,es,ep,t,h1,h2,h3,hf,hlb,tb,hel,hp⟩:=gb.size
 have ndb:kb.Nodup:=by obtain ⟨_,_,_,_,_,_,_,_,_,nd,_⟩:=gb; exact nd
 unfold Builtin.Frozenset.symmetricDifferenceUpdate
 rw [if_neg (λe=>hab (Value.ref.inj (eq_of_beq e)))]
 refine wpAny_bind (wpAny_typeOf gb.type ?_)
 rw [if_neg (by decide)]
 refine wpAny_bind (zGd gb.type ?_)
 simp only [↓reduceIte]
 refine wpAny_bind (wpAny_pure (wpAny_bind (wpAny_pure ?_)))
 refine wpAny_bind (wpAny_setEpoch_of h1 h3 hf ?_)
 refine wpAny_holding (wpAny_bind (zGj gb ga (λc hc=>(mem_singleton.mp hc) ▸ ⟨ka,ga⟩) hn λes' h0 hel' hp' sb0 ga0=>?_))
 rw [<- forIn_toList]
 have nd':(es'.toList.map λe=>dec e.2).Nodup:=hp'.nodup_iff.mpr ndb
 have ln':es'.toList.length = kb.length:=by rw [<- hp'.length_eq,length_map]
 refine wpAny_bind (wpAny_mono (wpAny_forIn_list (β:=Unit) _ (λl _ s'=>∃ h2 kr,s' = { s with heap:=h2 } /\ SameBut r s.heap h2 /\ Good knd dec (yM w) h2 r kr /\ ElemsOf knd l /\ (l.map λe=>dec e.2).Nodup /\ kr.length + l.length <= 127 /\ ∀ k,((k ∈ kr /\ k ∉ l.map λe=>dec e.2) \/ (k ∉ kr /\ k ∈ l.map λe=>dec e.2)) ↔ ((k ∈ ka /\ k ∉ kb) \/ (k ∉ ka /\ k ∈ kb))) (λ_ s'=>∃ h2 kr,s' = { s with heap:=h2 } /\ SameBut r s.heap h2 /\ Good knd dec (yM w) h2 r kr /\ ∀ k,k ∈ kr ↔ ((k ∈ ka /\ k ∉ kb) \/ (k ∉ ka /\ k ∈ kb))) ?turn ?fin es'.toList () ⟨h0,ka,rfl,sb0,ga0,hel',nd',by omega,λk=>?_⟩) ?post (λ_ _ h=>h))
 case turn =>
  rintro ⟨hs',v⟩ l b' s' ⟨h2',kr,rfl,sb2,g2,hl2,ndl,hlen,hm⟩
  obtain ⟨⟨k,hk,hh⟩,hsc⟩:=hl2 _ mem_cons_self
  dsimp only at hk hh hsc ⊢
  subst hh
  have dv:dec v = k:=hdec k v hk
  rw [map_cons,nodup_cons] at ndl
  dsimp only at ndl
  rw [dv] at ndl
  have ndr:kr.Nodup:=by obtain ⟨_,_,_,_,_,_,_,_,_,nd,_⟩:=g2; exact nd
  have hlen:kr.length + (l.length + 1) <= 127:=hlen
  have hm':∀ c,((c ∈ kr /\ ¬ (c = k \/ c ∈ l.map λe=>dec e.2)) \/ (c ∉ kr /\ (c = k \/ c ∈ l.map λe=>dec e.2))) ↔ ((c ∈ ka /\ c ∉ kb) \/ (c ∉ ka /\ c ∈ kb)):=λc=>by
   have:=hm c
   rw [map_cons,mem_cons] at this
   dsimp only at this
   rw [dv] at this
   exact this
  refine wpAny_bind (wpAny_mono (Q:=λ_ s''=>∃ h4 kq,s'' = { s with heap:=h4 } /\ SameBut r s.heap h4 /\ Good knd dec (yM w) h4 r kq /\ kq.length + l.length <= 127 /\ ∀ c,c ∈ kq ↔ ((c ∈ kr /\ c ≠ k) \/ (c = k /\ k ∉ kr))) ?flip ?tail (λ_ _ h=>h))
  case flip =>
   refine wpAny_holding (wpAny_bind (zN8 (led:=yM w) (s:={ s with heap:=h2' }) hdec hk hsc g2 λh3' bb sb3 g3 hb=>?_))
   cases bb with
   | true =>
    have km:=hb.mp rfl
    simp only [Bool.not_true,Bool.false_eq_true,↓reduceIte]
    refine wpAny_pure ⟨h3',kr.erase k,rfl,sb2.trans sb3,g3,?_,λc=>?_⟩
    ·have:=List.length_erase_le (a:=k) (l:=kr)
     omega
    ·rw [ndr.mem_erase_iff]
     constructor
     ·rintro ⟨z1,z2⟩
      exact .inl ⟨z2,z1⟩
     ·rintro (⟨z1,z2⟩ | ⟨_,z2⟩)
      ·exact ⟨z2,z1⟩
      ·exact absurd km z2
   | false =>
    have km:k ∉ kr:=λz=>by have:=hb.mpr z; cases this
    rw [List.erase_of_not_mem km] at g3
    simp only [Bool.not_false,↓reduceIte]
    refine wpAny_bind (zOk (led:=yM w) (s:={ s with heap:=h3' }) hdec hk hsc g3 (Nat.lt_of_le_of_lt (show kr.length + 1 <= 127 by omega) (by decide)) λh4 b4 sb4 g4=>wpAny_pure ⟨h4,k :: kr,rfl,(sb2.trans sb3).trans sb4,?_,?_,λc=>?_⟩)
    ·rw [if_neg km] at g4
     exact g4
    ·rw [length_cons]; omega
    ·rw [mem_cons]
     constructor
     ·rintro (z | z)
      ·exact .inr ⟨z,km⟩
      ·exact .inl ⟨z,λq=>km (q ▸ z)⟩
     ·rintro (⟨z,_⟩ | ⟨z,_⟩)
      ·exact .inr z
      ·exact .inl z
  case tail =>
   rintro _ s'' ⟨h4,kq,rfl,sb4,g4,ln4,m4⟩
   refine wpAny_bind ?_
   unfold Builtin.Frozenset.unchanged
   refine wpAny_bind (wpAny_setEpoch_of (s:={ s with heap:=h4 }) (by show h4.get? b = _; rw [sb4.2 b hab]; exact h1) h3 hf ?_)
   simp only [bne_self_eq_false,Bool.false_eq_true,↓reduceIte]
   refine wpAny_pure (wpAny_pure ⟨h4,kq,rfl,sb4,g4,λe he=>hl2 e (mem_cons_of_mem _ he),ndl.2,ln4,λc=>?_⟩)
   rw [<- hm' c,m4]
   by_cases ck:c = k
   ·subst ck
    have nl:=ndl.1
    constructor
    ·rintro (⟨z | ⟨_,z⟩,_⟩ | ⟨_,z⟩)
     ·exact absurd rfl z.2
     ·exact .inr ⟨z,.inl rfl⟩
     ·exact absurd z nl
    ·rintro (⟨_,z⟩ | ⟨z,_⟩)
     ·exact absurd (.inl rfl) z
     ·exact .inl ⟨.inr ⟨rfl,z⟩,nl⟩
   ·simp only [ck,false_or,ne_eq,not_false_eq_true,and_true,false_and,or_false]
 case fin =>
  rintro b' s' ⟨h2',kr,rfl,sb2,g2,_,_,hlen,hm⟩
  refine ⟨h2',kr,rfl,sb2,g2,λk=>?_⟩
  rw [<- hm k]
  simp
 case post =>
  rintro b' s' ⟨h2',kr,rfl,sb2,g2,hm⟩
  exact wpAny_pure (h h2' kr sb2 g2 hm)
 ·rw [hp'.mem_iff]
theorem xor_ok (hdec:∀ k v,knd.is k v = true->dec v = k) (hn:∀ k v,knd.is k v = true->∀ b,v ≠ .ref b) (ga:Good knd dec (yM w) s.heap a ka) (gb:Good knd dec (yM w) s.heap b kb) (hl:ka.length <= 63) (hl':kb.length <= 63) {Q:Value->Shared->Prop}
  (h:∀ (h':Heap) (kr:List κ),Good knd dec (yM w) h' s.heap.objs.size kr->(∀ k,k ∈ kr ↔ ((k ∈ ka /\ k ∉ kb) \/ (k ∉ ka /\ k ∈ kb)))->(∀ c o,c < s.heap.objs.size->s.heap.get? c = some o->h'.get? c = some o)->Q (.ref s.heap.objs.size) { s with heap:=h' }) :
  wpAny (model prog w) A (binaryOp .BitXor (.ref a) (.ref b)) Q E s:=by
 have la:a < s.heap.objs.size:=by obtain ⟨o,_,_,_,h1,_⟩:=ga; exact lt_size h1
 have lb:b < s.heap.objs.size:=by obtain ⟨o,_,_,_,h1,_⟩:=gb; exact lt_size h1
 refine wpAny_binaryOp_same (op:=.BitXor) (T:="set") ga.type gb.type F.fills_set_xor F.slot_set_xor (wpAny_call_entry F.slot_set_xor ga.type zFl ?_ (F.args_set_xor_2 _ _))
 refine wpAny_bind (m:=Builtin.Frozenset.slot1 "__xor__" ⟨[.ref a,.ref b],[]⟩) ?_
 unfold Builtin.Frozenset.slot1 slotArgs
 refine wpAny_pure ?_
 dsimp only
 refine wpAny_bind (wpAny_bind (zGd ga.type ?_))
 refine zGd gb.type ?_
 simp only [Bool.not_true,Bool.false_eq_true,↓reduceIte]
 refine wpAny_bind (wpAny_pure (wpAny_bind ?_))
 refine wpAny_bind (m:=Builtin.Frozenset.baseOf a) (base_ok ga.type ?_)
 have up:∀ c o,s.heap.get? c = some o->(s.heap.push { cls:=.type "set",dict:=none,data:=.set #[] 0 (.fresh 0 0 (yM w)) }).get? c = some o:=λc o e=>get?_push_of_some _ e
 have gr1:Good knd dec (yM w) (s.heap.push { cls:=.type "set",dict:=none,data:=.set #[] 0 (.fresh 0 0 (yM w)) }) s.heap.objs.size []:=zF3 (get?_push_size _ rfl)
 have ga1:=ga.keep (up a)
 have gb1:=gb.keep (up b)
 have fr:(s.heap.push { cls:=.type "set",dict:=none,data:=.set #[] 0 (.fresh 0 0 (yM w)) }).get? s.heap.objs.size = some { cls:=.type "set",dict:=none,data:=.set #[] 0 (.fresh 0 0 (yM w)) }:=get?_push_size _ rfl
 generalize hp:s.heap.push { cls:=.type "set",dict:=none,data:=.set #[] 0 (.fresh 0 0 (yM w)) } = hq at up ga1 gb1 gr1 fr
 refine wpAny_bind ?_
 unfold Builtin.Frozenset.newFrom
 refine wpAny_bind (zM0 ?_)
 rw [hp]
 refine wpAny_bind (wpAny_pure (wpAny_bind (wpAny_holding (upd_ok (s:={ s with heap:=hq }) hdec _ hn (Nat.ne_of_lt lb) gr1 gb1 (λ_=>fr) (by simp only [List.length_nil]; omega) λh2 ks sb g2 m=>?_))))
 refine wpAny_pure (wpAny_bind (wpAny_pure ?_))
 have nd2:ks.Nodup:=by obtain ⟨_,_,_,_,_,_,_,_,_,nd,_⟩:=g2; exact nd
 have ndb:kb.Nodup:=by obtain ⟨_,_,_,_,_,_,_,_,_,nd,_⟩:=gb; exact nd
 have lk:ks.length = kb.length:=((perm_ext_iff_of_nodup nd2 ndb).mpr λk=>by rw [m k]; simp).length_eq
 refine wpAny_bind (wpAny_holding (xupd_ok (s:={ s with heap:=h2 }) hdec _ hn (Nat.ne_of_lt la) g2 (ga1.keep λo e=>by rw [sb.2 a (Nat.ne_of_lt la)]; exact e) (by omega) λh3 kr sb3 g3 m3=>wpAny_pure (wpAny_pure ⟨.ref s.heap.objs.size,rfl,λz=>Value.noConfusion z,h h3 kr g3 (λk=>?_) λc o hc e=>?_⟩)))
 ·rw [m3 k,m k]
  constructor
  ·rintro (⟨z1,z2⟩ | ⟨z1,z2⟩)
   ·exact .inr ⟨z2,z1.elim (λq=>by cases q) id⟩
   ·exact .inl ⟨z2,λq=>z1 (.inr q)⟩
  ·rintro (⟨z1,z2⟩ | ⟨z1,z2⟩)
   ·exact .inr ⟨λq=>q.elim (λq=>by cases q) z2,z1⟩
   ·exact .inl ⟨.inr z2,z1⟩
 ·rw [sb3.2 c (Nat.ne_of_lt hc),sb.2 c (Nat.ne_of_lt hc)]
  exact up c o e
end
end SetP
namespace L2
open PySem PySem.Spec PyProof.Rows SetP
section
variable {X:Cx}
def decS:Value->Str
 | .str k _=>k
 | _=>""
theorem zF1 (h:(PySem.strKind P w).is k v = true):∃ t,v = .str k t:=by
 cases v <;> simp [PySem.strKind,Value.isStrOf] at h
 subst h
 exact ⟨_,rfl⟩
theorem zN9:∀ k v,(PySem.strKind P w).is k v = true->decS v = k:=λk v h=>by
 obtain ⟨t,rfl⟩:=zF1 h
 rfl
abbrev TSS:=St->Hp->(List Str->Hp->Prop)->Prop
def SsP (X:Cx) (pins:List (Addr × Obj)) (σ:St) (Q:List Str->Hp->Prop) (v:Value) (s':Shared):Prop :=
 ∃ (a:Addr) (ks:List Str) (H':Hp),v = .ref a /\ Inv X pins σ H' s' /\ Good (PySem.strKind X.prog X.w) decS (yM X.w) s'.heap a ks /\ FpOk X pins H' a /\ Q ks H'
def PSS (X:Cx) (e:Expr) (t:TSS):Prop:=∀ (pins:List (Addr × Obj)) (s:Shared) (σ:St) (H:Hp) (Q:List Str->Hp->Prop),Inv X pins σ H s->t σ H Q->wpAny (model X.prog X.w) X.A (eval e X.env) (SsP X pins σ Q) X.xe s
theorem zL7:∀ {ns:List Str} {its:List Value},StrsAre its ns->∀ {i:Nat} {v:Value},its[i]? = some v->∃ t,v = .str (ns.getD i "") t
 | _,_,.nil,i,v,h=>by simp at h
 | _,_,.cons n t r,0,v,h=>by simp at h; subst h; exact ⟨t,rfl⟩
 | _,_,.cons n t r,i + 1,v,h=>by
  obtain ⟨t',e⟩:=zL7 r (by simpa using h)
  exact ⟨t',e⟩
theorem zJf:∀ {ns:List Str} {its:List Value},StrsAre its ns->its.length = ns.length
 | _,_,.nil=>rfl
 | _,_,.cons n t r=>congrArg (· + 1) (zJf r)
def tSetT (K:PySem.W.Frag) (te:TE):TSS:=λσ H Q=>xF te tNil σ H λvs H1=>∃ (p:Addr) (ns:List Str),vs = [.ref p] /\ SqL K H1 p (ns.map V.str) /\ ns.length < 4000 /\ ∀ ks:List Str,ks.Nodup->(∀ z,z ∈ ks ↔ z ∈ ns)->Q ks H1
theorem zMg (K:PySem.W.Frag) (hc:X.calm = true) (hm:X.mg "set" = none) (he:PE X e te) (hK:X.K = K:=by rfl) (hg:Gl X "set":=by rfl) (hs:starEach [e] X.env = [(false,eval e X.env)]:=by rfl):PSS X (.Call (.Name "set" p) [e] [] pos) (tSetT K te):=by
 subst hK
 intro pins s σ H Q I h
 refine wpAny_Call_Name_kw (zB0 I hg hm bt_set ?_)
 have ha:PA X [e] (xF te tNil):=zA he zE hs
 refine PyProof.Rows.callWith_type1 (thn (ha pos pins s σ H _ I h) λus s1 ⟨vs,H1,I1,r1,q1⟩=>?_) hs rfl
 obtain ⟨l,ns,e1,hq,h4,q⟩:=q1
 subst e1
 cases r1 with
 | cons r rr =>
  cases rr
  cases r
  obtain ⟨its,rv,pl,hz⟩:=I1.list hq
  have hi:StrsAre its ns:=Ts.strs_of rv
  have hl:=zJf hi
  refine zQc (knd:=PySem.strKind X.prog X.w) (dec:=decS) zN9 (λi=>ns.getD i "") (I1.ok.hd hc) pl.isList (λi v hv=>?_) (by rw [size_toArray,hl]; show ns.length + 1 < 4096; omega) λh' tk g k=>?_
  ·obtain ⟨t,rfl⟩:=zL7 hi (by rw [getElem?_toArray] at hv; exact hv)
   exact ⟨PySem.strKind_is _ _ _ _,rfl⟩
  ·have I2:=I1.kept (h':=h') (t':=tk) λb o e=>k b o (lt_size e) e
   obtain ⟨_,_,_,_,_,_,_,_,_,nd,_⟩:=id g
   refine ⟨_,_,H1,rfl,I2,g,I1.fpOk (Nat.le_refl _) (I1.hok.fresh (Nat.le_refl _)),q _ nd λz=>?_⟩
   rw [zM5,size_toArray,hl]
   constructor
   ·rintro ⟨j,hj,rfl⟩
    rw [getD_eq_getElem?_getD,List.getElem?_eq_getElem hj]
    exact getElem_mem hj
   ·intro hz
    obtain ⟨j,hj,e⟩:=List.getElem_of_mem hz
    exact ⟨j,hj,by rw [getD_eq_getElem?_getD,List.getElem?_eq_getElem hj]; exact e⟩
def tXorT (ta tb:TSS):TSS:=λσ H Q=>ta σ H λks H1=>ks.length < 64 /\ tb σ H1 λjs H2=>js.length < 64 /\ ∀ rs:List Str,rs.Nodup->(∀ z,z ∈ rs ↔ ((z ∈ ks /\ z ∉ js) \/ (z ∉ ks /\ z ∈ js)))->Q rs H2
theorem pss_xor (ha:PSS X a ta) (hb:PSS X b tb):PSS X (.BinOp a .BitXor b pos) (tXorT ta tb):=by
 intro pins s σ H Q I h
 refine wpAny_BinOp (thn (ha pins s σ H _ I h) λu s1 ⟨p,ks,H1,e,I1,g,fo,hl,h1⟩=>?_)
 subst e
 obtain ⟨o,es,ep,t,go,gx,gd,_⟩:=id g
 have I1':=I1.pinned (fp:=[p]) (λb hb=>by rw [mem_singleton.mp hb]; exact fo) (λb hb=>by
  rw [mem_singleton.mp hb]
  exact ⟨o,go,λv z=>by rw [gd] at z; cases z⟩)
 refine thn (hb _ s1 σ H1 _ I1' h1) λu2 s2 ⟨p2,js,H2,e2,I2,g2,fo2,hl2,q2⟩=>?_
 subst e2
 have pm:(p,o) ∈ X.pn ++ (pins ++ zEp [p] s1.heap):=mem_append_right _ (mem_append_right _ (uV (mem_singleton.mpr rfl) go))
 have kp:s2.heap.get? p = some o:=(I2.pin (p,o) pm).1
 have g1:=g.keep (h':=s2.heap) λo' e'=>by rw [go] at e'; cases e'; exact kp
 have I3:=I2.unpinned
 refine xor_ok zN9 (λk v hk b z=>?_) g1 g2 (Nat.le_of_lt_succ hl) (Nat.le_of_lt_succ hl2) λh' kr g3 m k=>?_
 ·obtain ⟨t,rfl⟩:=zF1 hk
  cases z
 ·have I4:=I3.kept (h':=h') (t':=s2.toks) λb o e=>k b o (lt_size e) e
  obtain ⟨_,_,_,_,_,_,_,_,_,nd,_⟩:=id g3
  exact ⟨_,kr,H2,rfl,I4,g3,I3.fpOk (Nat.le_refl _) (I3.hok.fresh (Nat.le_refl _)),q2 kr nd m⟩
def zQo (ts:TSS):TE:=λσ H Q=>ts σ H λks H1=>ks.length < 64 /\ ∀ l:Addr,H1 l = none->Q (.ref l) (upd H1 l (.lst ((Ts.ssort ks).map V.str)))
theorem zI7:∀ {vs:List Value},(∀ v ∈ vs,∃ k,(PySem.strKind P w).is k v = true)->StrsAre vs (vs.map decS)
 | [],_=>.nil
 | v :: vs,h=>by
  obtain ⟨k,hk⟩:=h v mem_cons_self
  obtain ⟨t,rfl⟩:=zF1 hk
  exact .cons k t (zI7 (P:=P) (w:=w) λu hu=>h u (mem_cons_of_mem _ hu))
theorem zKj {xs:List Str} (p:xs.Perm ks) (h:sortedS xs = true):xs = Ts.ssort ks:=Ts.perm_uniq (r:=λa b=>Ts.sleb a b = true) (λ_ _=>Ts.sleb_anti) (p.trans (Ts.ssort_perm ks).symm) (Ts.sortedS_pw h) (Ts.ssort_pw ks)
theorem zLx (hc:X.calm = true) (I:Inv X pins σ H s) (g:Good (PySem.strKind X.prog X.w) decS (yM X.w) s.heap a ks) (h64:ks.length < 64)
  (q:∀ l:Addr,H l = none->Q (.ref l) (upd H l (.lst ((Ts.ssort ks).map V.str)))):wpAny (model X.prog X.w) X.A (call (.builtin "sorted") [.ref a]) (EP X pins σ Q) X.xe s:=by
 obtain ⟨o,es,ep,t,ho,hx,hd,hel,hp,nd,hb,hf,tb⟩:=g
 have hsz:es.size = ks.length:=by rw [<- hp.length_eq,length_map,length_toList]
 refine PySem.Calls.call_function_entry kind_sorted plain_sorted entry_sorted (args_sorted1 _) ?_
 unfold Builtin.«sorted»
 refine wpAny_bind (m:=checkCount "sorted" 1 1 _) (wpAny_pure ?_)
 refine wpAny_bind (zIw (A:=X.A.in1) (I.ok.hd hc) ho hx hd hf tb (fits_of_scanBound hb) λh' tk d acc hkeep hacc=>?_)
 have I':Inv X pins σ H { s with heap:=h',toks:=tk,drawn:=d }:=(I.kept (h':=h') (t':=tk) hkeep).drew d
 have hI:StrsAre acc (acc.map decS):=zI7 (P:=X.prog) (w:=X.w) λv hv=>by
  obtain ⟨e,he,rfl⟩:=mem_map.mp (hacc.mem_iff.mp hv)
  obtain ⟨⟨k,hk,_⟩,_⟩:=hel e he
  exact ⟨k,hk⟩
 have hpk:(acc.map decS).Perm ks:=by
  refine (hacc.map decS).trans ?_
  rw [map_map]
  exact hp
 have hal:acc.length = ks.length:=by rw [<- hpk.length_eq,length_map]
 have hsl:acc.length <= sizeLine:=by rw [hal]; exact Nat.le_of_lt (Nat.lt_trans h64 (by decide))
 refine wpAny_bind (wpAny_newList ?_ hsl)
 have hoL:(h'.push (seqObj "list" acc.toArray 0)).get? h'.objs.size = some (seqObj "list" acc.toArray 0):=get?_push_size _ rfl
 refine wpAny_bind (wpAny_holding (wpAny_call_entry slot_list_sort ⟨_,hoL,rfl⟩ entry_list_sort (list_sort_treeK strKind_oneLt hoL hI.keysOf (λv₁ v₂ rest e=>keyKind_strs (by rw [<- e]; exact hI)) (by omega) λst' sp sh=>⟨_,rfl,?_⟩) (args_list_sort _)))
 obtain ⟨ss',a1,a2,a3⟩:=sorted_out_str hI sp sh
 refine wpAny_pure ⟨_,rfl,?_⟩
 obtain ⟨e,he⟩:=sortedHeap_at (out:=(arrOf st').map (·.2)) hoL
 have eu:=zKj (a2.trans hpk) a3
 rw [eu] at a1
 refine ⟨.ref h'.objs.size,_,I'.laid (t':=tk) (o:=.lst ((Ts.ssort ks).map V.str)) (λb ob w=>?_) (Nat.le_refl _) ?_,rfl,q _ (I'.hok.fresh (Nat.le_refl _))⟩
 ·have hb:h'.get? b = some ob:=w
  have hlt:=lt_size hb
  rw [sortedHeap_old (Nat.ne_of_lt hlt) (by rw [size_push']; exact Nat.lt_succ_of_lt hlt),Heap.get?_push_ne _ _ _ (Nat.ne_of_lt hlt)]
  exact hb
 ·refine ⟨?_,((arrOf st').map (·.2)).toList,e,Ts.vals_of_strs a1,?_⟩
  ·rw [length_map,(Ts.ssort_perm ks).length_eq]; omega
  ·rw [toArray_toList]; exact he
theorem zMm (hc:X.calm = true) (hm:X.mg "sorted" = none) (he:PSS X e ts) (hg:Gl X "sorted":=by rfl) (hs:starEach [e] X.env = [(false,eval e X.env)]:=by rfl):PE X (.Call (.Name "sorted" p) [e] [] pos) (zQo ts):=by
 intro pins s σ H Q I h
 refine wpAny_Call_Name_kw (zB0 I hg hm (by decide +kernel:bootBuiltins "sorted" = some (.builtin "sorted")) ?_)
 refine PyProof.Rows.callWith_builtin1 (Q:=_) ?_ hs rfl
 rw [hs]
 show wpAny _ _ (spliced ((false,eval e X.env) :: backTo pos [])) _ _ s
 refine Calls.spliced_cons (thn (he pins s σ H _ I h) λu s1 ⟨a,ks,H1,e1,I1,g,fo,h64,q⟩=>?_)
 subst e1
 refine Calls.spliced_nil ?_
 exact zLx hc I1 g h64 q
end
end L2
namespace Ts
open PySem L2
def sxor (ns ms:List Str):List Str:=ssort (ns.filter (λz=>!decide (z ∈ ms)) ++ ms.filter λz=>!decide (z ∈ ns))
def zLu (ns ms:List Str):Option (List Str):=if ns.length + ms.length < 64 /\ ns.Nodup /\ ms.Nodup then some (sxor ns ms) else none
theorem zM3 {α:Type} [DecidableEq α] {ns ms:List α} {z:α}:z ∈ ns.filter (λz=>!decide (z ∈ ms)) ++ ms.filter (λz=>!decide (z ∈ ns)) ↔ ((z ∈ ns /\ z ∉ ms) \/ (z ∉ ns /\ z ∈ ms)):=by
 rw [mem_append,mem_filter,mem_filter]
 simp only [Bool.not_eq_true',decide_eq_false_iff_not]
 constructor
 ·rintro (h | h)
  ·exact .inl h
  ·exact .inr ⟨h.2,h.1⟩
 ·rintro (h | h)
  ·exact .inl h
  ·exact .inr ⟨h.2,h.1⟩
theorem xor_len {α:Type} [DecidableEq α] (ns ms:List α):(ns.filter (λz=>!decide (z ∈ ms)) ++ ms.filter (λz=>!decide (z ∈ ns))).length <= ns.length + ms.length:=by
 rw [length_append]
 have:=length_filter_le (λz=>!decide (z ∈ ms)) ns
 have:=length_filter_le (λz=>!decide (z ∈ ns)) ms
 omega
section
variable {K:PySem.W.Frag} {B:Bs} {sl:SL K} {md:Md} {t u:TE}
theorem zIu (h:Ex B sl .hp t m) (h':Ex B sl .hp u m'):Eo B sl md (zQo (tXorT (tSetT K t) (tSetT K u))) (m.bind λa=>m'.bind λb=>zLu a b):=λc hc F O H σ Q s k=>by
 cases m with
 | none=>cases hc
 | some ns =>
  cases m' with
  | none=>cases hc
  | some ms =>
   have hc:zLu ns ms = some c:=hc
   unfold zLu at hc
   split at hc
   case isFalse=>cases hc
   rename_i hl
   obtain ⟨hl,n1,n2⟩:=hl
   cases hc
   refine h ns rfl F O H σ _ s λv F1 H1 g1 r1=>?_
   obtain ⟨p,vs,rfl,z1,z2⟩:=r1
   have z3:vs = ns.map V.str:=A2.eq_map z2
   subst z3
   refine ⟨p,ns,rfl,SqL.of z1,by omega,λks nd hm=>⟨?_,?_⟩⟩
   ·rw [((perm_ext_iff_of_nodup nd n1).mpr hm).length_eq]; omega
   refine h' ms rfl F1 O H1 σ _ (s.grow g1) λv F2 H2 g2 r2=>?_
   obtain ⟨p',vs',rfl,y1,y2⟩:=r2
   have y3:vs' = ms.map V.str:=A2.eq_map y2
   subst y3
   have ndx:(ns.filter (λz=>!decide (z ∈ ms)) ++ ms.filter λz=>!decide (z ∈ ns)).Nodup:=by
    rw [nodup_append]
    refine ⟨n1.filter _,n2.filter _,λa ha b hb e=>?_⟩
    have h1:=(mem_filter.mp ha).2
    have h2:=(mem_filter.mp hb).1
    rw [<- e] at h2
    simp [h2] at h1
   refine ⟨p',ms,rfl,SqL.of y1,by omega,λjs nd' hm'=>⟨?_,λrs ndr hr=>?_⟩⟩
   ·rw [((perm_ext_iff_of_nodup nd' n2).mpr hm').length_eq]; omega
   ·have pr:rs.Perm (ns.filter (λz=>!decide (z ∈ ms)) ++ ms.filter λz=>!decide (z ∈ ns)):=(perm_ext_iff_of_nodup ndr ndx).mpr λz=>by rw [hr,hm,hm',zM3]
    refine ⟨by rw [pr.length_eq]; exact Nat.lt_of_le_of_lt (xor_len ns ms) hl,λl hn=>?_⟩
    have e:ssort rs = sxor ns ms:=perm_uniq (r:=λa b=>sleb a b = true) (λ_ _=>sleb_anti) (((ssort_perm rs).trans pr).trans (ssort_perm _).symm) (ssort_pw rs) (ssort_pw _)
    rw [e]
    exact k l _ F2 H2 (g1.trans g2) hn (A2.of_map (f:=V.str) (λ_=>rfl) _)
end
section
variable {K:PySem.W.Frag} {B:Bs} {sl:SL K} {md:Md} {t:TE}
instance:Rp K Key:=⟨λ_ v k=>v = kV k,λ_ h=>h⟩
instance:Nn K Key:=⟨λ{_ v a} h=>by cases a <;> (intro e; rw [e] at h; cases h)⟩
instance:Sc K Key:=⟨kV,Iff.rfl,λ{a b} h=>by cases a <;> cases b <;> cases h <;> rfl⟩
def keyI:Key->Option Int
 | .inl i=>some i
 | .inr _=>none
def keyS:Key->Option Str
 | .inl _=>none
 | .inr s=>some s
theorem ex_kI (h:Ex B sl md t m):Ex B sl md t (m.bind λa=>some (Sum.inl a:Key)):=λc hc F O H σ Q s k=>by
 cases m with
 | none=>cases hc
 | some a=>cases hc; exact h a rfl F O H σ Q s k
theorem ex_kS (h:Ex B sl md t m):Ex B sl md t (m.bind λa=>some (Sum.inr a:Key)):=λc hc F O H σ Q s k=>by
 cases m with
 | none=>cases hc
 | some a=>cases hc; exact h a rfl F O H σ Q s k
theorem zNu (h:Ex B sl md t m):Ex B sl md t (m.bind keyI):=λc hc F O H σ Q s k=>by
 cases m with
 | none=>cases hc
 | some a =>
  cases a with
  | inl i=>cases hc; exact h _ rfl F O H σ Q s k
  | inr i=>cases hc
theorem zNt (h:Ex B sl md t m):Ex B sl md t (m.bind keyS):=λc hc F O H σ Q s k=>by
 cases m with
 | none=>cases hc
 | some a =>
  cases a with
  | inl i=>cases hc
  | inr i=>cases hc; exact h _ rfl F O H σ Q s k
end
end Ts
namespace L2
open PySem PySem.Spec PyProof.Rows
section
variable {X:Cx} {pins:List (Addr × Obj)} {σ:St} {H:Hp} {s:Shared}
end
section
variable {X:Cx} {tg:Expr}
end
end L2
namespace Ts
open PySem L2
structure Dz (α:Type) where
 kv:List (Key × α)
section
variable {K:PySem.W.Frag} {α:Type} [Rp K α] {B:Bs} {sl:SL K} {md:Md} {t t2:TE} {u:TS} {S:Type}
instance:Rp K (Dz α):=⟨λF v d=>∃ p ks o,v = .ref p /\ F p = some (.frz o (.dK ks)) /\ A2 (DR K F) ks d.kv,λs ⟨p,ks,o,h1,h2,h3⟩=>⟨p,ks,o,h1,s _ _ h2,h3.imp λ_ _ z=>⟨z.1,Rp.mono s z.2⟩⟩⟩
end
end Ts
namespace L2
open PySem PySem.Spec PyProof.Rows
section
variable {X:Cx}
end
end L2
namespace Ts
open PySem L2
section
variable {K:PySem.W.Frag} {α:Type} [Rp K α] {B:Bs} {sl:SL K} {md:Md} {t t2 te:TE} {u:TS} {S:Type}
instance:Nn K (Dz α):=⟨λ⟨_,_,_,h,_⟩=>by rw [h]; intro e; cases e⟩
structure LNe where
 u:Unit
instance:Rp K LNe:=⟨λF v _=>∃ p vs,v = .ref p /\ F p = some (.lst vs) /\ vs ≠ [],λs ⟨p,vs,h1,h2,h3⟩=>⟨p,vs,h1,s _ _ h2,h3⟩⟩
end
structure Rws (α:Type) where
 xss:List (List α)
abbrev Rr:=List (Addr × List V)
def rrO (p:Addr) (rs:Rr):Own:=(p,.lst (rs.map λr=>V.ref r.1)) :: rs.map λr=>(r.1,HO.lst r.2)
def RrOk (K:PySem.W.Frag) {α:Type} [Rp K α] (R:Hp) (rs:Rr) (xss:List (List α)):Prop:=A2 (λ(r:Addr × List V) (row:List α)=>A2 (rp K R) r.2 row) rs xss
section
variable {K:PySem.W.Frag} {α:Type} [Rp K α]
theorem zFo:∀ {rs:Rr} {xss:List (List α)},RrOk K R rs xss->(∀ r ∈ rs,R r.1 = some (.lst r.2))->A2 (rp K R) (rs.map λr=>V.ref r.1) xss
 | [],[],_,_=>trivial
 | r :: rs,row :: xss,h,m=>⟨⟨r.1,r.2,rfl,m r mem_cons_self,h.1⟩,zFo h.2 λq hq=>m q (mem_cons_of_mem _ hq)⟩
 | [],_ :: _,h,_=>h.elim
 | _ :: _,[],h,_=>h.elim
theorem RrOk.mono {R R':Hp} (s:Same R R') {rs:Rr} {xss:List (List α)} (h:RrOk K R rs xss):RrOk K R' rs xss:=A2.imp (λ_ _ z=>z.imp λ_ _=>Rp.mono s) h
theorem zEh (h:r ∈ rs):(r.1,HO.lst r.2) ∈ rrO p rs:=mem_cons_of_mem _ (mem_map.mpr ⟨r,h,rfl⟩)
instance:Ob K (Rws α) where
 β:=List (List α)
 rpβ:=inferInstance
 ro R v x Oc:=∃ p rs,v = .ref p /\ Oc = rrO p rs /\ RrOk K R rs x.xss
 mono s:=λ⟨p,rs,h1,h2,h3⟩=>⟨p,rs,h1,h2,h3.mono s⟩
 val x:=x.xss
 frz:=λ⟨p,rs,h1,h2,h3⟩ m=>by
  subst h2
  exact ⟨p,_,h1,m _ mem_cons_self,zFo h3 λr hr=>m (r.1,.lst r.2) (zEh hr)⟩
instance:Rp K (Rws α):=⟨λF v x=>∃ (p:Addr) (rs:Rr),v = .ref p /\ (∀ y ∈ rrO p rs,F y.1 = some y.2) /\ (List.map (λy:Addr × HO=>y.1) (rrO p rs)).Nodup /\ RrOk K F rs x.xss,λs ⟨p,rs,h1,h2,h3,h4⟩=>⟨p,rs,h1,λy hy=>s _ _ (h2 y hy),h3,h4.mono s⟩⟩
instance:Nn K (Rws α):=⟨λ⟨_,_,h,_⟩=>by rw [h]; intro e; cases e⟩
theorem rws_ll {F:Hp} {v:V} {x:Rws α} (h:rp K F v x):rp K F v x.xss:=by
 obtain ⟨p,rs,h1,h2,h3,h4⟩:=h
 exact ⟨p,_,h1,h2 _ mem_cons_self,zFo h4 λr hr=>h2 (r.1,.lst r.2) (zEh hr)⟩
theorem zCy (p:Addr) (rs:Rr):(rrO p rs).map (·.1) = p :: rs.map (·.1):=by
 unfold rrO
 rw [map_cons,map_map]
 rfl
end
section
variable {K:PySem.W.Frag} {B:Bs} {sl sl2:SL K} {F H G:Hp} {O:Own} {σ:St} {md:Md} {te t2 t3:TE} {t u:TS} {al:Bool}
theorem At.setC {β:Type} [Ob K β] {a:β} (z:At B sl F O H σ) (hs:sl[i]? = some (.ob n a)) (hh:sl.all (λs=>!isHs s) = true) :
  ∃ Oc v,σ[i]? = some (some v) /\ Ob.ro K (reg B F H (mdb n)) v a Oc /\ (∀ x ∈ Oc,H x.1 = some x.2 /\ F x.1 = none /\ B.H0 x.1 = none) /\ (Oc.map (·.1)).Nodup /\ (∀ x ∈ Oc,x ∈ O) /\
   ∀ (a':β) (Oc':Own) (H':Hp),Ob.ro K (reg B F H (mdb n)) v a' Oc'->(Oc'.map (·.1)).Nodup->(∀ b u,H b = some u->(∀ x ∈ Oc,x.1 ≠ b)->H' b = some u)->(∀ x ∈ Oc',H' x.1 = some x.2 /\ ((∃ y ∈ Oc,y.1 = x.1) \/ H x.1 = none))->∃ O',At B (sl.set i (.ob n a')) F O' H' σ:=by
 obtain ⟨k,z0⟩:=z
 obtain ⟨O1,Oc,O2,v,rfl,h1,h2,h3⟩:=z0.ob_at hs
 have inO:∀ x ∈ Oc,x ∈ O1 ++ (Oc ++ O2):=λx hx=>mem_append_right _ (mem_append_left _ hx)
 have nd:=k.nd
 rw [map_append,map_append,nodup_append] at nd
 obtain ⟨nd1,nd2,nd3⟩:=nd
 rw [nodup_append] at nd2
 obtain ⟨nd4,nd5,nd6⟩:=nd2
 refine ⟨Oc,v,h1,h2,λx hx=>⟨(k.fo x (inO x hx)).2.2,(k.fo x (inO x hx)).1,(k.fo x (inO x hx)).2.1⟩,nd4,inO,λa' Oc' H' r nd' keep cells=>⟨O1 ++ (Oc' ++ O2),?_,?_⟩⟩
 ·have old:∀ x ∈ Oc',F x.1 = none /\ B.H0 x.1 = none:=λx hx=>by
   rcases (cells x hx).2 with ⟨y,hy,e⟩ | e
   ·rw [<- e]; exact ⟨(k.fo y (inO y hy)).1,(k.fo y (inO y hy)).2.1⟩
   ·exact ⟨k.fh.free e,k.h0.free e⟩
  have off1:∀ x ∈ O1,∀ y ∈ Oc,y.1 ≠ x.1:=λx hx y hy e=>nd3 x.1 (mem_map.mpr ⟨x,hx,rfl⟩) y.1 (mem_append_left _ (mem_map.mpr ⟨y,hy,rfl⟩)) e.symm
  have off2:∀ x ∈ O2,∀ y ∈ Oc,y.1 ≠ x.1:=λx hx y hy e=>nd6 y.1 (mem_map.mpr ⟨y,hy,rfl⟩) x.1 (mem_map.mpr ⟨x,hx,rfl⟩) e
  have in1:∀ x ∈ O1,x ∈ O1 ++ (Oc ++ O2):=λx hx=>mem_append_left _ hx
  have in2:∀ x ∈ O2,x ∈ O1 ++ (Oc ++ O2):=λx hx=>mem_append_right _ (mem_append_right _ hx)
  refine ⟨λb o e=>?_,λb o e=>?_,k.fa,λx hx=>?_,?_⟩
  ·exact keep b o (k.fh b o e) λx hx q=>by rw [<- q,(k.fo x (inO x hx)).1] at e; cases e
  ·exact keep b o (k.h0 b o e) λx hx q=>by rw [<- q,(k.fo x (inO x hx)).2.1] at e; cases e
  ·rcases mem_append.mp hx with hx | hx
   ·obtain ⟨a1,a2,a3⟩:=k.fo x (in1 x hx)
    exact ⟨a1,a2,keep _ _ a3 (off1 x hx)⟩
   ·rcases mem_append.mp hx with hx | hx
    ·exact ⟨(old x hx).1,(old x hx).2,(cells x hx).1⟩
    ·obtain ⟨a1,a2,a3⟩:=k.fo x (in2 x hx)
     exact ⟨a1,a2,keep _ _ a3 (off2 x hx)⟩
  ·have fresh:∀ x ∈ Oc',∀ y,y ∈ O1 \/ y ∈ O2->y.1 ≠ x.1:=λx hx y hy e=>by
    rcases (cells x hx).2 with ⟨w,hw,q⟩ | q
    ·rcases hy with hy | hy
     ·exact off1 y hy w hw (q.trans e.symm)
     ·exact off2 y hy w hw (q.trans e.symm)
    ·have:H y.1 = some y.2:=hy.elim (λhy=>(k.fo y (in1 y hy)).2.2) λhy=>(k.fo y (in2 y hy)).2.2
     rw [e,q] at this
     cases this
   rw [map_append,map_append,nodup_append,nodup_append]
   refine ⟨nd1,⟨nd',nd5,λa ha b hb e=>?_⟩,λa ha b hb e=>?_⟩
   ·obtain ⟨x,hx,rfl⟩:=mem_map.mp ha
    obtain ⟨y,hy,rfl⟩:=mem_map.mp hb
    exact fresh x hx y (.inr hy) e.symm
   ·obtain ⟨y,hy,rfl⟩:=mem_map.mp ha
    rcases mem_append.mp hb with hb | hb
    ·obtain ⟨x,hx,rfl⟩:=mem_map.mp hb
     exact fresh x hx y (.inl hy) e
    ·exact nd3 _ ha _ (mem_append_right _ hb) e
 ·have zz:=h3 (.ob n a') (some v) Oc' λ_ _ _ y=>.ob r y
  rw [uJ h1] at zz
  refine zz.mut (λb w e=>?_) (zCu rfl hh)
  unfold lo at e ⊢
  split at e
  ·cases e
  ·rename_i hb
   simp only [Bool.or_eq_true,any_eq_true,not_or,not_exists,not_and,beq_iff_eq] at hb
   have nOc:∀ x ∈ Oc,x.1 ≠ b:=λx hx=>hb.2 x (inO x hx)
   rw [if_neg]
   ·exact keep b w e nOc
   ·simp only [Bool.or_eq_true,any_eq_true,not_or,not_exists,not_and,beq_iff_eq]
    refine ⟨hb.1,λx hx q=>?_⟩
    rcases mem_append.mp hx with hx | hx
    ·exact hb.2 x (mem_append_left _ hx) q
    ·rcases mem_append.mp hx with hx | hx
     ·rcases (cells x hx).2 with ⟨y,hy,e2⟩ | e2
      ·exact nOc y hy (e2.trans q)
      ·rw [q,e] at e2; cases e2
     ·exact hb.2 x (mem_append_right _ (mem_append_right _ hx)) q
section
variable {α:Type} [Rp K α]
theorem zF7 {n:Bool} {x:Rws α} (i:Nat) (hs:sl[i]? = some (.ob n x)):Ex B sl .hp (tVar i) (some x.xss):=λa' ha F O H σ Q s k=>by
 cases ha
 obtain ⟨O1,Oc,O2,v,e,h1,⟨p,rs,rfl,rfl,h2⟩,_⟩:=s.2.ob_at hs
 have inO:∀ x ∈ rrO p rs,H x.1 = some x.2:=λx hx=>(s.1.fo x (by rw [e]; exact mem_append_right _ (mem_append_left _ hx))).2.2
 exact ⟨_,h1,k _ F H (.refl s.1) ⟨p,_,rfl,inO _ mem_cons_self,zFo (h2.mono (zAs s.1 n)) λr hr=>inO (r.1,.lst r.2) (zEh hr)⟩⟩
theorem zO3 (i:Nat) (hs:sl[i]? = some s) (ho:isOw s = false):Sn B sl (tAsg (tLst tNil) (zAd i)) (λx:Rws α=>sl.set i (.ob true x)) (some (Rws.mk [])):=λa ha G D σ H s k=>by
 cases ha
 obtain ⟨F,O,g,k0,z0⟩:=s
 refine ⟨Nat.zero_le _,λp hp=>k _ _ ?_⟩
 obtain ⟨O1,O2,rfl,z'⟩:=z0.own (s':=.ob true (Rws.mk ([]:List (List α)))) (x:=some (.ref p)) (c:=(p,.lst [])) (λ_ _ _ z=>SlotsOk.ob (Oc:=rrO p []) (show ∃ (q:Addr) (rs:Rr),V.ref p = .ref q /\ rrO p [] = rrO q rs /\ RrOk K _ rs ([]:List (List α)) from ⟨p,[],rfl,rfl,trivial⟩) z) hs ho
 exact ⟨F,_,g,k0.add hp,z'.mono (.refl _) (zNb hp) (same_new hp _)⟩
def zGv (x:Rws α) (ys:List α):Option (Rws α):=if x.xss.length < cap then some (Rws.mk (x.xss ++ [ys])) else none
theorem rr_snoc {R:Hp} {rs:Rr} {xss:List (List α)} {q:Addr} {vs:List V} {ys:List α} (h:RrOk K R rs xss) (r:A2 (rp K R) vs ys):RrOk K R (rs ++ [(q,vs)]) (xss ++ [ys]):=A2.snoc h r
theorem zO4 {n:Bool} {x:Rws α} {m:Option (List α)} (i:Nat) (hs:sl[i]? = some (.ob n x)) (hh:sl.all (λs=>!isHs s) = true) (h:Eo B sl (mdb n) te m) :
  Sn B sl (zEf (tBM K "list" zBq (tVar i) (xF te tNil))) (λa=>sl.set i (.ob n a)) (m.bind λys=>zGv x ys):=λc hc G D σ H s k=>by
 cases m with
 | none=>cases hc
 | some ys =>
  have hc:zGv x ys = some c:=hc
  unfold zGv at hc
  split at hc
  case isFalse=>cases hc
  rename_i hl
  cases hc
  obtain ⟨F,O,g,z⟩:=s
  obtain ⟨Oc,v,h1,⟨p,rs,rfl,rfl,h2⟩,c1,_⟩:=z.setC hs hh
  refine ⟨_,h1,.inl ⟨rfl,_,SqL.of (c1 _ mem_cons_self).1⟩,h ys rfl F O H σ _ z λq vs F' H' gr hq r=>?_⟩
  have z1:=z.grow gr
  obtain ⟨Oc2,v2,h1',⟨p2,rs2,rfl,rfl,h2'⟩,c2,nd,_,up⟩:=z1.setC hs hh
  cases h1.symm.trans h1'
  have hp:=(c2 _ mem_cons_self).1
  have pq:p ≠ q:=λe=>by rw [<- e] at hq; rw [hq] at hp; cases hp
  have len:rs2.length = x.xss.length:=h2'.len
  refine ⟨p,_,.ref q,rfl,rfl,by rw [zO pq]; exact hp,zA0 (by rw [length_map,len]; exact hl),?_⟩
  have nd':((rrO p (rs2 ++ [(q,vs)])).map (·.1)).Nodup:=by
   rw [zCy] at nd ⊢
   rw [map_append,<- List.cons_append,nodup_append]
   refine ⟨nd,by simp,λa ha b hb e=>?_⟩
   rw [<- zCy] at ha
   obtain ⟨y,hy,rfl⟩:=mem_map.mp ha
   have:=(c2 y hy).1
   rw [e,mem_singleton.mp hb,hq] at this
   cases this
  have cells:∀ y ∈ rrO p (rs2 ++ [(q,vs)]),upd (upd H' q (.lst vs)) p (.lst (rs2.map (λr=>V.ref r.1) ++ [.ref q])) y.1 = some y.2 /\ ((∃ w ∈ rrO p rs2,w.1 = y.1) \/ H' y.1 = none):=λy hy=>by
   rcases mem_cons.mp hy with e | hy
   ·subst e
    exact ⟨by rw [zR,map_append]; rfl,.inl ⟨_,mem_cons_self,rfl⟩⟩
   ·obtain ⟨r',hr',rfl⟩:=mem_map.mp hy
    rcases mem_append.mp hr' with hr' | hr'
    ·have hc:=c2 _ (zEh (p:=p) hr')
     refine ⟨?_,.inl ⟨_,zEh hr',rfl⟩⟩
     have n1:r'.1 ≠ p:=λe=>by
      rw [zCy,nodup_cons] at nd
      exact nd.1 (e ▸ mem_map.mpr ⟨r',hr',rfl⟩)
     have n2:r'.1 ≠ q:=λe=>by have:=hc.1; rw [show r'.1 = q from e,hq] at this; cases this
     show upd _ _ _ r'.1 = _
     rw [zO n1,zO n2]
     exact hc.1
    ·obtain rfl:=mem_singleton.mp hr'
     exact ⟨by show upd _ _ _ q = _; rw [zO pq.symm,zR],.inr hq⟩
  obtain ⟨O',z'⟩:=up (Rws.mk (x.xss ++ [ys])) (rrO p (rs2 ++ [(q,vs)])) _ ⟨p,_,rfl,rfl,rr_snoc h2' r⟩ nd' (λb u e off=>by
   rw [zO λe2=>off _ mem_cons_self e2.symm,zO λe2=>by rw [e2,hq] at e; cases e]
   exact e) cells
  exact k _ _ ⟨F',O',g.trans gr.ff,z'⟩
theorem sb_retB {x:Rws α} (i:Nat) (hs:sl[i]? = some (.ob true x)):SB B sl (tSeq (tRet (tVar i)) u) false (some x):=λb hb G D σ H s k=>by
 cases hb
 obtain ⟨F,O,g,a⟩:=s
 obtain ⟨O1,Oc,O2,v,e,h1,⟨p,rs,rfl,rfl,h2⟩,_⟩:=a.2.ob_at hs
 have inO:∀ x ∈ rrO p rs,x ∈ O:=λx hx=>by rw [e]; exact mem_append_right _ (mem_append_left _ hx)
 refine ⟨_,h1,k _ H ⟨a.1.h0,p,rs,rfl,λy hy=>?_,?_,h2.mono (xG a.1.fh)⟩⟩
 ·obtain ⟨_,a2,a3⟩:=a.1.fo y (inO y hy)
  show dif H B.H0 y.1 = _
  rw [xA a2]; exact a3
 ·have nd:=a.1.nd
  rw [e,map_append,map_append,nodup_append] at nd
  exact (nodup_append.mp nd.2.1).1
end
end
section
variable {K:PySem.W.Frag} {B:Bs} {sl sl2:SL K} {F H G:Hp} {O:Own} {σ:St} {md:Md} {te t2 t3:TE} {t u:TS} {al:Bool} {α:Type} [Rp K α]
theorem A2.setL {γ δ:Type} {R:γ->δ->Prop} {x:γ} {y:δ} (r:R x y) {xs:List γ} {ys:List δ} (j:Nat) (h:A2 R xs ys):A2 R (xs.set j x) (ys.set j y):=A2.set r j h
theorem At.rowC {n:Bool} {x:Rws α} {i j:Nat} {row:List α} (z:At B sl F O H σ) (hs:sl[i]? = some (.ob n x)) (hh:sl.all (λs=>!isHs s) = true) (hj:x.xss[j]? = some row) :
  ∃ p q ps vs,σ[i]? = some (some (.ref p)) /\ H p = some (.lst ps) /\ ps[j]? = some (.ref q) /\ ps.length = x.xss.length /\ H q = some (.lst vs) /\ A2 (rp K (reg B F H (mdb n))) vs row /\ F q = none /\ B.H0 q = none /\ p ≠ q /\
   ∀ vs' row',A2 (rp K (reg B F H (mdb n))) vs' row'->∃ O',At B (sl.set i (.ob n (Rws.mk (x.xss.set j row')))) F O' (upd H q (.lst vs')) σ:=by
 obtain ⟨Oc,v,h1,⟨p,rs,rfl,rfl,h2⟩,c2,nd,_,up⟩:=z.setC hs hh
 obtain ⟨⟨q,vs⟩,e1,e2⟩:=A2.at2 h2 hj
 have hr:(q,vs) ∈ rs:=mem_of_getElem? e1
 have jl:j < rs.length:=(List.getElem?_eq_some_iff.mp e1).1
 obtain ⟨hq,fq,bq⟩:=c2 _ (zEh (p:=p) hr)
 have nd0:=nd
 rw [zCy,nodup_cons] at nd0
 have pq:p ≠ q:=λe=>nd0.1 (e ▸ mem_map.mpr ⟨_,hr,rfl⟩)
 refine ⟨p,q,rs.map λr=>V.ref r.1,vs,h1,(c2 _ mem_cons_self).1,by rw [getElem?_map,e1]; rfl,by rw [length_map]; exact h2.len,hq,e2,fq,bq,pq,λvs' row' r=>?_⟩
 have mp:(rs.set j (q,vs')).map (·.1) = rs.map (·.1):=by
  rw [List.map_set]
  refine ext_getElem? λk=>?_
  rw [List.getElem?_set]
  split
  ·rename_i e
   subst e
   split
   ·rw [getElem?_map,e1]; rfl
   ·rename_i z; exact absurd (by rw [length_map]; exact jl) z
  ·rfl
 have mr:(rs.set j (q,vs')).map (λr=>V.ref r.1) = rs.map λr=>V.ref r.1:=by
  have:=congrArg (List.map V.ref) mp
  rw [map_map,map_map] at this
  exact this
 refine up (Rws.mk (x.xss.set j row')) (rrO p (rs.set j (q,vs'))) (upd H q (.lst vs')) ⟨p,_,rfl,rfl,A2.setL (R:=λ(r:Addr × List V) (row:List α)=>A2 (rp K (reg B F H (mdb n))) r.2 row) r j h2⟩ (by rw [zCy,mp,<- zCy]; exact nd) (λb u e off=>?_) λy hy=>?_
 ·rw [zO λe2=>off _ (zEh hr) e2.symm]
  exact e
 ·rcases mem_cons.mp hy with e | hy
  ·subst e
   refine ⟨?_,.inl ⟨_,mem_cons_self,rfl⟩⟩
   show upd H q _ p = some (.lst ((rs.set j (q,vs')).map λr=>V.ref r.1))
   rw [zO pq,mr]
   exact (c2 _ mem_cons_self).1
  ·obtain ⟨r',hr',rfl⟩:=mem_map.mp hy
   obtain ⟨k,hk⟩:=mem_iff_getElem?.mp hr'
   rw [List.getElem?_set] at hk
   split at hk
   ·rename_i e
    subst e
    cases hk
    exact ⟨zR,.inl ⟨_,zEh hr,rfl⟩⟩
   ·rename_i ne
    have hm:=mem_of_getElem? hk
    refine ⟨?_,.inl ⟨_,zEh hm,rfl⟩⟩
    have n2:r'.1 ≠ q:=λe=>by
     have a1:(rs.map (·.1))[j]? = some q:=by rw [getElem?_map,e1]; rfl
     have a2:(rs.map (·.1))[k]? = some q:=by rw [getElem?_map,hk]; exact congrArg some e
     obtain ⟨l1,g1⟩:=List.getElem?_eq_some_iff.mp a1
     obtain ⟨l2,g2⟩:=List.getElem?_eq_some_iff.mp a2
     exact ne ((getElem_inj nd0.2).mp (g1.trans g2.symm))
    show upd H q _ r'.1 = _
    rw [zO n2]
    exact (c2 _ (zEh (p:=p) hm)).1
def zBh (x:Rws α) (i j:Int) (a:α):Option (Rws α):=if 0 <= i then (x.xss[i.toNat]?).bind λr=>(zFn r j a).bind λr'=>some (Rws.mk (x.xss.set i.toNat r')) else none
theorem zO1 {n:Bool} {x:Rws α} {m:Option α} {m2 m3:Option Int} (i:Nat) (hs:sl[i]? = some (.ob n x)) (hh:sl.all (λs=>!isHs s) = true) (h:Ex B sl (mdb n) te m) (h2:Ex B sl .hp t2 m2) (h3:Ex B sl .hp t3 m3) :
  Sn B sl (tAsg te (gSub (tOp (rIxL K) (tVar i) t2) t3 rSetL)) (λa=>sl.set i (.ob n a)) (m.bind λa=>m2.bind λk=>m3.bind λl=>zBh x k l a):=λc hc G D σ H s kk=>by
 cases m with
 | none=>cases hc
 | some a =>
  cases m2 with
  | none=>cases hc
  | some k =>
   cases m3 with
   | none=>cases hc
   | some l =>
    have hc:zBh x k l a = some c:=hc
    unfold zBh at hc
    split at hc
    case isFalse=>cases hc
    rename_i k0
    cases er:x.xss[k.toNat]? with
    | none=>rw [er] at hc; cases hc
    | some row =>
     rw [er] at hc
     have hc:((zFn row l a).bind λr'=>some (Rws.mk (x.xss.set k.toNat r'))) = some c:=hc
     unfold zFn at hc
     cases ej:ixN row.length l with
     | none=>rw [ej] at hc; cases hc
     | some jj =>
      rw [ej] at hc
      cases hc
      obtain ⟨F,O,g,z⟩:=s
      refine h a rfl F O H σ _ z λv F1 H1 g1 r1=>?_
      have z1:=z.grow g1
      obtain ⟨p,_,_,_,w1,_⟩:=z1.rowC hs hh er
      refine ⟨_,w1,h2 k rfl F1 O H1 σ _ z1 λu2 F2 H2 g2 r2=>?_⟩
      cases r2
      have z2:=z1.grow g2
      obtain ⟨p2,q2,ps,vs,w1',w2,w3,w4,w5,_⟩:=z2.rowC hs hh er
      cases w1.symm.trans w1'
      have hix:atI ps k = some (.ref q2):=by
       have:=zD7 w3
       rw [show ((k.toNat:Nat):Int) = k by omega] at this
       exact this
      refine ⟨p,ps,k,.ref q2,rfl,rfl,SqL.of w2,hix,h3 l rfl F2 O H2 σ _ z2 λu3 F3 H3 g3 r3=>?_⟩
      cases r3
      have z3:=z2.grow g3
      obtain ⟨p3,q3,ps3,vs3,y1,y2,y3,y4,y5,y6,_,_,_,up⟩:=z3.rowC hs hh er
      cases w1.symm.trans y1
      have e1:ps = ps3:=by have:=(g3.hh _ _ w2).symm.trans y2; cases this; rfl
      subst e1
      cases w3.symm.trans y3
      obtain ⟨O',z'⟩:=up (vs3.set jj v) (row.set jj a) (y6.set (Rp.mono (wA (g2.trans g3) (mdb n)) r1) jj)
      exact ⟨q2,vs3,l,jj,rfl,rfl,y5,by rw [y6.len,ej],kk _ _ ⟨F3,O',(g.trans g1.ff).trans (g2.trans g3).ff,z'⟩⟩
def zGu (x:Rws α) (k:Int) (a:α):Option (Rws α):=if 0 <= k then (x.xss[k.toNat]?).bind λr=>if r.length < cap then some (Rws.mk (x.xss.set k.toNat (r ++ [a]))) else none else none
theorem zO2 {n:Bool} {x:Rws α} {m:Option α} {m2:Option Int} (i:Nat) (hs:sl[i]? = some (.ob n x)) (hh:sl.all (λs=>!isHs s) = true) (h2:Ex B sl .hp t2 m2) (h:Ex B sl (mdb n) te m) :
  Sn B sl (zEf (tBM K "list" zBq (tOp (rIxL K) (tVar i) t2) (xF te tNil))) (λa=>sl.set i (.ob n a)) (m2.bind λk=>m.bind λa=>zGu x k a):=λc hc G D σ H s kk=>by
 cases m2 with
 | none=>cases hc
 | some k =>
  cases m with
  | none=>cases hc
  | some a =>
   have hc:zGu x k a = some c:=hc
   unfold zGu at hc
   split at hc
   case isFalse=>cases hc
   rename_i k0
   cases er:x.xss[k.toNat]? with
   | none=>rw [er] at hc; cases hc
   | some row =>
    rw [er] at hc
    have hc:(if row.length < cap then some (Rws.mk (x.xss.set k.toNat (row ++ [a]))) else none) = some c:=hc
    split at hc
    case isFalse=>cases hc
    rename_i hl
    cases hc
    obtain ⟨F,O,g,z⟩:=s
    obtain ⟨p,_,_,_,w1,_⟩:=z.rowC hs hh er
    refine ⟨_,w1,h2 k rfl F O H σ _ z λu2 F2 H2 g2 r2=>?_⟩
    cases r2
    have z2:=z.grow g2
    obtain ⟨p2,q2,ps,vs,w1',w2,w3,w4,w5,_⟩:=z2.rowC hs hh er
    cases w1.symm.trans w1'
    have hix:atI ps k = some (.ref q2):=by
     have:=zD7 w3
     rw [show ((k.toNat:Nat):Int) = k by omega] at this
     exact this
    refine ⟨p,ps,k,.ref q2,rfl,rfl,SqL.of w2,hix,.inl ⟨rfl,_,SqL.of w5⟩,h a rfl F2 O H2 σ _ z2 λv F3 H3 g3 r3=>?_⟩
    have z3:=z2.grow g3
    obtain ⟨p3,q3,ps3,vs3,y1,y2,y3,y4,y5,y6,_,_,_,up⟩:=z3.rowC hs hh er
    cases w1.symm.trans y1
    have e1:ps = ps3:=by have:=(g3.hh _ _ w2).symm.trans y2; cases this; rfl
    subst e1
    cases w3.symm.trans y3
    obtain ⟨O',z'⟩:=up (vs3 ++ [v]) (row ++ [a]) (y6.snoc r3)
    exact ⟨q2,vs3,v,rfl,rfl,y5,zA0 (by rw [y6.len]; exact hl),kk _ _ ⟨F3,O',g.trans (g2.trans g3).ff,z'⟩⟩
end
def spQ (K:PySem.W.Frag) {A β:Type} [Rp K β] (as:A->SL K) (f:LI->A->Option (β × LI)):Sp:=λvs H Q _ =>
 ∃ (p:Addr) (ws:LI) (u:V) (us:List V) (a:A) (b:β) (ws':LI) (Fa:Hp),vs = u :: .ref p :: us /\ H p = some (.lst (ws.map V.int)) /\ Fa p = none /\ Same Fa H /\ f ws a = some (b,ws') /\ Ar Fa (as a) (u :: us) /\
  ∀ v H',Same (del H p) H'->H' p = some (.lst (ws'.map V.int))->rp K (dif H' H) v b->Q v H'
section
variable {K:PySem.W.Frag} {B:Bs} {sl sl2:SL K} {F H G:Hp} {O:Own} {σ:St} {md:Md} {te ti t2 t3:TE} {t u tb:TS} {al:Bool} {p:Addr} {ws:LI} {S:Type}
theorem sn_augN (i:Nat) (hs:sl[i]? = some (.nu (RL.mk (p:=p) ws))) (hh:(sl.set i .un).all (λs=>!isHs s && !isNu s) = true) (hi:Ex B sl .hp ti mi) (hv:Ex B sl .hp te m) :
  Sn B sl (tAugS (tVar i) ti te (rGetL K) (ipI f) rSetL) (λys=>sl.set i (.nu (RL.mk (p:=p) ys))) (mi.bind λk=>m.bind λa=>augM f ws k a):=λys ha G D σ H s k=>by
 obtain ⟨ix,a,e1,e2,ha'⟩:=zAo ha
 unfold augM at ha'
 split at ha'
 case isFalse=>cases ha'
 rename_i h0
 obtain ⟨x,ex,ha'⟩:=Option.bind_eq_some_iff.mp ha'
 obtain ⟨F,O,g,z⟩:=s
 obtain ⟨h1,h2,_⟩:=z.chgN hs hh
 refine ⟨_,h1,?_⟩
 refine hi ix e1 F O H σ _ z λv F' H' gr r=>?_
 cases r
 obtain ⟨_,h2',_⟩:=(z.grow gr).chgN hs hh
 obtain ⟨xv,exv,rx⟩:=(zAf (K:=K) (F:=H') ws).atI ex
 have rx:xv = .int x:=Sc.is.mp rx
 subst rx
 refine ⟨p,_,ix,_,rfl,rfl,h0,SqL.of h2',exv,?_⟩
 refine hv a e2 F' O H' σ _ (z.grow gr) λw F2 H2 gr2 rw=>?_
 cases rw
 obtain ⟨_,y2,_,_,_,ch⟩:=((z.grow gr).grow gr2).chgN hs hh
 refine ⟨x,a,rfl,rfl,?_⟩
 unfold zFn at ha'
 cases ej:ixN ws.length ix with
 | none=>rw [ej] at ha'; cases ha'
 | some jj =>
  rw [ej] at ha'
  cases ha'
  refine ⟨p,_,ix,jj,rfl,rfl,y2,by rw [length_map]; exact ej,k _ _ ⟨F2,O,(g.trans gr.ff).trans gr2.ff,?_⟩⟩
  have:=ch (ws.set jj (f x a))
  rw [List.map_set] at this
  exact this
def zDj (x:Rws Int) (k:Int) (r:LI):Rws Int:=Rws.mk (x.xss.set k.toNat r)
theorem zK9 {A:Type} {as:A->SL K} {f:LI->A->Option (LI × LI)} {α0 A':Type} [Rp K α0] {m0:Option α0} {ma:Option A'} {as':A'->SL K} {jn:α0->A'->A} (j:Nat) (hs:sl[j]? = some (.ob n x)) (hh:sl.all (λs=>!isHs s) = true)
  (hj:∀ x0 a,as (jn x0 a) = .fz false x0 :: as' a) (h0:Ex B sl .fz t0 m0) (hk:Ex B sl .hp t2 mk) (h:Ea B sl .fz ta as' ma) {x0:α0} {a':A'} (e0:m0 = some x0) (ek:mk = some k) (ea:ma = some a') (k0:0 <= k) (er:x.xss[k.toNat]? = some row) (ef:f row (jn x0 a') = some (xs,row')) :
  EiC B sl (sl.set j (.ob n (zDj x k row'))) true (zK1 K (zKi (spQ K as f) [] E0 (xF t0 (xF (tOp (rIxL K) (tVar j) t2) ta)))) (some xs):=λxs' hx F O H σ R z kk=>by
 cases hx
 refine h0 x0 e0 F O H σ _ z λv0 F1 H1 g1 r1=>?_
 have z1:=z.grow g1
 obtain ⟨p,_,_,_,w1,_⟩:=z1.rowC hs hh er
 refine ⟨_,w1,hk k ek F1 O H1 σ _ z1 λu2 F2 H2 g2 r2=>?_⟩
 cases r2
 have z2:=z1.grow g2
 obtain ⟨p2,q,ps,vs,w1',w2,w3,w4,w5,_⟩:=z2.rowC hs hh er
 cases w1.symm.trans w1'
 have hix:atI ps k = some (.ref q):=by
  have:=zD7 w3
  rw [show ((k.toNat:Nat):Int) = k by omega] at this
  exact this
 refine ⟨p,ps,k,.ref q,rfl,rfl,SqL.of w2,hix,h a' ea F2 O H2 σ _ z2 λus F3 H3 g3 r3=>?_⟩
 have z3:=z2.grow g3
 obtain ⟨p3,q3,ps3,vs3,y1,y2,y3,y4,y5,y6,fq,bq,pq,up⟩:=z3.rowC hs hh er
 cases w1.symm.trans y1
 have e1:ps = ps3:=by have:=(g3.hh _ _ w2).symm.trans y2; cases this; rfl
 subst e1
 cases w3.symm.trans y3
 have ev:vs3 = row.map V.int:=y6.vals
 show spQ K as f ((v0 :: .ref q :: us) ++ []) H3 _ E0
 rw [append_nil]
 refine ⟨q,row,v0,us,jn x0 a',xs,row',F3,rfl,by rw [y5,ev],fq,g3.ok.fh,ef,by rw [hj]; exact .cons (Rp.mono (wA (g2.trans g3) .fz) r1) r3,λv H4 s4 e4 r4=>?_⟩
 obtain ⟨O',z'⟩:=up (row'.map V.int) row' (zAf row')
 have s5:Same (upd H3 q (.lst (row'.map V.int))) H4:=λc o e=>by
  by_cases d:c = q
  ·subst d
   rw [zR] at e
   rw [e4]
   exact e
  ·rw [zO d] at e
   refine s4 c o ?_
   unfold del
   rw [if_neg d]
   exact e
 have g4:=z'.1.called s5
 have z5:=z'.grow g4
 have d4:Same (dif H4 H3) (dif H4 (upd H3 q (.lst (row'.map V.int)))):=λc o e=>by
  unfold dif at e ⊢
  by_cases d:c = q
  ·subst d
   rw [y5] at e
   cases e
  ·rw [zO d]
   exact e
 have r5:=Rp.mono (zF6 (F:=F3) z'.1.h0 s5) (Rp.mono d4 r4)
 obtain ⟨l,ts,rfl,t1,t2'⟩:=r5
 refine ⟨l,rfl,⟨ts,SqL.of (dif_le.trans z5.1.fh _ _ t1)⟩,kk _ _ O' H4 ((g1.ff.trans (g2.trans g3).ff).trans g4.ff) z5 λi F6 O6 H6 sf k6=>?_⟩
 have hq:SqL K H6 l ts:=SqL.of (k6.fh _ _ (sf _ _ (dif_le _ _ t1)))
 refine ⟨λhl=>⟨ts,hq,by rw [t2'.len]; exact hl⟩,λx hx=>?_⟩
 obtain ⟨w,hw,rw⟩:=t2'.at2 hx
 refine ⟨⟨ts,w,hq,hw⟩,λv H7 yd=>?_⟩
 obtain ⟨e,y⟩:=yd
 subst e
 have:=(hw.symm.trans (y ts hq))
 cases this
 exact ⟨F6,.refl k6,zPb rw⟩
theorem sn_forY {α S0:Type} [Rp K α] {m:Option (List α × S0)} {L:S->SL K} {Lx:S->α->SL K} {step:S->α->Option S} (s0:S0->S) (h0:Le sl sl0) (hi:∀ xs r,m = some (xs,r)->EiC B sl0 (L (s0 r)) n wi (some xs)) (hg:∀ s,Tg B (L s) n g (Lx s)) (hb:∀ s x,Sn B (Lx s x) tb L (step s x)) :
  Sn B sl (tFor wi g tb) L (m.bind λr=>xC step r.1 (s0 r.2)):=λs1 hs1 G D σ H q k=>by
 cases m with
 | none=>cases hs1
 | some r =>
  obtain ⟨xs,r⟩:=r
  exact sn_forC (mi:=some xs) (s0 r) h0 (hi xs r rfl) hg hb s1 hs1 G D σ H q k
end
section
variable {P:Program} {w:World} {K:PySem.W.Frag} {mg:Str->Option Value} {base:Heap}
theorem def_okQ {A β α0:Type} [Rp K β] [Rp K α0] {as:A->SL K} {as':A->SL K} {a0:A->α0} {fM:LI->A->Option (β × LI)} (F:Fun K x qual st f fd) (S:FnScope N ps (zK st)) (ha:∀ a,as a = .fz false (a0 a) :: as' a) (hf:∀ a,(as' a).all isF = true) (hl:∀ a,(as' a).length + 2 = ps.length)
  (hb:∀ (cdv:Value) (A:Around) (outer:List Env) (s:Shared) (H:Hp) (E:XK),Room k (A.deeper (PyProof.Rows.envOfC qual (zK st) s.heap.objs.size f cdv)) ->
   ∃ t,PSs (cxOf CX0 P w K mg base N qual (zK st) f cdv A outer s H E).nox (xU st) t /\ ∀ Fa p ws a,SBR ⟨Fa,del H p⟩ p (.fz false (a0 a) :: .nu (RL.mk (p:=p) ws) :: (as' a ++ replicate (N.length - ps.length) .un)) t (fM ws a)) :
  FnOk P w K mg base CX0 (k + 1) f fd ps (spQ K as fM) :=
 F.ok S (λvs H Q E h=>by
  obtain ⟨p,ws,u,us,a,b,ws',Fa,rfl,_,_,_,_,r,_⟩:=h
  rw [ha] at r
  cases r with
  | cons r0 r=>rw [length_cons,length_cons,r.len,hl]) λcdv A outer s H vs Q E hr h=>by
  obtain ⟨t,pt,q⟩:=hb cdv A outer s H E hr
  refine ⟨t,pt,?_⟩
  obtain ⟨p,ws,u,us,a,b,ws',Fa,rfl,hp,fp,sf,hfa,r,kk⟩:=h
  rw [ha] at r
  cases r with
  | cons r0 r =>
   have e:L2.start N (u :: .ref p :: us) = some u :: some (.ref p) :: (us.map some ++ replicate (N.length - ps.length) none):=by
    unfold L2.start
    rw [length_cons,length_cons,r.len,hl]
    rfl
   have d0:Same (del H p) H:=λc o e=>by
    unfold del at e
    split at e
    ·cases e
    ·exact e
   have dp:del H p p = none:=by
    unfold del
    rw [if_pos rfl]
   rw [e]
   refine q Fa p ws a b ws' hfa Fa _ _ H ⟨Fa,[],.refl _,⟨sf,d0,λb o h=>.inl h,λx hx=>(by cases hx),(by simp)⟩,.fz r0 (.nu ⟨rfl,?_⟩ (zGo _ (hf a) r))⟩ (λv H' s1 e1 z=>?_)
   ·rw [xA dp]
    unfold lo
    rw [fp]
    exact hp
   ·obtain ⟨F2,f2,s2,r2⟩:=z
    refine kk v H' s1 e1 (Rp.mono (λc o e=>?_) r2)
    unfold dif at e ⊢
    by_cases c1:c = p
    ·subst c1
     have e:(match del H c c with | none=>F2 c | some _=>none) = some o:=e
     rw [dp,f2] at e
     cases e
    ·have ed:del H p c = H c:=by
      unfold del
      rw [if_neg c1]
     have e:(match del H p c with | none=>F2 c | some _=>none) = some o:=e
     rw [ed] at e
     show (match H c with | none=>H' c | some _=>none) = some o
     cases hc:H c with
     | none=>rw [hc] at e; exact s2 _ _ e
     | some u=>rw [hc] at e; cases e
end
structure Ob0 where
 u:Unit
instance:Ob K Ob0 where
 β:=Unit
 rpβ:=inferInstance
 ro _ v _ O:=v = .non /\ O = []
 mono _ h:=h
 val _:=()
 frz h _:=h.1
class NoL (K:PySem.W.Frag) (α:Type) [Rp K α]:Prop where
 keep:∀ {F F':Hp} {v:V} {a:α},(∀ b t,F b = some (.tup t)->F' b = some (.tup t))->rp K F v a->rp K F' v a
section
variable {K:PySem.W.Frag}
instance:NoL K Int:=⟨λ_ h=>h⟩
instance:NoL K Str:=⟨λ_ h=>h⟩
instance:NoL K Key:=⟨λ_ h=>h⟩
instance {α:Type} [Rp K α] [NoL K α]:NoL K (Option α):=⟨λ{_ _ _ a} k h=>match a,h with
 | none,h=>h
 | some _,h=>⟨h.1,NoL.keep k h.2⟩⟩
instance {α β:Type} [Rp K α] [Rp K β] [NoL K α] [NoL K β]:NoL K (α × β):=⟨λk ⟨p,a,b,h1,h2,h3,h4⟩=>⟨p,a,b,h1,k _ _ h2,NoL.keep k h3,NoL.keep k h4⟩⟩
variable {B:Bs} {sl sl2:SL K} {F F' H H1 H2 G:Hp} {O:Own} {σ:St} {md:Md} {te t1 t2 t3:TE} {t u:TS} {al:Bool}
theorem At.cutX (X:Addr->Bool) (z:At B sl F O H1 σ) (s2:Same H1 H2) (hn:sl.all (λs=>!zAj s) = true):∃ F2,Same F F2 /\ At B sl F2 O H2 σ /\ (∀ b o,dif H2 H1 b = some o->X b = false->F2 b = some o) /\ ∀ b o,dif H2 H1 b = some o->X b = true->F2 b = none /\ B.H0 b = none /\ ∀ x ∈ O,x.1 ≠ b:=by
 have nw:∀ b o,dif H2 H1 b = some o->H1 b = none /\ H2 b = some o:=λb o e=>by
  unfold dif at e
  cases q:H1 b with
  | none=>rw [q] at e; exact ⟨rfl,e⟩
  | some u=>rw [q] at e; cases e
 let F2:Hp:=λb=>match F b with
  | some o=>some o
  | none=>if X b = true then none else dif H2 H1 b
 have e1:∀ b o,F b = some o->F2 b = some o:=λb o e=>by show (match F b with | some o=>some o | none=>_) = _; rw [e]
 have e2:∀ b,F b = none->F2 b = if X b = true then none else dif H2 H1 b:=λb e=>by show (match F b with | some o=>some o | none=>_) = _; rw [e]
 refine ⟨F2,e1,⟨⟨λb o e=>?_,z.1.h0.trans s2,λb o e=>?_,λx hx=>?_,z.1.nd⟩,(z.2.mono e1 (.refl _) s2).calm hn⟩,λb o e x=>?_,λb o e x=>?_⟩
 ·cases q:F b with
  | some u=>rw [e1 b u q] at e; cases e; exact s2 _ _ (z.1.fh _ _ q)
  | none =>
   rw [e2 b q] at e
   split at e
   ·cases e
   ·exact (nw b o e).2
 ·cases q:F b with
  | some u=>rw [e1 b u q] at e; cases e; exact z.1.fa _ _ q
  | none =>
   rw [e2 b q] at e
   split at e
   ·cases e
   ·exact .inr (z.1.h0.free (nw b o e).1)
 ·obtain ⟨a1,a2,a3⟩:=z.1.fo x hx
  refine ⟨?_,a2,s2 _ _ a3⟩
  rw [e2 _ a1]
  split
  ·rfl
  ·unfold dif
   rw [a3]
 ·rw [e2 b (z.1.fh.free (nw b o e).1),if_neg (by rw [x]; decide)]
  exact e
 ·have h1:=(nw b o e).1
  refine ⟨by rw [e2 b (z.1.fh.free h1),if_pos x],z.1.h0.free h1,λy hy q=>?_⟩
  have:=(z.1.fo y hy).2.2
  rw [q,h1] at this
  cases this
theorem At.addC {β:Type} [Ob K β] {a:β} {Oc:Own} (z:At B sl F O H σ) (hn:sl.all (λs=>!zAj s) = true) (hs:sl[i]? = some s) (ho:isOw s = false) (nd:(Oc.map (·.1)).Nodup) (cells:∀ x ∈ Oc,F x.1 = none /\ B.H0 x.1 = none /\ H x.1 = some x.2 /\ ∀ y ∈ O,y.1 ≠ x.1) (r:Ob.ro K (reg B F H (mdb n)) v a Oc):∃ O',At B (sl.set i (.ob n a)) F O' H (σ.set i (some v)):=by
 obtain ⟨k,z0⟩:=z
 have q1:=z0.put (s':=.ob true (Ob0.mk ())) (x:=some .non) (λ_ _ _ y=>SlotsOk.ob (Oc:=[]) (show V.non = .non /\ ([]:Own) = [] from ⟨rfl,rfl⟩) y) hs ho
 obtain ⟨O1,Oc0,O2,v0,e,_,⟨_,rfl⟩,h3⟩:=q1.ob_at (zL1 hs)
 have e:O = O1 ++ O2:=e
 subst e
 have zz:=h3 (.ob n a) (some v) Oc λ_ _ _ y=>.ob r y
 rw [set_set,set_set] at zz
 refine ⟨O1 ++ (Oc ++ O2),⟨k.fh,k.h0,k.fa,λx hx=>?_,?_⟩,zz.calm (zCu rfl hn)⟩
 ·rcases mem_append.mp hx with hx | hx
  ·exact k.fo x (mem_append_left _ hx)
  ·rcases mem_append.mp hx with hx | hx
   ·exact ⟨(cells x hx).1,(cells x hx).2.1,(cells x hx).2.2.1⟩
   ·exact k.fo x (mem_append_right _ hx)
 ·have n0:=k.nd
  rw [map_append,nodup_append] at n0
  rw [map_append,map_append,nodup_append,nodup_append]
  refine ⟨n0.1,⟨nd,n0.2.1,λa ha b hb e=>?_⟩,λa ha b hb e=>?_⟩
  ·obtain ⟨x,hx,rfl⟩:=mem_map.mp ha
   obtain ⟨y,hy,rfl⟩:=mem_map.mp hb
   exact (cells x hx).2.2.2 y (mem_append_right _ hy) e.symm
  ·obtain ⟨y,hy,rfl⟩:=mem_map.mp ha
   rcases mem_append.mp hb with hb | hb
   ·obtain ⟨x,hx,rfl⟩:=mem_map.mp hb
    exact (cells x hx).2.2.2 y (mem_append_left _ hy) e
   ·exact n0.2.2 _ ha _ hb e
section
variable {α:Type} [Rp K α]
theorem zH5 [NoL K α] {s:Slot K} {m:Option (Rws α)} (i:Nat) (hs:sl[i]? = some s) (ho:isOw s = false) (hn:sl.all (λs=>!zAj s) = true) (h:En B sl te m):Sn B sl (tAsg te (zAd i)) (λa=>sl.set i (.ob true a)) m:=λa ha G D σ H s k=>by
 obtain ⟨F,O,g,z⟩:=s
 refine h a ha F O H σ _ z λv F' H1 H2 gr s2 r=>k _ _ ?_
 obtain ⟨p,rs,rfl,c,nd,r4⟩:=r
 obtain ⟨F2,sf,z2,o1,o2⟩:=(z.grow gr).cutX (λb=>decide (b ∈ (rrO p rs).map (·.1))) s2 hn
 have isl:∀ b t,dif H2 H1 b = some (.tup t)->b ∉ (rrO p rs).map (·.1):=λb t e hb=>by
  obtain ⟨y,hy,rfl⟩:=mem_map.mp hb
  rw [c y hy] at e
  rcases mem_cons.mp hy with q | hy
  ·rw [q] at e; cases e
  ·obtain ⟨w,_,q⟩:=mem_map.mp hy
   rw [<- q] at e; cases e
 have rr:RrOk K (dif F2 B.H0) rs a.xss:=A2.imp (λ_ _ z=>z.imp λ_ _=>NoL.keep λb t e=>by
  have b0:B.H0 b = none:=gr.ok.h0.free (by
   unfold dif at e
   cases q:H1 b with
   | none=>rfl
   | some u=>rw [q] at e; cases e)
  rw [xA b0]
  exact o1 b _ e (decide_eq_false (isl b t e))) r4
 obtain ⟨O',z'⟩:=z2.addC (n:=true) (a:=a) (v:=.ref p) (Oc:=rrO p rs) hn hs ho nd (λx hx=>by
  obtain ⟨a1,a2,a3⟩:=o2 x.1 x.2 (c x hx) (decide_eq_true (mem_map.mpr ⟨x,hx,rfl⟩))
  exact ⟨a1,a2,dif_le _ _ (c x hx),a3⟩) (show ∃ (p':Addr) (rs':Rr),V.ref p = .ref p' /\ rrO p rs = rrO p' rs' /\ RrOk K (dif F2 B.H0) rs' a.xss from ⟨p,rs,rfl,rfl,rr⟩)
 exact ⟨F2,O',g.trans (gr.ff.trans sf),z'⟩
end
theorem rd_rws {v:V} {x:RwD} (h:rp K F v x):rp K F v (Rws.mk x.xss:Rws Int):=by
 obtain ⟨p,ps,h1,h2,h3,h4⟩:=h
 have key:∀ {ps:List Addr} {xss:List LI},A2 (RowD F) ps xss->∃ rs:Rr,rs.map (·.1) = ps /\ (∀ r ∈ rs,F r.1 = some (.lst r.2)) /\ RrOk K F rs xss:=by
  intro ps
  induction ps with
  | nil=>intro xss z; cases xss with
   | nil=>exact ⟨[],rfl,λr hr=>(by cases hr),trivial⟩
   | cons _ _=>exact z.elim
  | cons q ps ih=>intro xss z; cases xss with
   | nil=>exact z.elim
   | cons xs xss =>
    obtain ⟨rs,e1,e2,e3⟩:=ih z.2
    refine ⟨(q,xs.map V.int) :: rs,by rw [map_cons,e1],λr hr=>?_,zAf xs,e3⟩
    rcases mem_cons.mp hr with e | hr
    ·rw [e]; exact z.1
    ·exact e2 r hr
 obtain ⟨rs,e1,e2,e3⟩:=key h4
 have er:rs.map (λr=>V.ref r.1) = ps.map V.ref:=by rw [<- e1,map_map]; rfl
 refine ⟨p,rs,h1,λy hy=>?_,?_,e3⟩
 ·rcases mem_cons.mp hy with e | hy
  ·rw [e]
   show F p = some (.lst (rs.map λr=>V.ref r.1))
   rw [er]; exact h2
  ·obtain ⟨r,hr,rfl⟩:=mem_map.mp hy
   exact e2 r hr
 ·rw [zCy,e1]; exact h3
theorem zO8 {x:RwD} (i:Nat) (hs:sl[i]? = some (.nu x)):SB B sl (tSeq (tRet (tVar i)) u) false (some (Rws.mk x.xss:Rws Int)):=λb hb G D σ H s k=>by
 cases hb
 obtain ⟨F,O,g,a⟩:=s
 obtain ⟨v,h1,h2⟩:=a.2.nu_at hs
 exact ⟨v,h1,k v H ⟨a.1.h0,rd_rws (Rp.mono (xG zPs) h2)⟩⟩
theorem ex_rwL {α:Type} [Rp K α] {m:Option (Rws α)} (h:Ex B sl md te m):Ex B sl md te (m.bind λx=>some x.xss):=λc hc F O H σ Q s k=>by
 cases m with
 | none=>cases hc
 | some x=>cases hc; exact h x rfl F O H σ Q s λv F' H' g r=>k v F' H' g (rws_ll r)
def cpsM (n:Nat) (c:LI):Option (Rws Int):=if n <= 900 then some (Rws.mk (replicate n c)) else none
theorem zQw {c:LI}:∀ (ps:List Addr),RrOk K R (ps.map λq=>(q,c.map V.int)) (replicate ps.length c)
 | []=>trivial
 | _ :: ps=>⟨zAf c,zQw ps⟩
theorem en_cps {n:Bool} {c:LI} {m:Option LI} (j:Nat) (hs:sl[j]? = some (.fz n c)) (h:Ex B sl .hp te m):En B sl (zOu 1 [j] (zK1 K te) (zAd 0) tIf0 (tCB (rList K) (xF (tVar 1) tNil))) (m.bind λxs=>cpsM xs.length c):=λd hd F O H σ Q s kk=>by
 cases m with
 | none=>cases hd
 | some xs =>
  have hd:cpsM xs.length c = some d:=hd
  unfold cpsM at hd
  split at hd
  case isFalse=>cases hd
  rename_i hl
  cases hd
  refine h xs rfl F O H σ _ s λv F1 H1 g r=>?_
  obtain ⟨p,vs,rfl,z1,z2⟩:=r
  have z1:H1 p = some (.lst vs):=z1
  have vl:=z2.len
  obtain ⟨w,y1,y2⟩:=(s.grow g).2.fz_at hs
  obtain ⟨pc,vc,rfl,y3,y4⟩:=Rp.mono (zAs g.ok n) y2
  have y5:vc = c.map V.int:=y4.vals
  subst y5
  refine ⟨p,rfl,⟨vs,SqL.of z1⟩,zHm (K:=K) (a:=p) (xs:=vs) (λi ys σ2 H2=>(∃ w0,σ2 = [w0,some (.ref pc)]) /\ ∃ (ps:List Addr),ys = ps.map V.ref /\ ps.length = i /\ ps.Nodup /\ Same H1 H2 /\ ∀ q ∈ ps,H1 q = none /\ H2 q = some (.lst (c.map V.int))) ⟨⟨none,by unfold σIn; rw [map_cons,y1]; rfl⟩,[],rfl,rfl,.nil,.refl _,λq hq=>(by cases hq)⟩
   (λi ys σ2 H2 hi ⟨_,ps,e1,e2,_,s2,_⟩=>⟨s2.seq (SqL.of z1),by rw [e1,length_map,e2]; exact Nat.le_refl _⟩) (Nat.lt_of_le_of_lt (show vs.length <= 900 by omega) (by decide)) ?_ ?_⟩
  ·rintro i x ys σ2 H2 hi ⟨⟨w0,rfl⟩,ps,rfl,rfl,nd,s2,hq⟩
   refine ⟨_,rfl,pc,c.map V.int,rfl,.inl (SqL.of (s2 _ _ y3)),λl hn=>⟨⟨_,rfl⟩,ps ++ [l],by rw [map_append]; rfl,by rw [length_append]; rfl,?_,s2.trans (same_new hn _),λq hq'=>?_⟩⟩
   ·rw [nodup_append]
    refine ⟨nd,by simp,λa ha b hb e=>?_⟩
    rw [mem_singleton.mp hb] at e
    rw [<- e,(hq a ha).2] at hn
    cases hn
   ·rcases mem_append.mp hq' with z | z
    ·exact ⟨(hq q z).1,same_new hn _ _ _ (hq q z).2⟩
    ·rw [mem_singleton.mp z]
     exact ⟨s2.free hn,zR⟩
  ·rintro ys σ2 H2 ⟨_,ps,rfl,e2,nd,s2,hq⟩ l hn
   have ln:ps.length = xs.length:=by rw [e2,vl]
   refine kk _ F1 H1 _ g (s2.trans (same_new hn _)) ⟨l,ps.map λq=>(q,c.map V.int),rfl,λy hy=>?_,?_,by rw [<- ln]; exact zQw ps⟩
   ·rcases mem_cons.mp hy with e | hy
    ·rw [e]
     show dif _ _ l = _
     rw [xA (s2.free hn),zR,map_map]; rfl
    ·obtain ⟨r,hr,rfl⟩:=mem_map.mp hy
     obtain ⟨q,hq',rfl⟩:=mem_map.mp hr
     show dif _ _ q = _
     rw [xA (hq q hq').1]
     exact same_new hn _ _ _ (hq q hq').2
   ·rw [zCy,map_map]
    refine nodup_cons.mpr ⟨λz=>?_,?_⟩
    ·obtain ⟨q,hq',e⟩:=mem_map.mp z
     have e:q = l:=e
     rw [<- e,(hq q hq').2] at hn
     cases hn
    ·rw [show (ps.map ((λx=>x.1) ∘ λq=>(q,c.map V.int))) = ps from map_id' ps]; exact nd
abbrev Mkp:=Str × LI
theorem zQ8:∀ {vs:List V} {ys:List Mkp},F p = some (.lst vs)->A2 (rp K F) vs ys->∀ {F2:Hp},(∀ b o,F b = some o->b ≠ p->F2 b = some o)->A2 (rp K F2) vs ys:=λ{vs ys} hp h {F2} k=>by
 have hd:∀ v ∈ vs,∀ n:Int,v ≠ .int n:=λv hv n e=>by
  obtain ⟨i,hi⟩:=mem_iff_getElem?.mp hv
  obtain ⟨y,_,q,_,_,e1,_⟩:=A2.at1 h hi
  rw [e] at e1; cases e1
 have one:∀ v ∈ vs,∀ y:Mkp,rp K F v y->rp K F2 v y:=λv hv y ⟨q,a,b,e1,e2,e3,l,us,e4,e5,e6⟩=>by
  refine ⟨q,a,b,e1,k _ _ e2 λz=>?_,e3,l,us,e4,k _ _ e5 λz=>?_,e6⟩
  ·rw [z,hp] at e2; cases e2
  ·rw [z,hp] at e5
   cases e5
   have e7:=e6.vals
   rw [e7] at hv hd
   obtain ⟨n,hn,rfl⟩:=mem_map.mp hv
   exact hd _ (mem_map.mpr ⟨n,hn,rfl⟩) n rfl
 clear hp hd
 induction vs generalizing ys with
 | nil=>cases ys with
  | nil=>trivial
  | cons _ _=>exact h.elim
 | cons v vs ih=>cases ys with
  | nil=>exact h.elim
  | cons y ys=>exact ⟨one v mem_cons_self y h.1,ih h.2 λw hw=>one w (mem_cons_of_mem _ hw)⟩
theorem zJo {α:Type} [Rp K α] {a:List α} (z2:At B sl F O H σ) (hn:sl.all (λs=>!zAj s) = true) (hs:sl[i]? = some s) (ho:isOw s = false) (fp:F p = none) (bp:B.H0 p = none) (op:∀ x ∈ O,x.1 ≠ p) (hp:H p = some (.lst vs)) (rr:A2 (rp K (dif F B.H0)) vs a) (g:Same G F):∃ O',Same G F /\ At B (sl.set i (.ow true a)) F O' H (σ.set i (some (.ref p))):=by
 obtain ⟨O1,O2,rfl,z'⟩:=z2.2.own (s':=.ow true a) (x:=some (.ref p)) (c:=(p,.lst vs)) (λ_ _ _ z=>.ow rr z) hs ho
 refine ⟨_,g,⟨z2.1.fh,z2.1.h0,z2.1.fa,λx hx=>?_,?_⟩,z'.calm (zCu rfl hn)⟩
 ·rcases mem_append.mp hx with hx | hx
  ·exact z2.1.fo x (mem_append_left _ hx)
  ·rcases mem_cons.mp hx with e | hx
   ·rw [e]; exact ⟨fp,bp,hp⟩
   ·exact z2.1.fo x (mem_append_right _ hx)
 ·have n0:=z2.1.nd
  rw [map_append,nodup_append] at n0
  rw [map_append,map_cons,nodup_append,nodup_cons]
  refine ⟨n0.1,⟨λhx=>?_,n0.2.1⟩,λa ha b hb e=>?_⟩
  ·obtain ⟨y,hy,e⟩:=mem_map.mp hx
   exact op y (mem_append_right _ hy) e
  ·rcases mem_cons.mp hb with q | hb
   ·obtain ⟨y,hy,rfl⟩:=mem_map.mp ha
    exact op y (mem_append_left _ hy) (e.trans q)
   ·exact n0.2.2 _ ha _ hb e
theorem zO0 {s:Slot K} {m:Option (List Mkp)} (i:Nat) (hs:sl[i]? = some s) (ho:isOw s = false) (hn:sl.all (λs=>!zAj s) = true) (h:En B sl te m):Sn B sl (tAsg te (zAd i)) (λa=>sl.set i (.ow true a)) m:=λa ha G D σ H s k=>by
 obtain ⟨F,O,g,z⟩:=s
 refine h a ha F O H σ _ z λv F' H1 H2 gr s2 r=>k _ _ ?_
 obtain ⟨p,vs,rfl,c,r4⟩:=r
 obtain ⟨F2,sf,z2,o1,o2⟩:=(z.grow gr).cutX (λb=>decide (b = p)) s2 hn
 obtain ⟨fp,bp,op⟩:=o2 p _ c (decide_eq_true rfl)
 have rr:A2 (rp K (dif F2 B.H0)) vs a:=zQ8 c r4 λb o e nb=>by
  have b0:B.H0 b = none:=gr.ok.h0.free (by
   unfold dif at e
   cases q:H1 b with
   | none=>rfl
   | some u=>rw [q] at e; cases e)
  rw [xA b0]
  exact o1 b o e (decide_eq_false nb)
 exact ⟨F2,zJo z2 hn hs ho fp bp op (dif_le _ _ c) rr (g.trans (gr.ff.trans sf))⟩
theorem sn_ownL {α:Type} [Rp K α] [NoL K α] {m:Option (List α)} (i:Nat) (hs:sl[i]? = some s) (ho:isOw s = false) (hn:sl.all (λs=>!zAj s) = true) (h:En B sl te m):Sn B sl (tAsg te (zAd i)) (λa=>sl.set i (.ow true a)) m:=λa ha G D σ H s k=>by
 obtain ⟨F,O,g,z⟩:=s
 refine h a ha F O H σ _ z λv F' H1 H2 gr s2 r=>k _ _ ?_
 obtain ⟨p,vs,rfl,c,r4⟩:=r
 obtain ⟨F2,sf,z2,o1,o2⟩:=(z.grow gr).cutX (λb=>decide (b = p)) s2 hn
 obtain ⟨fp,bp,op⟩:=o2 p _ c (decide_eq_true rfl)
 have rr:A2 (rp K (dif F2 B.H0)) vs a:=r4.imp λ_ _=>NoL.keep λb t e=>by
  have b0:B.H0 b = none:=gr.ok.h0.free (by
   unfold dif at e
   cases q:H1 b with
   | none=>rfl
   | some u=>rw [q] at e; cases e)
  rw [xA b0]
  exact o1 b _ e (decide_eq_false λq=>by rw [q,c] at e; cases e)
 exact ⟨F2,zJo z2 hn hs ho fp bp op (dif_le _ _ c) rr (g.trans (gr.ff.trans sf))⟩
structure TpL (α β:Type) where
 a:α
 b:List β
instance {α β:Type} [Rp K α] [Rp K β]:Ob K (TpL α β) where
 β:=α × List β
 rpβ:=inferInstance
 ro R v x Oc:=∃ t p vs w,v = .ref t /\ R t = some (.tup [w,.ref p]) /\ Oc = [(p,.lst vs)] /\ rp K R w x.a /\ A2 (rp K R) vs x.b
 mono s:=λ⟨t,p,vs,w,h1,h2,h3,h4,h5⟩=>⟨t,p,vs,w,h1,s _ _ h2,h3,Rp.mono s h4,h5.imp λ_ _=>Rp.mono s⟩
 val x:=(x.a,x.b)
 frz:=λ⟨t,p,vs,w,h1,h2,h3,h4,h5⟩ m=>⟨t,w,.ref p,h1,h2,h4,p,vs,rfl,m (p,.lst vs) (by rw [h3]; exact mem_cons_self),h5⟩
section
variable {α:Type} [Rp K α]
theorem ex_varP {β:Type} [Rp K β] {x:TpL α β} (i:Nat) (hs:sl[i]? = some (.ob n x)):Ex B sl .hp (tVar i) (some (x.a,x.b)):=λa' ha F O H σ Q s k=>by
 cases ha
 obtain ⟨O1,Oc,O2,v,e,h1,⟨t,p,vs,w,rfl,h2,rfl,h4,h5⟩,_⟩:=s.2.ob_at hs
 have hp:H p = some (.lst vs):=(s.1.fo (p,.lst vs) (by rw [e]; exact mem_append_right _ (mem_append_left _ mem_cons_self))).2.2
 have le:=zAs s.1 n
 exact ⟨_,h1,k _ F H (.refl s.1) ⟨t,w,.ref p,rfl,le _ _ h2,Rp.mono le h4,p,vs,rfl,hp,h5.imp λ_ _=>Rp.mono le⟩⟩
theorem sn_tpl {s:Slot K} {m1:Option α} {m2:Option (List Mkp)} (i:Nat) (hs:sl[i]? = some s) (ho:isOw s = false) (hn:sl.all (λs=>!zAj s) = true) (h1:Ex B sl .nw t1 m1) (h2:En B sl t2 m2):Sn B sl (tAsg (tTup (xF t1 (xF t2 tNil))) (zAd i)) (λx=>sl.set i (.ob true x)) (m1.bind λa=>m2.bind λb=>some (TpL.mk a b)):=λx hx G D σ H s k=>by
 obtain ⟨a,b,ha,hb,hf⟩:=zAo hx
 cases hf
 obtain ⟨F,O,g,z⟩:=s
 refine h1 a ha F O H σ _ z λw F1 H1' g1 r1=>?_
 refine h2 b hb F1 O H1' σ _ (z.grow g1) λv F' H1 H2 gr s2 r=>?_
 obtain ⟨p,vs,rfl,c,r4⟩:=r
 obtain ⟨F2,sf,z2,o1,o2⟩:=((z.grow g1).grow gr).cutX (λb=>decide (b = p)) s2 hn
 obtain ⟨fp,bp,op⟩:=o2 p _ c (decide_eq_true rfl)
 have rr:A2 (rp K (dif F2 B.H0)) vs b:=zQ8 c r4 λb o e nb=>by
  have b0:B.H0 b = none:=gr.ok.h0.free (by
   unfold dif at e
   cases q:H1 b with
   | none=>rfl
   | some u=>rw [q] at e; cases e)
  rw [xA b0]
  exact o1 b o e (decide_eq_false nb)
 refine ⟨by show 2 <= sizeLine; decide,λt ht=>k _ _ ?_⟩
 have g3:=Grow.new z2.1 ht (.tup [w,.ref p])
 have z3:=z2.grow g3
 have hp:H2 p = some (.lst vs):=dif_le _ _ c
 have tp:p ≠ t:=λe=>by rw [e,ht] at hp; cases hp
 have sf3:Same (dif F2 B.H0) (dif (upd F2 t (.tup [w,.ref p])) B.H0):=xG g3.ff
 obtain ⟨O',z'⟩:=z3.addC (n:=true) (a:=TpL.mk a b) (v:=.ref t) (Oc:=[(p,.lst vs)]) hn hs ho (by simp) (λx hx=>by
  obtain rfl:=mem_singleton.mp hx
  exact ⟨by rw [zO tp]; exact fp,bp,by rw [zO tp]; exact hp,op⟩) (show ∃ (t' p':Addr) (vs':List V) (w':V),V.ref t = .ref t' /\ dif (upd F2 t (.tup [w,.ref p])) B.H0 t' = some (.tup [w',.ref p']) /\ [(p,HO.lst vs)] = [(p',HO.lst vs')] /\ rp K (dif (upd F2 t (.tup [w,.ref p])) B.H0) w' a /\ A2 (rp K (dif (upd F2 t (.tup [w,.ref p])) B.H0)) vs' b from ⟨t,p,vs,w,rfl,by rw [xA (z2.1.h0.free ht),zR],rfl,Rp.mono ((xG (gr.ff.trans sf)).trans sf3) r1,rr.imp λ_ _=>Rp.mono sf3⟩)
 exact ⟨_,O',g.trans (g1.ff.trans (gr.ff.trans (sf.trans g3.ff))),z'⟩
theorem zLy {β:Type} [Rp K β] {x:TpL α β} {m:Option β} (i:Nat) (hs:sl[i]? = some (.ob n x)) (hh:sl.all (λs=>!isHs s) = true) (h:Ex B sl (mdb n) te m) :
  Sn B sl (zEf (tBM K "list" zBq (tOp (rIxT K) (tVar i) (tC (.int 1))) (xF te tNil))) (λa=>sl.set i (.ob n a)) (m.bind λy=>if x.b.length < cap then some (TpL.mk x.a (x.b ++ [y])) else none):=λc hc G D σ H s kk=>by
 cases m with
 | none=>cases hc
 | some y =>
  have hc:(if x.b.length < cap then some (TpL.mk x.a (x.b ++ [y])) else none) = some c:=hc
  split at hc
  case isFalse=>cases hc
  rename_i hl
  cases hc
  obtain ⟨F,O,g,z⟩:=s
  obtain ⟨Oc,v,h1,⟨t,p,vs,w,rfl,h2,rfl,h4,h5⟩,c1,_⟩:=z.setC hs hh
  have ht:H t = some (.tup [w,.ref p]):=zAs z.1 n _ _ h2
  have hp:=(c1 _ mem_cons_self).1
  refine ⟨_,h1,t,[w,.ref p],1,.ref p,rfl,rfl,.inl (.inl ht),rfl,.inl ⟨rfl,_,SqL.of hp⟩,h y rfl F O H σ _ z λu F' H' gr r=>?_⟩
  obtain ⟨Oc2,v2,h1',⟨t2,p2,vs2,w2,rfl,h2',rfl,h4',h5'⟩,c2,nd,_,up⟩:=(z.grow gr).setC hs hh
  cases h1.symm.trans h1'
  have e2:reg B F' H' (mdb n) t = some (.tup [w,.ref p]):=wA gr (mdb n) _ _ h2
  cases e2.symm.trans h2'
  have hp2:=(c2 _ mem_cons_self).1
  obtain ⟨O',z'⟩:=up (TpL.mk x.a (x.b ++ [y])) [(p,.lst (vs2 ++ [u]))] (upd H' p (.lst (vs2 ++ [u]))) ⟨t,p,_,w,rfl,e2,rfl,h4',h5'.snoc r⟩ (by simp) (λb o e off=>by rw [zO λq=>off _ mem_cons_self q.symm]; exact e) λq hq=>by
   obtain rfl:=mem_singleton.mp hq
   exact ⟨zR,.inl ⟨_,mem_cons_self,rfl⟩⟩
  exact ⟨p,vs2,u,rfl,rfl,hp2,zA0 (by rw [h5'.len]; exact hl),kk _ _ ⟨F',O',g.trans gr.ff,z'⟩⟩
end
def zBv (x:Rws Int) (k:Int) (f:LI->Option (LI × LI)):Option (LI × LI):=if 0 <= k then (x.xss[k.toNat]?).bind f else none
theorem ec_rowT {A:Type} {as:A->SL K} {f:LI->A->Option (LI × LI)} {α0 A':Type} [Rp K α0] {as':A'->SL K} {jn:α0->A'->A} {x0:α0} {a':A'} (j:Nat) (hs:sl[j]? = some (.ob n x)) (hh:sl.all (λs=>!isHs s) = true)
  (hj:∀ x0 a,as (jn x0 a) = .fz false x0 :: as' a) (h0:Ex B sl .fz t0 (some x0)) (hk:Ex B sl .hp t2 (some k)) (h:Ea B sl .fz ta as' (some a')) (e:zBv x k (λrow=>f row (jn x0 a')) = some (xs,r)) :
  EiC B sl (sl.set j (.ob n (zDj x k r))) true (zK1 K (zKi (spQ K as f) [] E0 (xF t0 (xF (tOp (rIxL K) (tVar j) t2) ta)))) (some xs):=by
 unfold zBv at e
 split at e
 case isFalse=>cases e
 rename_i k0
 cases er:x.xss[k.toNat]? with
 | none=>rw [er] at e; cases e
 | some row =>
  rw [er] at e
  exact zK9 j hs hh hj h0 hk h rfl rfl rfl k0 er e
theorem ex_scr (h:Ex B sl md te m):Ex B sl md te (m.bind λx=>some (Scr.mk x)):=λc hc F O H σ Q s k=>by
 cases m with
 | none=>cases hc
 | some x =>
  cases hc
  refine h x rfl F O H σ Q s λv F' H' g r=>k v F' H' g ?_
  obtain ⟨p,vs,rfl,z1,z2⟩:=r
  have z3:vs = x.map V.int:=z2.vals
  subst z3
  exact ⟨p,rfl,SqL.of z1⟩
end
section
variable {K:PySem.W.Frag} {B:Bs} {sl:SL K} {md:Md} {te ti tj:TE}
theorem zN2 {m:Option Scr} {mi mj:Option Int} (h:Ex B sl .hp te m) (hi:Ex B sl .hp ti mi) (hj:Ex B sl .hp tj mj):Eo B sl md (tSl (rSlL K) te (zKh ti) (zKh tj)) (m.bind λxs=>mi.bind λi=>mj.bind λj=>some (cutL xs.ns (some i) (some j))):=λc hc F O H σ Q s k=>by
 obtain ⟨xs,i,hx,hi',hc⟩:=zAo hc
 cases ej:mj with
 | none=>rw [ej] at hc; cases hc
 | some j =>
  rw [ej] at hc
  cases hc
  refine h xs hx F O H σ _ s λv F' H' g r=>?_
  refine hi i hi' F' O H' σ _ (s.grow g) λu F2 H2 g2 r2=>?_
  have r2:u = .int i:=r2
  refine ⟨i,r2,?_⟩
  refine hj j ej F2 O H2 σ _ ((s.grow g).grow g2) λu3 F3 H3 g3 r3=>?_
  have r3:u3 = .int j:=r3
  obtain ⟨p,rfl,z1⟩:=r
  exact ⟨j,r3,p,xs.ns.map V.int,rfl,(g2.trans g3).hh.seq z1,λl hl=>k l _ F3 H3 (g.trans (g2.trans g3)) hl ((A2.of_map (R:=rp K (reg B F3 H3 md)) (f:=V.int) (λ_=>rfl) xs.ns).cut _ _)⟩
theorem zN1 {m:Option Scr} {mi:Option Int} (h:Ex B sl .hp te m) (hi:Ex B sl .hp ti mi):Eo B sl md (tSl (rSlL K) te (zKh ti) zFc) (m.bind λxs=>mi.bind λi=>some (cutL xs.ns (some i) none)):=λc hc F O H σ Q s k=>by
 obtain ⟨xs,i,hx,hi',hc⟩:=zAo hc
 cases hc
 refine h xs hx F O H σ _ s λv F' H' g r=>?_
 refine hi i hi' F' O H' σ _ (s.grow g) λu F2 H2 g2 r2=>?_
 have r2:u = .int i:=r2
 obtain ⟨p,rfl,z1⟩:=r
 exact ⟨i,r2,p,xs.ns.map V.int,rfl,g2.hh.seq z1,λl hl=>k l _ F2 H2 (g.trans g2) hl ((A2.of_map (R:=rp K (reg B F2 H2 md)) (f:=V.int) (λ_=>rfl) xs.ns).cut _ _)⟩
end
open PySem L2 SeqAt
section
variable {K:PySem.W.Frag}
def unV:Value->V
 | .none=>.non
 | .bool b=>.bl b
 | .int i _=>.int i
 | .str x _=>.str x
 | .bytes b _=>.byt b
 | .float b _=>.flt b
 | .ref a=>.ref a
 | .type n=>.ty n
 | _=>.non
theorem unV_of:∀ {v:V} {u:Value},RelV v u->unV u = v
 | .non,_,h=>by cases h; rfl
 | .bl _,_,h=>by cases h; rfl
 | .int _,_,h=>by obtain ⟨t,rfl⟩:=h; rfl
 | .str _,_,h=>by obtain ⟨t,rfl⟩:=h; rfl
 | .byt _,_,h=>by obtain ⟨t,rfl⟩:=h; rfl
 | .flt _,_,h=>by obtain ⟨t,rfl⟩:=h; rfl
 | .ref _,_,h=>by cases h; rfl
 | .ty _,_,h=>by cases h; rfl
def inL {α:Type} [DecidableEq α] (a:α) (bs:List α):Bool:=decide (a ∈ bs)
def rInv (K:PySem.W.Frag) (α:Type) [Rp K α] [DecidableEq α]:R2:=λx y H Q=>∃ (a:α) (bs:List α),rp K H x a /\ rp K H y bs /\ Q (.bl (decide (a ∈ bs))) H
noncomputable def eIn (K:PySem.W.Frag) (H:Hp) {α:Type} [Rp K α] (a:α) (u:Value):Bool:=@decide (rp K H (unV u) a) (Classical.propDecidable _)
theorem zRj {α:Type} [Rp K α] [DecidableEq α] [Eqv K α] {a b:α} (r:RelV v u) (h:rp K H v b):eIn K H a u = decide (a = b):=by
 unfold eIn
 rw [unV_of r]
 by_cases z:a = b
 ·rw [decide_eq_true z,@decide_eq_true _ (Classical.propDecidable _) (z ▸ h)]
 ·rw [decide_eq_false z,@decide_eq_false _ (Classical.propDecidable _) λq=>z (Eqv.det (K:=K) q h)]
theorem zOj {α:Type} [Rp K α] [DecidableEq α] [Eqv K α] {a:α}:∀ {vs:List V} {us:List Value} {bs:List α},Vals vs us->A2 (rp K H) vs bs->us.any (eIn K H a) = decide (a ∈ bs)
 | [],_,[],.nil,_=>by simp
 | v :: vs,u :: us,b :: bs,.cons r t,h=>by
  rw [any_cons,zOj t h.2]
  rw [zRj r h.1]
  by_cases z:a = b <;> simp [z]
 | [],_,_ :: _,_,h=>h.elim
 | _ :: _,_,[],_,h=>h.elim
theorem zM6 {α:Type} [Rp K α] [DecidableEq α] [Eqv K α] (I:Inv X pins σ H s) {A:Around} (hu:A.units + Eqv.dep K α < cLine) {a:α} (hx:rp K H x a) (rx:RelV x w):∀ {vs:List V} {us:List Value} {bs:List α},Vals vs us->A2 (rp K H) vs bs->∀ u ∈ us,EqAt A s u w (eIn K H a u)
 | [],_,_,.nil,_=>λu hu=>by cases hu
 | v :: vs,u :: us,b :: bs,.cons r t,h=>λu' hu'=>by
  rcases mem_cons.mp hu' with rfl | hu'
  ·rw [zRj r h.1,show decide (a = b) = decide (b = a) from decide_eq_decide.mpr ⟨Eq.symm,Eq.symm⟩]
   exact Eqv.eqA (K:=K) I hu h.1 hx r rx
  ·exact zM6 I hu hx rx t h.2 u' hu'
 | _ :: _,_,[],_,h=>h.elim
theorem op_inv (K:PySem.W.Frag) (α:Type) [Rp K α] [DecidableEq α] [Eqv K α] {X:Cx} (hr:Room k X.A) (hd:Eqv.dep K α <= 63:=by exact Nat.le_of_ble_eq_true rfl):OpR X (compareOp .In) (rInv K α):=by
 intro pins s σ H x y v u Q I rx ry h
 obtain ⟨a,bs,h1,⟨p,vs,rfl,h2,h3⟩,q⟩:=h
 cases ry
 obtain ⟨us,r,pl,_⟩:=I.list (SqL.of h2)
 refine SeqAt.in_listAt (eIn K H a) pl.isList (λw hw=>zM6 I (A:=X.A.in1) (by rw [uW]; have:=hr.units; omega) h1 rx r h3 w (by simpa using hw)) ⟨.bl _,H,I,rfl,?_⟩
 rw [show us.toArray.any (eIn K H a) = us.any (eIn K H a) by simp,zOj r h3]
 exact q
variable {B:Bs} {sl:SL K} {md md1:Md} {α:Type} [Rp K α] {t1 t2:TE}
theorem ex_inv [DecidableEq α] {m1:Option α} {m2:Option (List α)} (h1:Ex B sl .hp t1 m1) (h2:Ex B sl .hp t2 m2):Ex B sl md (tOp (rInv K α) t1 t2) (m1.bind λa=>m2.bind λb=>some (inL a b)) :=
 zC6 (f:=λa b=>some (inL a b)) (λa b c v w H Q e r1 r2 q=>by cases e; exact ⟨a,b,r1,r2,q⟩) h1 h2
end
def top (i:Nat):Stmt:=PySem.Challenge.pw_treesay_k72_failings_fall.main.body.getD i (.Pass ⟨0,0,0,0⟩)
abbrev s_everywhere:Stmt:=top 2
abbrev s_unshared:Stmt:=top 3
abbrev s_sight_failing:Stmt:=top 5
abbrev s_sight_failings:Stmt:=top 6
abbrev s_failed_pairs:Stmt:=top 7
abbrev s_answer_counts:Stmt:=top 8
abbrev s_left_without_answer:Stmt:=top 9
abbrev s_failings:Stmt:=top 10
abbrev s_followed:Stmt:=top 11
abbrev s_is_stand:Stmt:=top 22
abbrev s_check_stands:Stmt:=top 23
abbrev s_check_steps:Stmt:=top 24
abbrev s_is_name:Stmt:=top 25
abbrev s_check_marks:Stmt:=top 26
abbrev s_check_fair:Stmt:=top 27
abbrev s_copied:Stmt:=top 28
abbrev zDa:Stmt:=top 29
abbrev sInit:Stmt:=zDx (top 30) 0
abbrev s_Machine_many:Stmt:=zDx (top 30) 1
abbrev s_Machine_next_of:Stmt:=zDx (top 30) 2
abbrev s_Machine_before:Stmt:=zDx (top 30) 3
abbrev s_Machine_names_at:Stmt:=zDx (top 30) 5
abbrev s_l_cell_at:Stmt:=top 32
abbrev s_l_mixed:Stmt:=top 33
abbrev s_l_name_by:Stmt:=top 34
abbrev s_l_some_of:Stmt:=top 35
abbrev s_l_steps_by:Stmt:=top 36
abbrev s_l_sets_by:Stmt:=top 37
abbrev s_l_maps_by:Stmt:=top 38
abbrev s_l_marked_by:Stmt:=top 39
abbrev s_l_two_by:Stmt:=top 40
abbrev s_l_machine:Stmt:=top 41
abbrev s_l_names:Stmt:=top 42
abbrev s_l_whole:Stmt:=top 43
abbrev s_l_formed:Stmt:=top 44
abbrev s_l_earlier:Stmt:=top 45
abbrev s_l_holds:Stmt:=top 46
abbrev s_law:Stmt:=top 47
section
variable {P:Program} {w:World} {K:PySem.W.Frag} {mg:Str->Option Value} {base:Heap}
def spSo (K:PySem.W.Frag):Sp:=λvs H Q _=>∃ (a:Addr) (bs:List Addr) (xss:List LI),vs = [.ref a] /\ SqL K H a (bs.map V.ref) /\ RowsR K H bs xss /\ xss.length <= 60 /\ zQk xss.length xss /\
 ∀ (r:Addr) (cs:List Addr) (H':Hp),Same H H'->H r = none->H' r = some (.lst (cs.map V.ref))->cs.length = xss.length->RowF H' cs (src xss)->(∀ c ∈ cs,H c = none)->Q (.ref r) H'
theorem scSo:FnScope ["steps","sources","stand","targets","target"] ["steps"] (zK zDa):=⟨rfl,rfl,rfl,by decide +kernel,rfl,by decide +kernel,by decide +kernel⟩
theorem ndSd:(["stand"]:List Str).Nodup:=by decide +kernel
theorem nd_inj {cs:List Addr} (nd:cs.Nodup) {i j:Nat} {c:Addr} (h1:cs[i]? = some c) (h2:cs[j]? = some c):i = j:=by
 obtain ⟨k1,e1⟩:=List.getElem?_eq_some_iff.mp h1
 obtain ⟨k2,e2⟩:=List.getElem?_eq_some_iff.mp h2
 exact (getElem_inj nd).mp (e1.trans e2.symm)
theorem RowF.put {row':Nat->LI} (r:RowF H cs row) (nd:cs.Nodup) (hc:cs[j]? = some c) (e:row' j = xs) (e':∀ k,k ≠ j->row' k = row k):RowF (upd H c (.lst (xs.map V.int))) cs row':=λk d hd=>by
 by_cases hk:k = j
 ·subst hk
  rw [hc] at hd
  cases hd
  rw [zR,e]
 ·rw [zO (λz=>hk (nd_inj nd hd (by rw [z]; exact hc))),e' k hk]
  exact r k d hd
theorem ok_so (F:Fun K "sources_of" "sources_of" zDa f fd) (B:Bl K mg):FnOk P w K mg base CX0 1 f fd ["steps"] (spSo K):=by
 refine F.ok scSo (λvs H Q E h=>?_) (λcdv A outer s H vs Q E hr h=>?_)
 ·obtain ⟨a,bs,xss,rfl,_⟩:=h
  rfl
 obtain ⟨a,bs,xss,rfl,hS,hR,h60,hV,q⟩:=h
 have hbl:(bs.map V.ref).length = xss.length:=by rw [length_map]; exact hR.1
 refine ⟨_,zC (zFs (i:=1) (own:=["stand"]) (ix:=[]) scSo.nd rfl rfl rfl rfl rfl (zH9 (pv 0)) (λC s H fp=>yL (i:=0) ndSd rfl (Or.inl rfl)) (λC s H fp=>vN) (λC s H fp=>wM zE))
  (zC (xQ PassesOwn.never rfl (zMl rfl B.enum (zA (pv 0) zE)) (zAt rfl (zW (yL (i:=2) scSo.nd rfl (Or.inl rfl)) (zW (yL (i:=3) scSo.nd rfl (Or.inl rfl)) wC)))
   (zFr (xQ PassesOwn.never rfl (zH9 (pv 3)) (yL (i:=4) scSo.nd rfl (Or.inl rfl))
    (zFr (yJ (pe_bm PySem.F.plainAttrs_list PySem.F.slot_list_append PySem.F.type_list_append yN (yD zNg (pv 1) (pv 4) (λ_ _=>rfl)) (zA (pv 2) zE)))))))
  (zFr (yB (pv 1)))),?_⟩
 refine ⟨_,rfl,a,rfl,⟨_,hS⟩,zHm (K:=K) (a:=a) (xs:=bs.map V.ref) (λi ys σ H2=>∃ (cs:List Addr) (v:Option V),ys = cs.map V.ref /\ σ = [v] /\ Same H H2 /\ News H H2 cs (replicate i []) /\ cs.length = i)
  ⟨[],none,rfl,rfl,Same.refl H,News.nil,rfl⟩ (λi ys σ H2 _ ⟨cs,v,e,_,s2,_,hi⟩=>⟨s2.seq hS,by rw [e,length_map,hi]; exact Nat.le_refl _⟩) (zGn (by omega)) ?_ ?_⟩
 ·rintro i y ys σ H2 hi ⟨cs,v,rfl,rfl,s2,hN,hci⟩
  refine zPo ?_
  refine ⟨(by show 0 <= sizeLine; decide),λl hl'=>?_⟩
  refine ⟨cs ++ [l],_,by rw [map_append] <;> rfl,rfl,s2.trans (same_new hl' _),?_,by rw [length_append,hci] <;> rfl⟩
  have e:replicate (i + 1) ([]:List V) = replicate i [] ++ [[]]:=List.replicate_succ'
  rw [e]
  exact hN.snoc s2 hl'
 rintro ys σ H2 ⟨cs,v,rfl,rfl,s2,hN,hci⟩ r hr0
 have hcl:cs.length = xss.length:=by rw [hci,hbl]
 have s3:Same H (upd H2 r (.lst (cs.map V.ref))):=s2.trans (same_new hr0 _)
 have hrH:H r = none:=s2.free hr0
 have nrc:r ∉ cs:=hN.notin hr0
 have R0:RowF (upd H2 r (.lst (cs.map V.ref))) cs (src (xss.take 0)):=λj c hc=>by
  obtain ⟨xs,h1,h2⟩:=hN.at_ j c hc
  have e:xs = []:=by
   rw [getElem?_replicate] at h1
   split at h1
   ·exact (Option.some.inj h1).symm
   ·cases h1
  subst e
  rw [zO (λz=>nrc (by rw [<- z]; exact mem_of_getElem? hc)),h2]
  rfl
 refine ⟨_,rfl,a,rfl,⟨_,s3.seq hS⟩,zP3 (K:=K) (a:=a) (xs:=bs.map V.ref) (λi σ H4=>∃ u v t,σ = [some (.ref a),some (.ref r),u,v,t] /\ Same H H4 /\ H4 r = some (.lst (cs.map V.ref)) /\ RowF H4 cs (src (xss.take i)))
  ⟨none,none,none,rfl,s3,zR,R0⟩ (λi σ H4 _ ⟨_,_,_,_,s4,_⟩=>s4.seq hS) ?_ ?_⟩
 ·rintro i x t σ H4 hi ht ⟨u,v,t',rfl,s4,hr4,R4⟩
  obtain ⟨b,rfl,hb⟩:=ref_at hi
  obtain ⟨xs,hx,hsq⟩:=hR.2 i b hb
  obtain ⟨ne,nd,len,vr⟩:=hV.2 xs (mem_of_getElem? hx)
  have il:=zZ hx
  have st:Same H4 (upd H4 t (.tup [.int i,.ref b])):=same_new ht _
  have s5:=s4.trans st
  refine ⟨t,_,rfl,SqT.of zR,rfl,_,_,rfl,_,_,rfl,rfl,?_⟩
  refine ⟨_,rfl,b,rfl,⟨_,s5.seq hsq⟩,zP2 (K:=K) (a:=b) (xs:=xs.map V.int) (λm σ H6=>∃ tt,σ = [some (.ref a),some (.ref r),some (.int i),some (.ref b),tt] /\ Same H H6 /\ H6 r = some (.lst (cs.map V.ref)) /\
   RowF H6 cs λj=>src (xss.take i) j ++ (if (j:Int) ∈ xs.take m then [(i:Int)] else [])) ⟨t',rfl,s5,st _ _ hr4,λj c hc=>?_⟩ (λm σ H6 _ ⟨_,_,s6,_⟩=>s6.seq hsq) ?_ ?_⟩
  ·rw [st _ _ (R4 j c hc)]
   simp
  ·rintro m y σ H6 hm ⟨tt,rfl,s6,hr6,R6⟩
   obtain ⟨z,rfl,hz⟩:=int_at hm
   obtain ⟨z0,z1⟩:=vr z (mem_of_getElem? hz)
   have zl:z.toNat < cs.length:=by rw [hcl]; omega
   have hc:cs[z.toNat]? = some cs[z.toNat]:=List.getElem?_eq_getElem zl
   have hz':((z.toNat:Nat):Int) = z:=by omega
   have hrow:=R6 z.toNat _ hc
   have hno:¬ z ∈ xs.take m:=zBa nd hz
   simp only [hz',if_neg hno,append_nil] at hrow
   have hix:atI (cs.map V.ref) z = some (.ref cs[z.toNat]):=by
    have:=zD7 (zMc hc)
    rw [hz'] at this
    exact this
   refine ⟨_,rfl,_,rfl,r,_,z,_,rfl,rfl,SqL.of hr6,hix,.inl ⟨rfl,_,SqL.of hrow⟩,_,rfl,_,_,_,rfl,rfl,hrow,?_,?_⟩
   ·have:=src_len (xss.take i) z.toNat
    rw [length_take] at this
    refine zGn ?_
    rw [length_map]
    omega
   ·have cH:H cs[z.toNat] = none:=hN.new _ (mem_of_getElem? hc)
    have cr:r ≠ cs[z.toNat]:=λe=>nrc (by rw [e]; exact mem_of_getElem? hc)
    refine ⟨_,rfl,s6.put cH _,by rw [zO cr]; exact hr6,?_⟩
    have em:(src (xss.take i) z.toNat).map V.int ++ [V.int i] = (src (xss.take i) z.toNat ++ [(i:Int)]).map V.int:=by rw [map_append] <;> rfl
    rw [em]
    refine R6.put hN.nd hc ?_ λk hk=>?_
    ·rw [hz',if_pos ((vU hz).mpr (.inr rfl))]
    ·have hk':((k:Int) ∈ xs.take (m + 1)) = ((k:Int) ∈ xs.take m):=by
      rw [vU hz]
      refine propext ⟨λh=>h.elim id λe=>absurd (by omega) hk,.inl⟩
     simp only [hk']
  ·rintro σ H6 ⟨tt,rfl,s6,hr6,R6⟩
   refine ⟨_,_,_,rfl,s6,hr6,λj c hc=>?_⟩
   rw [R6 j c hc,zOv hx j,length_map,take_length]
 ·rintro σ H4 ⟨u,v,t,rfl,s4,hr4,R4⟩
  refine ⟨_,rfl,?_⟩
  have e:xss.take (bs.map V.ref).length = xss:=by rw [hbl]; exact take_length
  rw [e] at R4
  exact q r cs H4 s4 hrH hr4 hcl R4 hN.new
end
structure FunD (K:PySem.W.Frag) (x qual:Str) (st:Stmt) (dV:Value) (f:Addr) (fd:FuncData):Prop where
 ex:∃ (oc:Value) (od:Option Addr) (kV doc pm:Value) (an:Option Addr) (cdv ct:Value) (osl:Array (Option Value)),
  fd = fnOf x qual (vD st) (xU st) (zK st) dV kV doc pm an cdv ct /\ K.lookup f = some ⟨oc,od,.func fd,osl⟩ /\ codeIn K cdv qual = true
 kp:keepIn K (.ref f) = true
section
variable {P:Program} {w:World} {K:PySem.W.Frag} {mg:Str->Option Value} {base:Heap}
theorem FunD.ok (F:FunD K x qual st dV f fd) (S:FnScope N ps (zK st)) (len:∀ vs H Q E,sp vs H Q E->vs.length = ps.length)
  (hbody:∀ (cdv:Value) (A:Around) (outer:List Env) (s:Shared) (H:Hp) (vs:List V) (Q:VK) (E:XK),Room k (A.deeper (PyProof.Rows.envOfC qual (zK st) s.heap.objs.size f cdv))->sp vs H Q E ->
   ∃ t,PSs (cxOf CX0 P w K mg base N qual (zK st) f cdv A outer s H E).nox (xU st) t /\ t { nx:=λ_ H'=>Q .non H',rt:=Q } (start N vs) H):FnOk P w K mg base CX0 (k + 1) f fd ps sp:=by
 obtain ⟨oc,od,kV,doc,pm,an,cdv,ct,osl,rfl,lk,hcd⟩:=F.ex
 refine fn_of lk hcd S len λA outer s H vs Q E hr hsp=>?_
 obtain ⟨t,h,q⟩:=hbody cdv A outer s H vs Q E hr hsp
 exact ⟨t,h.nox,q⟩
structure Cl (K:PySem.W.Frag) (mg:Str->Option Value) (C:Addr):Prop where
 cl:Cls K C
 nS:NoAttr K C "steps"
 nM:NoAttr K C "marks"
 nF:NoAttr K C "fair"
 nB:NoAttr K C "sources"
 mgC:mg "Machine" = some (.ref C)
theorem scIn:FnScope ["self","steps","marks","fair","given_marks","given_fair"] ["self","steps","marks","fair"] (zK sInit):=⟨rfl,rfl,rfl,by decide +kernel,rfl,by decide +kernel,by decide +kernel⟩
theorem ndNs:(["name","stands"]:List Str).Nodup:=by decide +kernel
theorem putF_len (f:Str) (v:V):∀ fs:List (Str × V),(putF f v fs).length <= fs.length + 1
 | []=>Nat.le_refl _
 | (g,x) :: r=>by
  unfold putF
  split
  ·exact Nat.le_succ _
  ·exact Nat.succ_le_succ (putF_len f v r)
theorem zL9:∀ {vs:List V} {xss:List LI},A2 (rp K R) vs xss->∃ bs:List Addr,vs = bs.map V.ref /\ RowsR K R bs xss
 | [],[],_=>⟨[],rfl,rfl,λi b h=>by simp at h⟩
 | v :: vs,xs :: xss,h=>by
  obtain ⟨bs,e,h1,h2⟩:=zL9 h.2
  obtain ⟨p,ws,rfl,h3,h4⟩:=h.1
  have h5:ws = xs.map V.int:=h4.vals
  refine ⟨p :: bs,by rw [e,map_cons],by rw [length_cons,length_cons,h1],λi b hb=>?_⟩
  cases i with
  | zero=>simp at hb; subst hb; exact ⟨xs,rfl,SqL.of (by rw [h3,h5])⟩
  | succ i=>exact h2 i b (by simpa using hb)
 | [],_ :: _,h=>h.elim
 | _ :: _,[],h=>h.elim
def fSo (xss:LLI):Option LLI:=if xss.length <= 60 /\ zQk xss.length xss then some (srcs xss) else none
theorem ok_soG (F:Fun K "sources_of" "sources_of" zDa f fd) (B:Bl K mg):FnOk P w K mg base CX0 1 f fd ["steps"] (spF K false (λa:LLI × Unit=>([.fz false a.1]:SL K)) λa=>fSo a.1):=by
 refine (ok_so F B).imp λvs H Q E h=>?_
 obtain ⟨⟨xss,⟨⟩⟩,b,Fa,s,hb,r,q⟩:=h
 have hb:fSo xss = some b:=hb
 unfold fSo at hb
 split at hb
 case isFalse=>cases hb
 rename_i hv
 cases hb
 cases r with
 | cons r1 r2 =>
  cases r2
  obtain ⟨a,ws,rfl,h1,h2⟩:=r1
  obtain ⟨bs,rfl,h3⟩:=zL9 (K:=K) h2
  refine ⟨a,bs,xss,rfl,SqL.of (s _ _ h1),h3.same s,hv.1,hv.2,λrr cs H' s' hr e l R N=>q _ _ s' ?_⟩
  refine ⟨rr,_,rfl,by show dif H' H rr = _; rw [xA hr]; exact e,?_⟩
  exact rowf_rp (K:=K) l R λc hc o e=>by show dif H' H c = _; rw [xA (N c hc)]; exact e
theorem ok_inG {fS:LLI->Option Unit} {fM:MKs->Int->Option Unit} {fF:LLI->Int->Option Unit} {fC fO:LLI->Option LLI} (F:FunD K "__init__" "Machine.__init__" sInit dV f fd) (T:Cl K mg C) (B:Bl K mg)
  (CS:Cal P w K mg base k "check_steps" ["steps"] (spF K false (λa:LLI × Unit=>([.fz false a.1]:SL K)) λa=>fS a.1))
  (CM:Cal P w K mg base k "check_marks" ["marks","many"] (spF K false (λa:MKs × Int × Unit=>([.fz false a.1,.fz false a.2.1]:SL K)) λa=>fM a.1 a.2.1))
  (CF:Cal P w K mg base k "check_fair" ["fair","many"] (spF K false (λa:LLI × Int × Unit=>([.fz false a.1,.fz false a.2.1]:SL K)) λa=>fF a.1 a.2.1))
  (CC:Cal P w K mg base k "copied" ["lists"] (spF K false (λa:LLI × Unit=>([.fz false a.1]:SL K)) λa=>fC a.1))
  (CO:Cal P w K mg base k "sources_of" ["steps"] (spF K false (λa:LLI × Unit=>([.fz false a.1]:SL K)) λa=>fO a.1)) :
  FnOk P w K mg base CX0 (k + 1) f fd ["self","steps","marks","fair"] (zLw K C (mkG C fS fM fF fC fO)):=by
 refine F.ok scIn (λvs H Q E h=>?_) (λcdv A outer s H vs Q E hr h=>?_)
 ·obtain ⟨p,dx,vS,vM,vF,xss,mo,fo,M,rfl,_⟩:=h
  rfl
 obtain ⟨p,dx,vS,vM,vF,xss,mo,fo,M,rfl,hp,rS,rM,rF,hm,q⟩:=h
 unfold mkG at hm
 obtain ⟨⟨⟩,e1,hm⟩:=uO hm
 obtain ⟨⟨⟩,e2,hm⟩:=uO hm
 obtain ⟨⟨⟩,e3,hm⟩:=uO hm
 obtain ⟨a,e4,hm⟩:=uO hm
 obtain ⟨b,e5,hm⟩:=uO hm
 obtain ⟨c,e6,hm⟩:=uO hm
 obtain ⟨d,e7,hm⟩:=uO hm
 cases hm
 refine ⟨_,zC (zMh (i:=4) scIn.nd rfl (Or.inl rfl) (zJl (zBw (zG1 (pv 2))) (wM zE) (pv 2)))
  (zC (zMh (i:=5) scIn.nd rfl (Or.inl rfl) (zJl (zBw (zG1 (pv 3))) (wM zE) (pv 3)))
  (zC (yJ (yC CS hr (zA (pv 1) zE)))
  (zC (yJ (yC CM hr (zA (pv 4) (zA (zN (yQ K) rfl B.len PySem.boot_len (zA (pv 1) zE)) zE))))
  (zC (yJ (yC CF hr (zA (pv 5) (zA (zN (yQ K) rfl B.len PySem.boot_len (zA (pv 1) zE)) zE))))
  (zC (zJj (pv 0) (yC CC hr (zA (pv 1) zE)) rfl)
  (zC (zJj (pv 0) (wO (own:=["name","stands"]) (ix:=[]) rfl rfl rfl (xE K (pv 4)) (λC s H fp=>zCe (K:=K) (n:=2) rfl rfl (zW (yL (i:=0) ndNs rfl (Or.inl rfl)) (zW (yL (i:=1) ndNs rfl (Or.inl rfl)) wC))) (λC s H fp=>vN)
   (λC s H fp=>wW (zA (pv 0) (zA (vG (zBs K) rfl B.list zAe (zA (pv 1) zE)) zE)))) rfl)
  (zC (zJj (pv 0) (yC CC hr (zA (pv 5) zE)) rfl)
  (zFr (zJj (pv 0) (yC CO hr (zA (zQ3 (pv 0) rfl) zE)) rfl))))))))),?_⟩
 have sg0:Sg (K:=K) ⟨hid H p,H⟩ (hid H p) [.fz false (RefTo.mk ():RefTo p),.fz false xss,.fz false mo,.fz false fo,.un,.un] [some (.ref p),some vS,some vM,some vF,none,none] H :=
  ⟨hid H p,[],.refl _,zRl (.fz (show rp K _ _ (RefTo.mk ():RefTo p) from rfl) (.fz rS (.fz rM (.fz rF (.un (.un .nil))))))⟩
 refine (Sn.of (yF false 4 rfl rfl (zRg (et_b (md:=.hp) (zHj (zF 2 rfl))) (Eo.ex (uX (α:=Str × LI))) (zAz (yZ 2 rfl)))) (show _ = some (mo.getD []) by cases mo <;> rfl)) _ rfl (hid H p) _ _ H sg0 λσ1 H1 sg1=>?_
 refine (Sn.of (yF false 5 rfl rfl (zRg (et_b (md:=.hp) (zHj (zF 3 rfl))) (Eo.ex (uX (α:=LI))) (zAz (yZ 3 rfl)))) (show _ = some (fo.getD []) by cases fo <;> rfl)) _ rfl (hid H p) _ _ H1 sg1 λσ2 H2 sg2=>?_
 refine (Sn.of (zB9 (md:=.hp) (zP (f:=λa:LLI × Unit=>fS a.1) (zG (zF 1 rfl) zQ))) (show _ = fS xss from rfl)) () e1 (hid H p) _ _ H2 sg2 λσ3 H3 sg3=>?_
 refine (Sn.of (zB9 (md:=.hp) (zP (f:=λa:MKs × Int × Unit=>fM a.1 a.2.1) (zG (zF 4 rfl) (zG (Ex.sc (md:=.hp) (yW (zF 1 rfl))) zQ)))) (show _ = fM (mo.getD []) (xss.length:Int) from rfl)) () e2 (hid H p) _ _ H3 sg3 λσ4 H4 sg4=>?_
 refine (Sn.of (zB9 (md:=.hp) (zP (f:=λa:LLI × Int × Unit=>fF a.1 a.2.1) (zG (zF 5 rfl) (zG (Ex.sc (md:=.hp) (yW (zF 1 rfl))) zQ)))) (show _ = fF (fo.getD []) (xss.length:Int) from rfl)) () e3 (hid H p) _ _ H4 sg4 λσ5 H5 sg5=>?_
 obtain ⟨F5,O5,g5,k5,s5⟩:=sg5
 have s5:SlotsOk (K:=K) ⟨hid H p,H⟩ F5 (lo F5 O5 H5) H5 [.fz false (RefTo.mk ():RefTo p),.fz false xss,.fz false mo,.fz false fo,.fz false (mo.getD []),.fz false (fo.getD [])] σ5 O5:=s5
 cases s5 with | fz r0 s5 =>
 cases s5 with | fz r1 s5 =>
 cases s5 with | fz r2 s5 =>
 cases s5 with | fz r3 s5 =>
 cases s5 with | fz r4 s5 =>
 cases s5 with | fz r5 s5 =>
 cases s5
 rename_i v0 v1 v2 v3 v4 v5
 have r0:v0 = .ref p:=r0
 subst r0
 have hF:Same F5 (hid H5 p):=λb o e=>by
  by_cases z:b = p
  ·subst z
   rcases k5.fa b o e with z | z
   ·have z:hid H b b = some o:=z
    rw [zEy] at z
    cases z
   ·have z:H b = none:=z
    rw [hp] at z
    cases z
  ·rw [zDy z]; exact k5.fh b o e
 have r1:rp K (hid H5 p) v1 xss:=Rp.mono hF r1
 have r2:rp K (hid H5 p) v2 mo:=Rp.mono hF r2
 have r3:rp K (hid H5 p) v3 fo:=Rp.mono hF r3
 have r4:rp K (hid H5 p) v4 (mo.getD []):=Rp.mono hF r4
 have r5:rp K (hid H5 p) v5 (fo.getD []):=Rp.mono hF r5
 have s05:Same H H5:=k5.h0
 have hp5:H5 p = some (.ins C dx []):=s05 _ _ hp
 refine ⟨_,rfl,(xss,()),a,H5,.refl _,e4,.cons (Rp.mono zHf r1) .nil,λy1 H6 s6 t1=>?_⟩
 have t1:rp K (dif H6 H5) y1 a:=t1
 have hp6:=s6 _ _ hp5
 refine ⟨_,rfl,p,C,dx,[],rfl,hp6,T.cl,T.nS,(by show 0 < 1000; decide),?_⟩
 have f1:=Rp.mono (zJs (H:=H) (p:=p) (λb o _ e=>s05 b o e) (by rw [hp5]; intro z; cases z)) t1
 have kp6:∀ b o,b ≠ p->H b = some o->(upd H6 p (.ins C dx (putF "steps" y1 []))) b = some o:=λb o n e=>by rw [zO n]; exact s6 _ _ (s05 _ _ e)
 have h6:Same (hid H5 p) (hid (upd H6 p (.ins C dx (putF "steps" y1 []))) p):=by rw [zAw]; exact zBc s6
 have E2:Ex (K:=K) ⟨hid (upd H6 p (.ins C dx (putF "steps" y1 []))) p,upd H6 p (.ins C dx (putF "steps" y1 []))⟩ [.fz false (RefTo.mk ():RefTo p),.fz false xss,.fz false mo,.fz false fo,.fz false (mo.getD []),.fz false (fo.getD [])] .nw _ _ :=
  (wE (n:=false) (slI:=[.un,.un]) (no:=2) (ix:=[]) rfl rfl (xM (yZ 4 rfl)) (vX 0 1 rfl rfl (λ_=>rfl) rfl) (λx=>zBj) (λx=>xZ (zD 0 rfl) (zBe (zF 1 rfl)).ex) (λx=>Le0.un (Le0.un Le0.nil))).ex
 refine E2 b e5 (hid (upd H6 p (.ins C dx (putF "steps" y1 []))) p) [] _ _ _ (zRl (.fz (show rp K _ _ (RefTo.mk ():RefTo p) from rfl) (.fz (Rp.mono h6 r1) (.fz (Rp.mono h6 r2) (.fz (Rp.mono h6 r3) (.fz (Rp.mono h6 r4) (.fz (Rp.mono h6 r5) .nil))))))) λy2 F7 H7 g7 t2=>?_
 have s7:=g7.hh
 have t2:rp K (dif H7 (upd H6 p (.ins C dx (putF "steps" y1 [])))) y2 b:=Rp.mono (xG g7.ok.fh) t2
 have hp7:H7 p = some (.ins C dx (putF "steps" y1 [])):=s7 _ _ zR
 refine ⟨_,rfl,p,C,dx,_,rfl,hp7,T.cl,T.nM,(by show 1 < 1000; decide),?_⟩
 have f2:=Rp.mono (zJs (H:=H) (p:=p) kp6 (by rw [zR]; intro z; cases z)) t2
 have kp7:∀ b o,b ≠ p->H b = some o->(upd H7 p (.ins C dx (putF "marks" y2 (putF "steps" y1 [])))) b = some o:=λb o n e=>by rw [zO n]; exact s7 _ _ (kp6 _ _ n e)
 have h7:Same (hid (upd H6 p (.ins C dx (putF "steps" y1 []))) p) (hid (upd H7 p (.ins C dx (putF "marks" y2 (putF "steps" y1 [])))) p):=by rw [zAw (H:=H7)]; exact zBc s7
 refine ⟨_,rfl,(fo.getD [],()),c,_,.refl _,e6,.cons (Rp.mono (h6.trans (h7.trans zHf)) r5) .nil,λy3 H8 s8 t3=>?_⟩
 have t3:rp K (dif H8 (upd H7 p (.ins C dx (putF "marks" y2 (putF "steps" y1 []))))) y3 c:=t3
 have hp8:H8 p = some (.ins C dx (putF "marks" y2 (putF "steps" y1 []))):=s8 _ _ zR
 have l2:(putF "marks" y2 (putF "steps" y1 [])).length < 1000:=by
  have a1:=putF_len "marks" y2 (putF "steps" y1 [])
  have a2:=putF_len "steps" y1 []
  have a3:([]:List (Str × V)).length = 0:=rfl
  omega
 refine ⟨_,rfl,p,C,dx,_,rfl,hp8,T.cl,T.nF,l2,?_⟩
 have f3:=Rp.mono (zJs (H:=H) (p:=p) kp7 (by rw [zR]; intro z; cases z)) t3
 have kp8:∀ b o,b ≠ p->H b = some o->(upd H8 p (.ins C dx (putF "fair" y3 (putF "marks" y2 (putF "steps" y1 []))))) b = some o:=λb o n e=>by rw [zO n]; exact s8 _ _ (kp7 _ _ n e)
 have h8:Same (hid (upd H7 p (.ins C dx (putF "marks" y2 (putF "steps" y1 [])))) p) (hid (upd H8 p (.ins C dx (putF "fair" y3 (putF "marks" y2 (putF "steps" y1 []))))) p):=by rw [zAw (H:=H8)]; exact zBc s8
 have lk:(putF "fair" y3 (putF "marks" y2 (putF "steps" y1 []))).lookup ("steps":Str) = some y1:=by
  rw [yE,if_neg (by decide +kernel),yE,if_neg (by decide +kernel),yE,if_pos rfl]
 have d1:Same (dif (hid H6 p) (hid H p)) (hid (upd H8 p (.ins C dx (putF "fair" y3 (putF "marks" y2 (putF "steps" y1 []))))) p):=dif_le.trans ((by rw [zAw]; exact .refl _:Same (hid H6 p) (hid (upd H6 p (.ins C dx (putF "steps" y1 []))) p)).trans (h7.trans h8))
 refine ⟨_,rfl,p,C,dx,_,_,rfl,zR,T.cl,T.nS,lk,(a,()),d,_,.refl _,e7,.cons (Rp.mono (d1.trans zHf) f1) .nil,λy4 H9 s9 t4=>?_⟩
 have t4:rp K (dif H9 (upd H8 p (.ins C dx (putF "fair" y3 (putF "marks" y2 (putF "steps" y1 [])))))) y4 d:=t4
 have hp9:H9 p = some (.ins C dx (putF "fair" y3 (putF "marks" y2 (putF "steps" y1 [])))):=s9 _ _ zR
 have l3:(putF "fair" y3 (putF "marks" y2 (putF "steps" y1 []))).length < 1000:=by
  have a0:=putF_len "fair" y3 (putF "marks" y2 (putF "steps" y1 []))
  have a1:=putF_len "marks" y2 (putF "steps" y1 [])
  have a2:=putF_len "steps" y1 []
  have a3:([]:List (Str × V)).length = 0:=rfl
  omega
 refine ⟨_,rfl,p,C,dx,_,rfl,hp9,T.cl,T.nB,l3,?_⟩
 have f4:=Rp.mono (zJs (H:=H) (p:=p) kp8 (by rw [zR]; intro z; cases z)) t4
 have kp9:∀ b o,b ≠ p->H b = some o->(upd H9 p (.ins C dx (putF "sources" y4 (putF "fair" y3 (putF "marks" y2 (putF "steps" y1 [])))))) b = some o:=λb o n e=>by rw [zO n]; exact s9 _ _ (kp8 _ _ n e)
 have u9:Same (hid H9 p) (upd H9 p (.ins C dx (putF "sources" y4 (putF "fair" y3 (putF "marks" y2 (putF "steps" y1 [])))))):=(by rw [zAw]; exact .refl _:Same (hid H9 p) (hid (upd H9 p (.ins C dx (putF "sources" y4 (putF "fair" y3 (putF "marks" y2 (putF "steps" y1 [])))))) p)).trans zHf
 have u8:Same (hid H8 p) (hid H9 p):=(by rw [zAw]; exact .refl _:Same (hid H8 p) (hid (upd H8 p (.ins C dx (putF "fair" y3 (putF "marks" y2 (putF "steps" y1 []))))) p)).trans (zBc s9)
 have u7:Same (hid H7 p) (hid H8 p):=(by rw [zAw]; exact .refl _:Same (hid H7 p) (hid (upd H7 p (.ins C dx (putF "marks" y2 (putF "steps" y1 [])))) p)).trans (zBc s8)
 have u6:Same (hid H6 p) (hid H7 p):=(by rw [zAw]; exact .refl _:Same (hid H6 p) (hid (upd H6 p (.ins C dx (putF "steps" y1 []))) p)).trans (zBc s7)
 refine q _ kp9 ⟨p,dx,putF "sources" y4 (putF "fair" y3 (putF "marks" y2 (putF "steps" y1 []))),y1,y2,y3,y4,rfl,?_,?_,Rp.mono (xG (u6.trans (u7.trans (u8.trans u9)))) f1,?_,Rp.mono (xG (u7.trans (u8.trans u9))) f2,?_,Rp.mono (xG (u8.trans u9)) f3,?_,Rp.mono (xG u9) f4,?_⟩
 ·rw [xA zEy]; exact zR
 ·rw [yE,if_neg (by decide +kernel)]; exact lk
 ·rw [yE,if_neg (by decide +kernel),yE,if_neg (by decide +kernel),yE,if_pos rfl]
 ·rw [yE,if_neg (by decide +kernel),yE,if_pos rfl]
 ·rw [yE,if_pos rfl]
 ·intro g hg
  simp only [mth,mem_cons,List.not_mem_nil,or_false] at hg
  rcases hg with rfl | rfl | rfl | rfl | rfl | rfl <;> (rw [yE,if_neg (by decide +kernel),yE,if_neg (by decide +kernel),yE,if_neg (by decide +kernel),yE,if_neg (by decide +kernel)]; rfl)
end
end Ts
set_option maxHeartbeats 40000000
namespace Ts
open PySem L2
section
variable {P:Program} {w:World} {K:PySem.W.Frag} {mg:Str->Option Value} {base:Heap}
def uU (q0:Int) (q1:Int):Option Bool:=if true = true then if (!false) = true then if decide ((0:Int) <= q0) = true then some (decide (q0 < q1)) else some false else some false else some false
theorem sc_is_stand:FnScope ["thing","many"] ["thing","many"] (zK s_is_stand):=fsc
abbrev zE7 (K:PySem.W.Frag):Sp:=spF K false (λa:Int × Int × Unit=>([.z a.1,.z a.2.1]:SL K)) (λa=>uU a.1 a.2.1)
theorem zIh (F:Fun K "is_stand" "is_stand" s_is_stand f fd) (B:Bl K mg):FnOk P w K mg base CX0 (k + 1) f fd ["thing","many"] (zE7 K):=by
 refine xB F sc_is_stand (λ_=>rfl) (λ_=>rfl) λcdv A outer s H E hr=>?_
 have nd:=sc_is_stand.nd
 refine ⟨_,(zC (yB (zDm (zN (zA1 K (zAr (n:="int"))) rfl B.isi zA2 (zA (pv 0) (zA (vY (v:=.ty "int") rfl B.int zOh rfl) zE))) (zDm (zQ1 (zN (zA1 K (zAr (n:="bool"))) rfl B.isi zA2 (zA (pv 0) (zA (vY (v:=.ty "bool") rfl B.bool zOi rfl) zE)))) (zEq (zJn op_le zIc zJ (pv 0) (pv 1)))))) zH),?_⟩
 rintro Fa ⟨q0,q1,⟨⟩⟩
 exact SB.of (yO (esc (zD1 (zBi B.ii rfl (zD 0 rfl)) (zD1 (zRe (zBi B.ib rfl (zD 0 rfl))) (zJy (f:=(λi j=>decide (i <= j))) (g:=(λi j=>decide (i < j))) (zI 0) (zD 0 rfl) (zD 1 rfl)))))) (by unfold uU; simp only [bnd])
def xD (q0:LI) (q1:Int) (q2:Str):Option Unit:=(some ()).bind λahead1=>((some q0).bind λxs=>xC (λ(s2:List (Key × Bool)) (x4:Int)=>(((uU x4 q1).bind λa5=>some (!a5)).bind λb=>if b = true then none else some ()).bind λs6=>(if ((dget (Dc.mk s2).kv x4).isSome) = true then none else some ()).bind λs8=>(dput s2 x4 true).bind λahead10=>some ahead10) xs (([]:List (Key × Bool)))).bind λs3=>some ()
theorem sc_check_stands:FnScope ["stands","many","where","ahead","stand"] ["stands","many","where"] (zK s_check_stands):=fsc
abbrev vE (K:PySem.W.Frag):Sp:=spF K false (λa:LI × Int × Str × Unit=>([.z a.1,.z a.2.1,.z a.2.2.1]:SL K)) (λa=>xD a.1 a.2.1 a.2.2.1)
theorem zDq (F:Fun K "check_stands" "check_stands" s_check_stands f fd) (B:Bl K mg) (C_is_stand:Cal P w K mg base k "is_stand" ["thing","many"] (zE7 K)):FnOk P w K mg base CX0 (k + 1) f fd ["stands","many","where"] (vE K):=by
 refine zGa F sc_check_stands (λ_=>rfl) (λ_=>rfl) λcdv A outer s H E hr=>?_
 have nd:=sc_check_stands.nd
 have hu:=hu_of hr
 refine ⟨_,(zC (yI 3 nd zJm) (zC (xQ PassesOwn.never rfl (xE K (pv 0)) (pg_n 4 nd) (zC (xW (zAi (zAh (yC C_is_stand hr (zA (pv 4) (zA (pv 1) zE))))) uQ zH) (zC (xW (zBw (zQ5 hu (pv 4) (pv 3))) uQ zH) (zC (zMi hu (pv 3) (pv 4) zCf rfl) zH)))) zH)),?_⟩
 rintro Fa ⟨q0,q1,q2,⟨⟩⟩
 exact ⟨_,Sn.of (zL (zL0 (α:=Bool) 3 rfl rfl) (λahead1=>(zL (wV (n:=false) (L:=(λs2:List (Key × Bool)=>([.z q0,.z q1,.z q2,.od (s2:List (Key × Bool)),.un]:SL K))) (([]:List (Key × Bool))) lea (xM (yZ 0 rfl)) (λs2=>(yK 4 rfl rfl)) (λs2 x4=>(zL (uI (zAk (et_b (md:=.hp) (zP (zG (esc (zD 4 rfl)) (zG (esc (zD 1 rfl)) zQ))))) zA7 (zT (λs7:Unit=>([.z q0,.z q1,.z q2,.od (s2:List (Key × Bool)),.z x4]:SL K)) () lea)) (λs6=>(zL (uI (et_b (md:=.hp) (ex_din (zD 4 rfl) (zNs 3 rfl))) zA7 (zT (λs9:Unit=>([.z q0,.z q1,.z q2,.od (s2:List (Key × Bool)),.z x4]:SL K)) () lea)) (λs8=>(zL (sn_dput 3 rfl rfl (esc (zCn true)) (zD 4 rfl)) (λahead10=>(zT (λs2:List (Key × Bool)=>([.z q0,.z q1,.z q2,.od (s2:List (Key × Bool)),.un]:SL K)) ahead10 lea))))))))) (λs3=>(zT (λ_:Unit=>([.un,.un,.un,.un,.un]:SL K)) () lea))))) (by unfold xD; simp only [bnd])⟩
def wP (q0:List LI):Option Unit:=(some (q0.length:Int)).bind λmany1=>((if (decide (many1 < (1:Int))) = true then some true else some (decide ((60:Int) < many1))).bind λb=>if b = true then none else some ()).bind λs2=>((some (uF q0)).bind λxs=>xC (λ(s4:Unit) (x6:Int × LI)=>(((((fsI "steps of stand " x6.1).bind λa8=>some ((a8,()))).bind λb9=>some (many1,b9)).bind λb10=>some (x6.2,b10)).bind λz7=>xD z7.1 z7.2.1 z7.2.2.1).bind λu11=>(if (decide ((x6.2.length:Int) = (0:Int))) = true then none else some ()).bind λs12=>some ()) xs ()).bind λs5=>some ()
theorem sc_check_steps:FnScope ["steps","many","stand","targets"] ["steps"] (zK s_check_steps):=fsc
abbrev zGf (K:PySem.W.Frag):Sp:=spF K false (λa:((List LI)) × Unit=>([.z a.1]:SL K)) (λa=>wP a.1)
theorem zEj (F:Fun K "check_steps" "check_steps" s_check_steps f fd) (B:Bl K mg) (m_MOST_STANDS:mg "MOST_STANDS" = some (.int 60 t_MOST_STANDS)) (C_check_stands:Cal P w K mg base k "check_stands" ["stands","many","where"] (vE K)):FnOk P w K mg base CX0 (k + 1) f fd ["steps"] (zGf K):=by
 refine zGa F sc_check_steps (λ_=>rfl) (λ_=>rfl) λcdv A outer s H E hr=>?_
 have nd:=sc_check_steps.nd
 refine ⟨_,(zC (yI 1 nd (zN (yQ K) rfl B.len PySem.boot_len (zA (pv 0) zE))) (zC (xW (PW.pt (pw_or (zX zIc (pv 1) zJ (yR _)) (pw_or1 (zX op_gt (pv 1) (zFt (v:=.int 60) rfl m_MOST_STANDS ⟨_,rfl⟩) (yR _))))) uQ zH) (zC (xQ PassesOwn.never rfl (zCk K B.enum (zA (pv 0) zE)) (zAt rfl (zW (pg_n 2 nd) (zW (pg_n 3 nd) wC))) (zC (yJ (yC C_check_stands hr (zA (pv 3) (zA (pv 1) (zA (pe_fs (pv 2) (by decide)) zE))))) (zC (xW (zX (wR K Int hr) (zN (yQ K) rfl B.len PySem.boot_len (zA (pv 3) zE)) zJ (yR _)) uQ zH) zH))) zH))),?_⟩
 rintro Fa ⟨q0,⟨⟩⟩
 exact ⟨_,Sn.of (zL (yF true 1 rfl rfl (esc (yW (zF 0 rfl)))) (λmany1=>(zL (uI (zCo (zY (md:=.hp) (zK7 (zD 1 rfl) (zI 1))) (zY (md:=.hp) (ex_gt (zD 1 rfl) (zI 60)))) zA7 (zT (λs3:Unit=>([.z q0,.y many1,.un,.un]:SL K)) () lea)) (λs2=>(zL (wV (n:=false) (L:=(λs4:Unit=>([.z q0,.y many1,.un,.un]:SL K))) () lea (zCr (yZ 0 rfl)) (λs4=>(vX 2 3 rfl rfl (λ_=>rfl) rfl)) (λs4 x6=>(zL (zB9 (md:=.hp) (zP (zG (zF 3 rfl) (zG (esc (zD 1 rfl)) (zG (esc (zRh "steps of stand " (zD 2 rfl))) zQ))))) (λu11=>(zL (uI (zY (md:=.hp) (wS (yW (zF 3 rfl)) (zI 0))) zA7 (zT (λs13:Unit=>([.z q0,.y many1,.z x6.1,.z x6.2]:SL K)) () lea)) (λs12=>(zT (λs4:Unit=>([.z q0,.y many1,.un,.un]:SL K)) () lea))))))) (λs5=>(zT (λ_:Unit=>([.un,.un,.un,.un]:SL K)) () lea))))))) (by unfold wP; simp only [bnd])⟩
def uB (q0:Str):Option Bool:=(if (!true) = true then some true else some (decide (q0 ∈ (["all","not","both","either","somenext","eachnext","sometill","eachtill","someever","eachever"]:List Str)))).bind λb=>if b = true then some false else ((lenS q0).bind λb1=>if decide ((1:Int) <= b1) = true then some (decide (b1 <= (8:Int))) else some false).bind λc4=>if c4 = true then ((some (zFh q0)).bind λxs=>xN (λ(x2:Str)=>some true) (λ(x2:Str)=>some (inS x2 ("abcdefghijklmnopqrstuvwxyz":Str))) xs).bind λa3=>some (a3.all id) else some false
theorem sc_is_name:FnScope ["name"] ["name"] (zK s_is_name):=fsc
abbrev zH0 (K:PySem.W.Frag):Sp:=spF K false (λa:Str × Unit=>([.z a.1]:SL K)) (λa=>uB a.1)
theorem zKt (F:Fun K "is_name" "is_name" s_is_name f fd) (B:Bl K mg) (m_LETTERS:mg "LETTERS" = some (.str "abcdefghijklmnopqrstuvwxyz" t_LETTERS)) (m_LONGEST_NAME:mg "LONGEST_NAME" = some (.int 8 t_LONGEST_NAME)) (m_SAYING_WORDS:mg "SAYING_WORDS" = some (.ref a_SAYING_WORDS)) (h_SAYING_WORDS:∀ H,SqT K H a_SAYING_WORDS ((["all","not","both","either","somenext","eachnext","sometill","eachtill","someever","eachever"]:List Str).map V.str)) (zall:mg "all" = none) (zstr:mg "str" = none):FnOk P w K mg base CX0 (k + 1) f fd ["name"] (zH0 K):=by
 refine xB F sc_is_name (λ_=>rfl) (λ_=>rfl) λcdv A outer s H E hr=>?_
 have nd:=sc_is_name.nd
 refine ⟨_,(zC (xW (PW.pt (pw_or (zAi (zAh (zN (zA1 K (zAr (n:="str"))) rfl B.isi zA2 (zA (pv 0) (zA (vY (v:=.ty "str") rfl zstr zOg rfl) zE))))) (pw_or1 (zX (zDo K) (pv 0) (zFt (v:=.ref a_SAYING_WORDS) rfl m_SAYING_WORDS rfl) (by with_unfolding_all rfl))))) (zC (yB zCf) zH) zH) (zC (yB (zDm (zJn op_le op_le zJ (zN zOd rfl B.len PySem.boot_len (zA (pv 0) zE)) (zFt (v:=.int 8) rfl m_LONGEST_NAME ⟨_,rfl⟩)) (zEq (zN (zOf K rfl) rfl zall bt_all (zA (wO (own:=["sign"]) (ix:=[]) rfl rfl rfl (pi_str (pv 0)) (λC s H fp=>yL (i:=0) (show (["sign"]:List Str).Nodup from by decide +kernel) rfl (Or.inl rfl)) (λC s H fp=>vN) (λC s H fp=>(uN zMq (pv 0) (zFt (v:=.str "abcdefghijklmnopqrstuvwxyz") rfl m_LETTERS ⟨_,rfl⟩) (by with_unfolding_all rfl)))) zE))))) zH)),?_⟩
 rintro Fa ⟨q0,⟨⟩⟩
 exact SB.of (zDi (zCo (zAk (et_b (md:=.hp) (zBi ki_ss rfl (zD 0 rfl)))) (zY (md:=.hp) (ex_inT h_SAYING_WORDS (zD 0 rfl)))) (yO (esc (zCn false))) (yO (esc (zD1 (zJy (f:=(λi j=>decide (i <= j))) (g:=(λi j=>decide (i <= j))) (zI 1) (ex_lenS (zD 0 rfl)) (zI 8)) (zP6 (wE (n:=true) (slI:=[.un]) (no:=1) (ix:=[]) rfl rfl (ei_str (zD 0 rfl)) (yK 0 rfl rfl) (λx2=>zBj) (λx2=>(esc (ex_inS (zD 0 rfl) (vI "abcdefghijklmnopqrstuvwxyz")))) (λx2=>lea0)).ex))))) (by unfold uB; simp only [bnd])
def wQ (q0:List (Str × LI)) (q1:Int):Option Unit:=(some ()).bind λahead1=>((some q0).bind λxs=>xC (λ(s2:List (Key × Bool)) (x4:Str × LI)=>(((uB x4.1).bind λa5=>some (!a5)).bind λb=>if b = true then none else some ()).bind λs6=>(if ((zHl (Dc.mk s2).kv x4.1).isSome) = true then none else some ()).bind λs8=>(zN7 s2 x4.1 true).bind λahead10=>(((((fsS "mark " x4.1).bind λa12=>some ((a12,()))).bind λb13=>some (q1,b13)).bind λb14=>some (x4.2,b14)).bind λz11=>xD z11.1 z11.2.1 z11.2.2.1).bind λu15=>some ahead10) xs (([]:List (Key × Bool)))).bind λs3=>some ()
theorem sc_check_marks:FnScope ["marks","many","ahead","name","stands"] ["marks","many"] (zK s_check_marks):=fsc
abbrev zGg (K:PySem.W.Frag):Sp:=spF K false (λa:((List (Str × LI))) × Int × Unit=>([.z a.1,.z a.2.1]:SL K)) (λa=>wQ a.1 a.2.1)
theorem zEk (F:Fun K "check_marks" "check_marks" s_check_marks f fd) (B:Bl K mg) (C_check_stands:Cal P w K mg base k "check_stands" ["stands","many","where"] (vE K)) (C_is_name:Cal P w K mg base k "is_name" ["name"] (zH0 K)):FnOk P w K mg base CX0 (k + 1) f fd ["marks","many"] (zGg K):=by
 refine zGa F sc_check_marks (λ_=>rfl) (λ_=>rfl) λcdv A outer s H E hr=>?_
 have nd:=sc_check_marks.nd
 have hu:=hu_of hr
 refine ⟨_,(zC (yI 2 nd zJm) (zC (xQ PassesOwn.never rfl (xE K (pv 0)) (zAt rfl (zW (pg_n 3 nd) (zW (pg_n 4 nd) wC))) (zC (xW (zAi (zAh (yC C_is_name hr (zA (pv 3) zE)))) uQ zH) (zC (xW (zBw (zQ5 hu (pv 3) (pv 2))) uQ zH) (zC (zMi hu (pv 2) (pv 3) zCf rfl) (zC (yJ (yC C_check_stands hr (zA (pv 4) (zA (pv 1) (zA (pe_fs (pv 3) (by decide)) zE))))) zH))))) zH)),?_⟩
 rintro Fa ⟨q0,q1,⟨⟩⟩
 exact ⟨_,Sn.of (zL (zL0 (α:=Bool) 2 rfl rfl) (λahead1=>(zL (wV (n:=false) (L:=(λs2:List (Key × Bool)=>([.z q0,.z q1,.od (s2:List (Key × Bool)),.un,.un]:SL K))) (([]:List (Key × Bool))) lea (xM (yZ 0 rfl)) (λs2=>(vX 3 4 rfl rfl (λ_=>rfl) rfl)) (λs2 x4=>(zL (uI (zAk (et_b (md:=.hp) (zP (zG (esc (zD 3 rfl)) zQ)))) zA7 (zT (λs7:Unit=>([.z q0,.z q1,.od (s2:List (Key × Bool)),.z x4.1,.z x4.2]:SL K)) () lea)) (λs6=>(zL (uI (et_b (md:=.hp) (ex_dinS (zD 3 rfl) (zNs 2 rfl))) zA7 (zT (λs9:Unit=>([.z q0,.z q1,.od (s2:List (Key × Bool)),.z x4.1,.z x4.2]:SL K)) () lea)) (λs8=>(zL (zO5 2 rfl rfl (esc (zCn true)) (zD 3 rfl)) (λahead10=>(zL (zB9 (md:=.hp) (zP (zG (zF 4 rfl) (zG (esc (zD 1 rfl)) (zG (esc (ex_fsS "mark " (zD 3 rfl))) zQ))))) (λu15=>(zT (λs2:List (Key × Bool)=>([.z q0,.z q1,.od (s2:List (Key × Bool)),.un,.un]:SL K)) ahead10 lea))))))))))) (λs3=>(zT (λ_:Unit=>([.un,.un,.un,.un,.un]:SL K)) () lea))))) (by unfold wQ; simp only [bnd])⟩
def vH (q0:List LI) (q1:Int):Option Unit:=((some (uF q0)).bind λxs=>xC (λ(s1:Unit) (x3:Int × LI)=>(((((fsI "fair set " x3.1).bind λa5=>some ((a5,()))).bind λb6=>some (q1,b6)).bind λb7=>some (x3.2,b7)).bind λz4=>xD z4.1 z4.2.1 z4.2.2.1).bind λu8=>some ()) xs ()).bind λs2=>some ()
theorem sc_check_fair:FnScope ["fair","many","number","stands"] ["fair","many"] (zK s_check_fair):=fsc
abbrev zH1 (K:PySem.W.Frag):Sp:=spF K false (λa:((List LI)) × Int × Unit=>([.z a.1,.z a.2.1]:SL K)) (λa=>vH a.1 a.2.1)
theorem zFx (F:Fun K "check_fair" "check_fair" s_check_fair f fd) (B:Bl K mg) (C_check_stands:Cal P w K mg base k "check_stands" ["stands","many","where"] (vE K)):FnOk P w K mg base CX0 (k + 1) f fd ["fair","many"] (zH1 K):=by
 refine zGa F sc_check_fair (λ_=>rfl) (λ_=>rfl) λcdv A outer s H E hr=>?_
 have nd:=sc_check_fair.nd
 refine ⟨_,(zC (xQ PassesOwn.never rfl (zCk K B.enum (zA (pv 0) zE)) (zAt rfl (zW (pg_n 2 nd) (zW (pg_n 3 nd) wC))) (zC (yJ (yC C_check_stands hr (zA (pv 3) (zA (pv 1) (zA (pe_fs (pv 2) (by decide)) zE))))) zH)) zH),?_⟩
 rintro Fa ⟨q0,q1,⟨⟩⟩
 exact ⟨_,Sn.of (zL (wV (n:=false) (L:=(λs1:Unit=>([.z q0,.z q1,.un,.un]:SL K))) () lea (zCr (yZ 0 rfl)) (λs1=>(vX 2 3 rfl rfl (λ_=>rfl) rfl)) (λs1 x3=>(zL (zB9 (md:=.hp) (zP (zG (zF 3 rfl) (zG (esc (zD 1 rfl)) (zG (esc (zRh "fair set " (zD 2 rfl))) zQ))))) (λu8=>(zT (λs1:Unit=>([.z q0,.z q1,.un,.un]:SL K)) () lea))))) (λs2=>(zT (λ_:Unit=>([.un,.un,.un,.un]:SL K)) () lea))) (by unfold vH; simp only [bnd])⟩
def zA9 (q0:List LI):Option (List LI):=(some q0).bind λxs=>xN (λ(x1:LI)=>some true) (λ(x1:LI)=>some x1) xs
theorem sc_copied:FnScope ["lists"] ["lists"] (zK s_copied):=fsc
abbrev zQl (K:PySem.W.Frag):Sp:=spF K false (λa:((List LI)) × Unit=>([.z a.1]:SL K)) (λa=>zA9 a.1)
theorem zMt (F:Fun K "copied" "copied" s_copied f fd) (B:Bl K mg):FnOk P w K mg base CX0 (k + 1) f fd ["lists"] (zQl K):=by
 refine xB F sc_copied (λ_=>rfl) (λ_=>rfl) λcdv A outer s H E hr=>?_
 have nd:=sc_copied.nd
 refine ⟨_,(zC (yB (wO (own:=["things"]) (ix:=[]) rfl rfl rfl (xE K (pv 0)) (λC s H fp=>yL (i:=0) (show (["things"]:List Str).Nodup from by decide +kernel) rfl (Or.inl rfl)) (λC s H fp=>vN) (λC s H fp=>(vG (zBs K) rfl B.list zAe (zA (pv 0) zE))))) zH),?_⟩
 rintro Fa ⟨q0,⟨⟩⟩
 exact SB.of (yO (wE (n:=false) (slI:=[.un]) (no:=1) (ix:=[]) rfl rfl (xM (yZ 0 rfl)) (yK 0 rfl rfl) (λx1=>zBj) (λx1=>(zBe (zF 0 rfl)).ex) (λx1=>lea0)).ex) (by unfold zA9; simp only [bnd])
end
abbrev mkK (C:Addr):=mkG C wP wQ vH zA9 fSo
section
variable {P:Program} {w:World} {K:PySem.W.Frag} {mg:Str->Option Value} {base:Heap}
def wH (q0:Mach C):Option Int:=some (q0.steps.length:Int)
theorem sc_Machine_many:FnScope ["self"] ["self"] (zK s_Machine_many):=fsc
abbrev zBm (K:PySem.W.Frag) (C:Addr):Sp:=spF K false (λa:(Mach C) × Unit=>([.z a.1]:SL K)) (λa=>wH a.1)
theorem zDr (F:Fun K "many" "Machine.many" s_Machine_many f fd) (B:Bl K mg) (T:Cl K mg C):FnOk P w K mg base CX0 (k + 1) f fd ["self"] (zBm K C):=by
 refine xB F sc_Machine_many (λ_=>rfl) (λ_=>rfl) λcdv A outer s H E hr=>?_
 have nd:=sc_Machine_many.nd
 refine ⟨_,(zC (yB (zN (yQ K) rfl B.len PySem.boot_len (zA (zEr K (pv 0)) zE))) zH),?_⟩
 rintro Fa ⟨q0,⟨⟩⟩
 exact SB.of (yO (esc (yW (zB2 T.cl T.nS (zF 0 rfl))))) (by unfold wH; simp only [bnd])
def yX (q0:Mach C) (q1:Int):Option LI:=(atI q0.steps q1).bind λa1=>zKk a1
theorem sc_Machine_next_of:FnScope ["self","stand"] ["self","stand"] (zK s_Machine_next_of):=fsc
abbrev zAb (K:PySem.W.Frag) (C:Addr):Sp:=spF K false (λa:(Mach C) × Int × Unit=>([.z a.1,.z a.2.1]:SL K)) (λa=>yX a.1 a.2.1)
theorem zBx (F:Fun K "next_of" "Machine.next_of" s_Machine_next_of f fd) (B:Bl K mg) (T:Cl K mg C) (zsorted:mg "sorted" = none):FnOk P w K mg base CX0 (k + 1) f fd ["self","stand"] (zAb K C):=by
 refine xB F sc_Machine_next_of (λ_=>rfl) (λ_=>rfl) λcdv A outer s H E hr=>?_
 have nd:=sc_Machine_next_of.nd
 refine ⟨_,(zC (yB (zN (zLc K) rfl zsorted zD6 (zA (yD (ixLK K) (zEr K (pv 0)) (pv 1) (λ_ _=>rfl)) zE))) zH),?_⟩
 rintro Fa ⟨q0,q1,⟨⟩⟩
 exact SB.of (yO (eo_sort (wI (zB2 T.cl T.nS (zF 0 rfl)) (zD 1 rfl))).ex) (by unfold yX; simp only [bnd])
def yH (q0:Mach C) (q1:Int):Option LI:=atI q0.sources q1
theorem sc_Machine_before:FnScope ["self","stand"] ["self","stand"] (zK s_Machine_before):=fsc
abbrev vQ (K:PySem.W.Frag) (C:Addr):Sp:=spF K false (λa:(Mach C) × Int × Unit=>([.z a.1,.z a.2.1]:SL K)) (λa=>yH a.1 a.2.1)
theorem zCi (F:Fun K "before" "Machine.before" s_Machine_before f fd) (B:Bl K mg) (T:Cl K mg C):FnOk P w K mg base CX0 (k + 1) f fd ["self","stand"] (vQ K C):=by
 refine xB F sc_Machine_before (λ_=>rfl) (λ_=>rfl) λcdv A outer s H E hr=>?_
 have nd:=sc_Machine_before.nd
 refine ⟨_,(zC (yB (vG (zBs K) rfl B.list zAe (zA (yD (ixLK K) (zEr K (pv 0)) (pv 1) (λ_ _=>rfl)) zE))) zH),?_⟩
 rintro Fa ⟨q0,q1,⟨⟩⟩
 exact SB.of (yO (zBe (wI (zIs T.cl T.nB (zF 0 rfl)) (zD 1 rfl))).ex) (by unfold yH; simp only [bnd])
def yG (q0:Mach C) (q1:Int):Option (List Str):=((some q0.marks).bind λxs=>xN (λ(x1:Str × LI)=>some (decide (q1 ∈ x1.2))) (λ(x1:Str × LI)=>some x1.1) xs).bind λa2=>zEn a2
theorem sc_Machine_names_at:FnScope ["self","stand"] ["self","stand"] (zK s_Machine_names_at):=fsc
abbrev uM (K:PySem.W.Frag) (C:Addr):Sp:=spF K false (λa:(Mach C) × Int × Unit=>([.z a.1,.z a.2.1]:SL K)) (λa=>yG a.1 a.2.1)
theorem zBr (F:Fun K "names_at" "Machine.names_at" s_Machine_names_at f fd) (B:Bl K mg) (T:Cl K mg C) (zsorted:mg "sorted" = none):FnOk P w K mg base CX0 (k + 1) f fd ["self","stand"] (uM K C):=by
 refine xB F sc_Machine_names_at (λ_=>rfl) (λ_=>rfl) λcdv A outer s H E hr=>?_
 have nd:=sc_Machine_names_at.nd
 refine ⟨_,(zC (yB (zN (zE3 K) rfl zsorted zD6 (zA (wO (own:=["name","stands"]) (ix:=[1]) rfl rfl rfl (xE K (zEr K (pv 0))) (λC s H fp=>zCe (K:=K) (n:=2) rfl rfl (zW (yL (i:=0) (show (["name","stands","stand"]:List Str).Nodup from by decide +kernel) rfl (Or.inl rfl)) (zW (yL (i:=1) (show (["name","stands","stand"]:List Str).Nodup from by decide +kernel) rfl (Or.inl rfl)) wC))) (λC s H fp=>zCd (zX (zDo K) (pv 2) (pv 1) (by with_unfolding_all rfl))) (λC s H fp=>(pv 0))) zE))) zH),?_⟩
 rintro Fa ⟨q0,q1,⟨⟩⟩
 exact SB.of (yO (zJz (wE (n:=false) (slI:=[.un,.un,.z q1]) (no:=2) (ix:=[1]) rfl rfl (xM (zNz T.cl T.nM (yZ 0 rfl))) (vX 0 1 rfl rfl (λ_=>rfl) rfl) (λx1=>(zY (md:=.hp) (zK8 (zD 2 rfl) (zF 1 rfl)))) (λx1=>(esc (zD 0 rfl))) (λx1=>lea0)).ex).ex) (by unfold yG; simp only [bnd])
def xI (q0:Mach C):Option LI:=(wH q0).bind λa1=>lrM a1
theorem sc_everywhere:FnScope ["machine"] ["machine"] (zK s_everywhere):=fsc
abbrev zA5 (K:PySem.W.Frag) (C:Addr):Sp:=spF K false (λa:(Mach C) × Unit=>([.z a.1]:SL K)) (λa=>xI a.1)
theorem zFw (F:Fun K "everywhere" "everywhere" s_everywhere f fd) (B:Bl K mg) (C_Machine_many:CalM P w K mg base k C "many" ["self"] (zBm K C)):FnOk P w K mg base CX0 (k + 1) f fd ["machine"] (zA5 K C):=by
 refine xB F sc_everywhere (λ_=>rfl) (λ_=>rfl) λcdv A outer s H E hr=>?_
 have nd:=sc_everywhere.nd
 refine ⟨_,(zC (yB (zJk rfl rfl B.list rfl B.range (zA (p_calM0 C_Machine_many hr (pv 0)) zE))) zH),?_⟩
 rintro Fa ⟨q0,⟨⟩⟩
 exact SB.of (yO (zJ1 (zCm (by decide +kernel) (zF 0 rfl) zQ)).ex) (by unfold xI; simp only [bnd])
def zA8 (q0:List Str) (q1:List Str):Option (List Str):=zLu q0 q1
theorem sc_unshared:FnScope ["one","other"] ["one","other"] (zK s_unshared):=fsc
abbrev zE4 (K:PySem.W.Frag):Sp:=spF K false (λa:(List Str) × (List Str) × Unit=>([.z a.1,.z a.2.1]:SL K)) (λa=>zA8 a.1 a.2.1)
theorem zIe (F:Fun K "unshared" "unshared" s_unshared f fd) (B:Bl K mg) (zsorted:mg "sorted" = none) (zset:mg "set" = none):FnOk P w K mg base CX0 (k + 1) f fd ["one","other"] (zE4 K):=by
 refine xB F sc_unshared (λ_=>rfl) (λ_=>rfl) λcdv A outer s H E hr=>?_
 have nd:=sc_unshared.nd
 refine ⟨_,(zC (yB (zMm rfl zsorted (pss_xor (zMg K rfl zset (pv 0)) (zMg K rfl zset (pv 1))))) zH),?_⟩
 rintro Fa ⟨q0,q1,⟨⟩⟩
 exact SB.of (yO (zIu (zF 0 rfl) (zF 1 rfl)).ex) (by unfold zA8; simp only [bnd])
def yP (q0:List Str) (q1:List Str):Option (Option (Int × (Str × Key))):=(zA8 q0 q1).bind λapart1=>if (decide ((apart1.length:Int) = (0:Int))) = true then some ((none:Option (Int × (Str × Key)))) else ((((atI apart1 (0:Int)).bind λa2=>some (Sum.inr a2:Key)).bind λb3=>some ((("mark":Str),b3))).bind λb4=>some (((0:Int),b4))).bind λa5=>some (some a5)
theorem sc_sight_failing:FnScope ["names","known","apart"] ["names","known"] (zK s_sight_failing):=fsc
abbrev zA3 (K:PySem.W.Frag):Sp:=spF K false (λa:(List Str) × (List Str) × Unit=>([.z a.1,.z a.2.1]:SL K)) (λa=>yP a.1 a.2.1)
theorem zC3 (F:Fun K "sight_failing" "sight_failing" s_sight_failing f fd) (B:Bl K mg) (C_unshared:Cal P w K mg base k "unshared" ["one","other"] (zE4 K)):FnOk P w K mg base CX0 (k + 1) f fd ["names","known"] (zA3 K):=by
 refine xB F sc_sight_failing (λ_=>rfl) (λ_=>rfl) λcdv A outer s H E hr=>?_
 have nd:=sc_sight_failing.nd
 refine ⟨_,(zC (yI 2 nd (yC C_unshared hr (zA (pv 0) (zA (pv 1) zE)))) (zC (xW (zX (wR K Int hr) (zN (yQ K) rfl B.len PySem.boot_len (zA (pv 2) zE)) zJ (yR _)) (zC (yB pe_non) zH) zH) (zC (yB (wW (zA zJ (zA (wW (zA vR (zA (yD (ixLK K) (pv 2) zJ (λ_ _=>rfl)) zE))) zE)))) zH))),?_⟩
 rintro Fa ⟨q0,q1,⟨⟩⟩
 exact SB.of (zM (yF true 2 rfl rfl (zP (zG (zF 0 rfl) (zG (zF 1 rfl) zQ)))) (λapart1=>(zDi (zY (md:=.hp) (wS (yW (zF 2 rfl)) (zI 0))) (yO (ex_none (α:=Int × (Str × Key)))) (yO (zNv (xZ (zI 0) (xZ (vI "mark") (ex_kS (esc (wI (zF 2 rfl) (zI 0))))))))))) (by unfold yP; simp only [bnd])
def xS (q0:Mach C) (q1:Mach C):Option (Rws (Option (Int × (Str × Key)))):=((xI q1).bind λxs=>xN (λ(x2:Int)=>some true) (λ(x2:Int)=>yG q1 x2) xs).bind λknown1=>(some ((Rws.mk []:Rws (Option (Int × (Str × Key)))))).bind λtold3=>((xI q0).bind λxs=>xC (λ(s4:Rws (Option (Int × (Str × Key)))) (x6:Int)=>(yG q0 x6).bind λnames7=>(((some known1).bind λxs=>xN (λ(x9:List Str)=>some true) (λ(x9:List Str)=>yP names7 x9) xs).bind λy10=>zGv s4 y10).bind λtold8=>some told8) xs told3).bind λs5=>some s5
theorem sc_sight_failings:FnScope ["machine","other","known","told","stand","names"] ["machine","other"] (zK s_sight_failings):=fsc
abbrev zAm (K:PySem.W.Frag) (C:Addr):Sp:=spF K false (λa:(Mach C) × (Mach C) × Unit=>([.z a.1,.z a.2.1]:SL K)) (λa=>xS a.1 a.2.1)
theorem zCh (F:Fun K "sight_failings" "sight_failings" s_sight_failings f fd) (B:Bl K mg) (C_Machine_names_at:CalM P w K mg base k C "names_at" ["self","stand"] (uM K C)) (C_everywhere:Cal P w K mg base k "everywhere" ["machine"] (zA5 K C)) (C_sight_failing:Cal P w K mg base k "sight_failing" ["names","known"] (zA3 K)):FnOk P w K mg base CX0 (k + 1) f fd ["machine","other"] (zAm K C):=by
 refine xB F sc_sight_failings (λ_=>rfl) (λ_=>rfl) λcdv A outer s H E hr=>?_
 have nd:=sc_sight_failings.nd
 refine ⟨_,(zC (zFs (i:=2) (own:=["follower"]) (ix:=[1]) nd rfl rfl rfl rfl rfl (xE K (yC C_everywhere hr (zA (pv 1) zE))) (λC s H fp=>yL (i:=0) (show (["follower","other"]:List Str).Nodup from by decide +kernel) rfl (Or.inl rfl)) (λC s H fp=>vN) (λC s H fp=>(zG2 C_Machine_names_at hr (pv 1) (zA (pv 0) zE)))) (zC (yI 3 nd (wM zE)) (zC (xQ PassesOwn.never rfl (xE K (yC C_everywhere hr (zA (pv 0) zE))) (pg_n 4 nd) (zC (yI 5 nd (zG2 C_Machine_names_at hr (pv 0) (zA (pv 4) zE))) (zC (yJ (zAc K PySem.F.plainAttrs_list PySem.F.slot_list_append PySem.F.type_list_append yN (pv 3) (zA (wO (own:=["each"]) (ix:=[5]) rfl rfl rfl (xE K (pv 2)) (λC s H fp=>yL (i:=0) (show (["each","names"]:List Str).Nodup from by decide +kernel) rfl (Or.inl rfl)) (λC s H fp=>vN) (λC s H fp=>(yC C_sight_failing hr (zA (pv 1) (zA (pv 0) zE))))) zE))) zH))) (zC (yB (pv 3)) zH)))),?_⟩
 rintro Fa ⟨q0,q1,⟨⟩⟩
 exact SB.of (zM (yF true 2 rfl rfl (wE (n:=true) (slI:=[.un,.z q1]) (no:=1) (ix:=[1]) rfl rfl (xM (zP (zG (zF 1 rfl) zQ))) (yK 0 rfl rfl) (λx2=>zBj) (λx2=>(zCm (by decide +kernel) (zF 1 rfl) (zG (esc (zD 0 rfl)) zQ))) (λx2=>lea0)).ex) (λknown1=>(zM (zO3 3 rfl rfl) (λtold3=>(zM (wV (n:=true) (L:=(λs4:Rws (Option (Int × (Str × Key)))=>([.z q0,.z q1,.y known1,.ob true (s4:Rws (Option (Int × (Str × Key)))),.un,.un]:SL K))) told3 lea (xM (zP (zG (zF 0 rfl) zQ))) (λs4=>(yK 4 rfl rfl)) (λs4 x6=>(zL (yF true 5 rfl rfl (zCm (by decide +kernel) (zF 0 rfl) (zG (esc (zD 4 rfl)) zQ))) (λnames7=>(zL (zO4 3 rfl rfl (wE (n:=true) (slI:=[.un,.y names7]) (no:=1) (ix:=[5]) rfl rfl (xM (yZ 2 rfl)) (yK 0 rfl rfl) (λx9=>zBj) (λx9=>(zP (zG (zF 1 rfl) (zG (zF 0 rfl) zQ)))) (λx9=>lea0))) (λtold8=>(zT (λs4:Rws (Option (Int × (Str × Key)))=>([.z q0,.z q1,.y known1,.ob true (s4:Rws (Option (Int × (Str × Key)))),.un,.un]:SL K)) told8 lea))))))) (λs5=>(sb_retB 3 rfl))))))) (by unfold xS; simp only [bnd])
def wG (q0:List (List (Option (Int × (Str × Key))))):Option (List (Int × Int)):=(some (([]:List (Int × Int)))).bind λpairs1=>((some (uF q0)).bind λxs=>xC (λ(s2:List (Int × Int)) (x4:Int × (List (Option (Int × (Str × Key)))))=>(((some (uF x4.2)).bind λxs=>xN (λ(x6:Int × (Option (Int × (Str × Key))))=>some x6.2.isSome) (λ(x6:Int × (Option (Int × (Str × Key))))=>some (x4.1,x6.1)) xs).bind λa7=>extG s2 a7).bind λpairs5=>some pairs5) xs pairs1).bind λs3=>some s3
theorem sc_failed_pairs:FnScope ["told","pairs","stand","row"] ["told"] (zK s_failed_pairs):=fsc
abbrev zBl (K:PySem.W.Frag):Sp:=spF K false (λa:((List (List (Option (Int × (Str × Key)))))) × Unit=>([.z a.1]:SL K)) (λa=>wG a.1)
theorem zDp (F:Fun K "failed_pairs" "failed_pairs" s_failed_pairs f fd) (B:Bl K mg):FnOk P w K mg base CX0 (k + 1) f fd ["told"] (zBl K):=by
 refine xB F sc_failed_pairs (λ_=>rfl) (λ_=>rfl) λcdv A outer s H E hr=>?_
 have nd:=sc_failed_pairs.nd
 refine ⟨_,(zC (yI 1 nd (wM zE)) (zC (xQ PassesOwn.never rfl (zCk K B.enum (zA (pv 0) zE)) (zAt rfl (zW (pg_n 2 nd) (zW (pg_n 3 nd) wC))) (zC (yJ (zAc K PySem.F.plainAttrs_list PySem.F.slot_list_extend PySem.F.type_list_extend zHc (pv 1) (zA (wO (own:=["follower","failing"]) (ix:=[2]) rfl rfl rfl (zCk K B.enum (zA (pv 3) zE)) (λC s H fp=>zCe (K:=K) (n:=2) rfl rfl (zW (yL (i:=0) (show (["follower","failing","stand"]:List Str).Nodup from by decide +kernel) rfl (Or.inl rfl)) (zW (yL (i:=1) (show (["follower","failing","stand"]:List Str).Nodup from by decide +kernel) rfl (Or.inl rfl)) wC))) (λC s H fp=>zCd (zBw (zFu (pv 1)))) (λC s H fp=>(wW (zA (pv 2) (zA (pv 0) zE))))) zE))) zH)) (zC (yB (pv 1)) zH))),?_⟩
 rintro Fa ⟨q0,⟨⟩⟩
 exact SB.of (zM (zBg true 1 rfl rfl (uX (α:=Int × Int))) (λpairs1=>(zM (wV (n:=false) (L:=(λs2:List (Int × Int)=>([.z q0,.ow true s2,.un,.un]:SL K))) pairs1 lea (zCr (yZ 0 rfl)) (λs2=>(vX 2 3 rfl rfl (λ_=>rfl) rfl)) (λs2 x4=>(zL (zEo 1 rfl rfl (wE (n:=false) (slI:=[.un,.un,.z x4.1]) (no:=2) (ix:=[2]) rfl rfl (zCr (yZ 3 rfl)) (vX 0 1 rfl rfl (λ_=>rfl) rfl) (λx6=>(et_b (md:=.hp) (zF8 (zF 1 rfl)))) (λx6=>(xZ (zD 2 rfl) (zD 0 rfl))) (λx6=>lea0)).ex) (λpairs5=>(zT (λs2:List (Int × Int)=>([.z q0,.ow true s2,.un,.un]:SL K)) pairs5 lea))))) (λs3=>(zDh 1 rfl rfl))))) (by unfold wG; simp only [bnd])
def xY (q0:Mach C) (q1:Mach C):Option (Rws Int):=((xI q1).bind λxs=>xN (λ(x2:Int)=>some true) (λ(x2:Int)=>(yX q1 x2).bind λa4=>some (a4.length:Int)) xs).bind λcounts1=>(xI q0).bind λa6=>cpsM a6.length counts1
theorem sc_answer_counts:FnScope ["machine","other","counts"] ["machine","other"] (zK s_answer_counts):=fsc
abbrev zA6 (K:PySem.W.Frag) (C:Addr):Sp:=spF K false (λa:(Mach C) × (Mach C) × Unit=>([.z a.1,.z a.2.1]:SL K)) (λa=>xY a.1 a.2.1)
theorem zC4 (F:Fun K "answer_counts" "answer_counts" s_answer_counts f fd) (B:Bl K mg) (C_Machine_next_of:CalM P w K mg base k C "next_of" ["self","stand"] (zAb K C)) (C_everywhere:Cal P w K mg base k "everywhere" ["machine"] (zA5 K C)):FnOk P w K mg base CX0 (k + 1) f fd ["machine","other"] (zA6 K C):=by
 refine xB F sc_answer_counts (λ_=>rfl) (λ_=>rfl) λcdv A outer s H E hr=>?_
 have nd:=sc_answer_counts.nd
 refine ⟨_,(zC (yI 2 nd (wO (own:=["follower"]) (ix:=[1]) rfl rfl rfl (xE K (yC C_everywhere hr (zA (pv 1) zE))) (λC s H fp=>yL (i:=0) (show (["follower","other"]:List Str).Nodup from by decide +kernel) rfl (Or.inl rfl)) (λC s H fp=>vN) (λC s H fp=>(zN (yQ K) rfl B.len PySem.boot_len (zA (zG2 C_Machine_next_of hr (pv 1) (zA (pv 0) zE)) zE))))) (zC (yB (wO (own:=["stand"]) (ix:=[2]) rfl rfl rfl (xE K (yC C_everywhere hr (zA (pv 0) zE))) (λC s H fp=>yL (i:=0) (show (["stand","counts"]:List Str).Nodup from by decide +kernel) rfl (Or.inl rfl)) (λC s H fp=>vN) (λC s H fp=>(vG (zBs K) rfl B.list zAe (zA (pv 1) zE))))) zH)),?_⟩
 rintro Fa ⟨q0,q1,⟨⟩⟩
 exact SB.of (zM (yF true 2 rfl rfl (wE (n:=true) (slI:=[.un,.z q1]) (no:=1) (ix:=[1]) rfl rfl (xM (zP (zG (zF 1 rfl) zQ))) (yK 0 rfl rfl) (λx2=>zBj) (λx2=>(esc (yW (zCm (by decide +kernel) (zF 1 rfl) (zG (esc (zD 0 rfl)) zQ))))) (λx2=>lea0)).ex) (λcounts1=>(yO (En.ex (en_cps 2 rfl (zP (zG (zF 0 rfl) zQ))))))) (by unfold xY; simp only [bnd])
def yA (q1:LI) (q0:Mach C) (q2:Int):Option (LI × LI):=(some ([]:LI)).bind λtold1=>((yH q0 q2).bind λxs=>xC (λ(s2:LI × LI) (x4:Int)=>(augM (λi j=>i - j) s2.1 x4 (1:Int)).bind λcounts5=>(((atI counts5 x4).bind λa6=>some (decide (a6 = (0:Int)))).bind λb=>if b = true then (push s2.2 x4).bind λtold9=>some told9 else some s2.2).bind λs7=>some (counts5,s7)) xs (q1,told1)).bind λs3=>some (s3.2,s3.1)
theorem sc_left_without_answer:FnScope ["other","counts","answer","told","follower"] ["other","counts","answer"] (zK s_left_without_answer):=fsc
abbrev vL (K:PySem.W.Frag) (C:Addr):Sp:=spQ K (λa:(Mach C) × Int × Unit=>([.z a.1,.z a.2.1]:SL K)) (λws a=>yA ws a.1 a.2.1)
theorem zAn (F:Fun K "left_without_answer" "left_without_answer" s_left_without_answer f fd) (B:Bl K mg) (C_Machine_before:CalM P w K mg base k C "before" ["self","stand"] (vQ K C)):FnOk P w K mg base CX0 (k + 1) f fd ["other","counts","answer"] (vL K C):=by
 refine def_okQ F sc_left_without_answer (λ_=>rfl) (λ_=>rfl) (λ_=>rfl) λcdv A outer s H E hr=>?_
 have nd:=sc_left_without_answer.nd
 refine ⟨_,(zC (yI 3 nd (wM zE)) (zC (xQ PassesOwn.never rfl (xE K (zG2 C_Machine_before hr (pv 0) (zA (pv 2) zE))) (pg_n 4 nd) (zC (ps_augS (pv 1) (pv 4) (zNo K) zJ ip_sub zI9) (zC (xW (zX (wR K Int hr) (yD (ixLK K) (pv 1) (pv 4) (λ_ _=>rfl)) zJ (yR _)) (zC (yJ (zAc K PySem.F.plainAttrs_list PySem.F.slot_list_append PySem.F.type_list_append yN (pv 3) (zA (pv 4) zE))) zH) zH) zH))) (zC (yB (pv 3)) zH))),?_⟩
 rintro Fa p q1 ⟨q0,q2,⟨⟩⟩
 exact SBR.of (zJd (zBg true 3 rfl rfl (uX (α:=Int))) (λtold1=>(zQv [.z q0,.nu (RL.mk (p:=p) q1),.z q2,.ow true told1,.un] (zJd (wV (n:=true) (L:=(λs2:LI × LI=>([.z q0,.nu (RL.mk (p:=p) s2.1),.z q2,.ow true s2.2,.un]:SL K))) (q1,told1) lea (xM (zCm (by decide +kernel) (zF 0 rfl) (zG (esc (zD 2 rfl)) zQ))) (λs2=>(yK 4 rfl rfl)) (λs2 x4=>(zL (sn_augN 1 rfl rfl (zD 4 rfl) (zI 1)) (λcounts5=>(zL (uI (zY (md:=.hp) (wS (esc (wI (ex_varR 1 rfl) (zD 4 rfl))) (zI 0))) (zL (xP 3 rfl rfl (esc (zD 4 rfl))) (λtold9=>(zT (λs8:LI=>([.z q0,.nu (RL.mk (p:=p) counts5),.z q2,.ow true s8,.y x4]:SL K)) told9 lea))) (zT (λs8:LI=>([.z q0,.nu (RL.mk (p:=p) counts5),.z q2,.ow true s8,.y x4]:SL K)) s2.2 lea)) (λs7=>(zT (λs2:LI × LI=>([.z q0,.nu (RL.mk (p:=p) s2.1),.z q2,.ow true s2.2,.un]:SL K)) (counts5,s7) lea))))))) (λs3=>(zQv [.z q0,.nu (RL.mk (p:=p) s3.1),.z q2,.ow true s3.2,.un] (sbr_pre (sl2:=[.z q0,.nu (RL.mk (p:=p) s3.1),.z q2,.y s3.2,.un]) lea (sbr_ret 1 rfl rfl (yZ (n:=true) 3 rfl))))))))) (by unfold yA; simp only [bnd])
def wZ (q0:Mach C) (q1:Mach C):Option (List (List (Option (Int × (Str × Key))))):=(xS q0 q1).bind λtold1=>(xY q0 q1).bind λcounts2=>(wG told1.xss).bind λrow3=>(some (0:Int)).bind λplace4=>(zCx (λs5:(Rws (Option (Int × (Str × Key)))) × (List (Int × Int)) × (Rws Int) × Int=>some (decide (s5.2.2.2 < (s5.2.1.length:Int)))) (λs5:(Rws (Option (Int × (Str × Key)))) × (List (Int × Int)) × (Rws Int) × Int=>((atI s5.2.1 s5.2.2.2).bind λa8=>some a8.1).bind λstand7=>((atI s5.2.1 s5.2.2.2).bind λa10=>some a10.2).bind λanswer9=>(((((atI s5.1.xss stand7).bind λa12=>atI a12 answer9).bind λa13=>a13).bind λa14=>some a14.1).bind λa15=>some (a15 + (1:Int))).bind λlater11=>((zBv s5.2.2.1 stand7 λrow=>yA row q1 answer9).bind λr28=>xC (λ(s16:(Rws (Option (Int × (Str × Key)))) × (List (Int × Int)) × (Rws Int)) (x18:Int)=>((yH q0 stand7).bind λxs=>xC (λ(s19:(Rws (Option (Int × (Str × Key)))) × (List (Int × Int))) (x21:Int)=>((((atI s19.1.xss x21).bind λa22=>atI a22 x18).bind λa23=>some a23.isNone).bind λb=>if b = true then (zBh s19.1 x21 x18 (some ((later11,(("step":Str),(Sum.inl stand7:Key)))))).bind λtold26=>(push s19.2 (x21,x18)).bind λrow27=>some (told26,row27) else some (s19.1,s19.2)).bind λs24=>some (s24.1,s24.2)) xs (s16.1,s16.2.1)).bind λs20=>some (s20.1,s20.2,s16.2.2)) r28.1 ((s5.1,s5.2.1,(zDj s5.2.2.1 stand7 r28.2)))).bind λs17=>(some (s5.2.2.2 + (1:Int))).bind λplace31=>some (s17.1,s17.2.1,s17.2.2,place31)) fuel (told1,row3,counts2,place4)).bind λs6=>some s6.1.xss
theorem sc_failings:FnScope ["machine","other","told","counts","row","place","stand","answer","later","follower","source"] ["machine","other"] (zK s_failings):=fsc
abbrev zCv (K:PySem.W.Frag) (C:Addr):Sp:=spF K false (λa:(Mach C) × (Mach C) × Unit=>([.z a.1,.z a.2.1]:SL K)) (λa=>wZ a.1 a.2.1)
theorem zIj (F:Fun K "failings" "failings" s_failings f fd) (B:Bl K mg) (C_Machine_before:CalM P w K mg base k C "before" ["self","stand"] (vQ K C)) (C_answer_counts:Cal P w K mg base k "answer_counts" ["machine","other"] (zA6 K C)) (C_failed_pairs:Cal P w K mg base k "failed_pairs" ["told"] (zBl K)) (C_left_without_answer:Cal P w K mg base k "left_without_answer" ["other","counts","answer"] (vL K C)) (C_sight_failings:Cal P w K mg base k "sight_failings" ["machine","other"] (zAm K C)):FnOk P w K mg base CX0 (k + 1) f fd ["machine","other"] (zCv K C):=by
 refine xB F sc_failings (λ_=>rfl) (λ_=>rfl) λcdv A outer s H E hr=>?_
 have nd:=sc_failings.nd
 refine ⟨_,(zC (yI 2 nd (yC C_sight_failings hr (zA (pv 0) (zA (pv 1) zE)))) (zC (yI 3 nd (yC C_answer_counts hr (zA (pv 0) (zA (pv 1) zE)))) (zC (yI 4 nd (yC C_failed_pairs hr (zA (pv 2) zE))) (zC (yI 5 nd zJ) (zC (zPh PassesOwn.never (zX zIc (pv 5) (zN (yQ K) rfl B.len PySem.boot_len (zA (pv 4) zE)) (yR _)) (zC (yI 6 nd (yD (ixTK K) (yD (ixLK K) (pv 4) (pv 5) (λ_ _=>rfl)) zJ (λ_ _=>rfl))) (zC (yI 7 nd (yD (ixTK K) (yD (ixLK K) (pv 4) (pv 5) (λ_ _=>rfl)) zJ (λ_ _=>rfl))) (zC (yI 8 nd (zV uC (yD (ixTK K) (yD (ixLK K) (yD (ixLK K) (pv 2) (pv 6) (λ_ _=>rfl)) (pv 7) (λ_ _=>rfl)) zJ (λ_ _=>rfl)) zJ)) (zC (xQ PassesOwn.never rfl (xE K (yC C_left_without_answer hr (zA (pv 1) (zA (yD (ixLK K) (pv 3) (pv 6) (λ_ _=>rfl)) (zA (pv 7) zE))))) (pg_n 9 nd) (zC (xQ PassesOwn.never rfl (xE K (zG2 C_Machine_before hr (pv 0) (zA (pv 6) zE))) (pg_n 10 nd) (zC (xW (zBw (zG1 (yD (ixLK K) (yD (ixLK K) (pv 2) (pv 10) (λ_ _=>rfl)) (pv 9) (λ_ _=>rfl)))) (zC (zG0 (wW (zA (pv 8) (zA (wW (zA vR (zA (pv 6) zE))) zE))) (pg_sub (yD (ixLK K) (pv 2) (pv 10) (λ_ _=>rfl)) (pv 9) zI9)) (zC (yJ (zAc K PySem.F.plainAttrs_list PySem.F.slot_list_append PySem.F.type_list_append yN (pv 4) (zA (wW (zA (pv 10) (zA (pv 9) zE))) zE))) zH)) zH) zH)) zH)) (zC (ps_aug (i:=5) nd rfl (by first|exact .inl rfl|exact .inr rfl) zJ ip_add) zH)))))) (zC (yB (pv 2)) zH)))))),?_⟩
 rintro Fa ⟨q0,q1,⟨⟩⟩
 exact SB.of (zM (zH5 2 rfl rfl rfl (zCq (zG (zF 0 rfl) (zG (zF 1 rfl) zQ)))) (λtold1=>(zM (zH5 3 rfl rfl rfl (zCq (zG (zF 0 rfl) (zG (zF 1 rfl) zQ)))) (λcounts2=>(zM (sn_ownL 4 rfl rfl rfl (zCq (zG (zF7 2 rfl) zQ))) (λrow3=>(zM (yF true 5 rfl rfl (esc (zI 0))) (λplace4=>(zM (zOz (L:=(λs5:(Rws (Option (Int × (Str × Key)))) × (List (Int × Int)) × (Rws Int) × Int=>([.z q0,.z q1,.ob true (s5.1:Rws (Option (Int × (Str × Key)))),.ob true (s5.2.2.1:Rws Int),.ow true s5.2.1,.y s5.2.2.2,.un,.un,.un,.un,.un]:SL K))) fuel (told1,row3,counts2,place4) lea (λs5=>(zY (md:=.hp) (zK7 (zD 5 rfl) (yW (wD 4 rfl))))) (λs5=>(zL (yF true 6 rfl rfl (esc (esc (vJ (wI (wD 4 rfl) (zD 5 rfl)) (zI 0))))) (λstand7=>(zL (yF true 7 rfl rfl (esc (esc (zAy (wI (wD 4 rfl) (zD 5 rfl)) (zI 1))))) (λanswer9=>(zL (yF true 8 rfl rfl (esc (uE (esc (vJ (zAz (wI (wI (zF7 2 rfl) (zD 6 rfl)) (zD 7 rfl))) (zI 0))) (zI 1)))) (λlater11=>(zL (sn_forY (n:=true) (sl0:=[.z q0,.z q1,.ob true (s5.1:Rws (Option (Int × (Str × Key)))),.ob true (s5.2.2.1:Rws Int),.ow true s5.2.1,.y s5.2.2.2,.y stand7,.y answer9,.y later11,.un,.un]) (L:=(λs16:(Rws (Option (Int × (Str × Key)))) × (List (Int × Int)) × (Rws Int)=>([.z q0,.z q1,.ob true (s16.1:Rws (Option (Int × (Str × Key)))),.ob true (s16.2.2:Rws Int),.ow true s16.2.1,.y s5.2.2.2,.y stand7,.y answer9,.y later11,.un,.un]:SL K))) (λr28:LI=>(s5.1,s5.2.1,(zDj s5.2.2.1 stand7 r28))) lea (λxs30 r28 e29=>ec_rowT (as:=(λa:(Mach C) × Int × Unit=>([.z a.1,.z a.2.1]:SL K))) (as':=λa:Int × Unit=>([.z a.1]:SL K)) (f:=(λws a=>yA ws a.1 a.2.1)) (jn:=λx a=>(x,a)) (x:=s5.2.2.1) (k:=stand7) (x0:=q1) (a':=(answer9,())) 3 rfl rfl (λ_ _=>rfl) (yZ (n:=false) 1 rfl) (zD 6 rfl) (zG (esc (zD 7 rfl)) zQ) e29) (λs16=>(yK 9 rfl rfl)) (λs16 x18=>(zL (wV (n:=true) (L:=(λs19:(Rws (Option (Int × (Str × Key)))) × (List (Int × Int))=>([.z q0,.z q1,.ob true (s19.1:Rws (Option (Int × (Str × Key)))),.ob true (s16.2.2:Rws Int),.ow true s19.2,.y s5.2.2.2,.y stand7,.y answer9,.y later11,.y x18,.un]:SL K))) (s16.1,s16.2.1) lea (xM (zCm (by decide +kernel) (zF 0 rfl) (zG (esc (zD 6 rfl)) zQ))) (λs19=>(yK 10 rfl rfl)) (λs19 x21=>(zL (uI (et_b (md:=.hp) (zHj (wI (wI (zF7 2 rfl) (zD 10 rfl)) (zD 9 rfl)))) (zL (zO1 2 rfl rfl (zNv (xZ (zD 8 rfl) (xZ (vI "step") (ex_kI (zD 6 rfl))))) (zD 10 rfl) (zD 9 rfl)) (λtold26=>(zL (xP 4 rfl rfl (xZ (zD 10 rfl) (zD 9 rfl))) (λrow27=>(zT (λs25:(Rws (Option (Int × (Str × Key)))) × (List (Int × Int))=>([.z q0,.z q1,.ob true (s25.1:Rws (Option (Int × (Str × Key)))),.ob true (s16.2.2:Rws Int),.ow true s25.2,.y s5.2.2.2,.y stand7,.y answer9,.y later11,.y x18,.y x21]:SL K)) (told26,row27) lea))))) (zT (λs25:(Rws (Option (Int × (Str × Key)))) × (List (Int × Int))=>([.z q0,.z q1,.ob true (s25.1:Rws (Option (Int × (Str × Key)))),.ob true (s16.2.2:Rws Int),.ow true s25.2,.y s5.2.2.2,.y stand7,.y answer9,.y later11,.y x18,.y x21]:SL K)) (s19.1,s19.2) lea)) (λs24=>(zT (λs19:(Rws (Option (Int × (Str × Key)))) × (List (Int × Int))=>([.z q0,.z q1,.ob true (s19.1:Rws (Option (Int × (Str × Key)))),.ob true (s16.2.2:Rws Int),.ow true s19.2,.y s5.2.2.2,.y stand7,.y answer9,.y later11,.y x18,.un]:SL K)) (s24.1,s24.2) lea))))) (λs20=>(zT (λs16:(Rws (Option (Int × (Str × Key)))) × (List (Int × Int)) × (Rws Int)=>([.z q0,.z q1,.ob true (s16.1:Rws (Option (Int × (Str × Key)))),.ob true (s16.2.2:Rws Int),.ow true s16.2.1,.y s5.2.2.2,.y stand7,.y answer9,.y later11,.un,.un]:SL K)) (s20.1,s20.2,s16.2.2) lea))))) (λs17=>(zL (sn_aug (s:=.un) 5 rfl (zI 1)) (λplace31=>(zT (λs5:(Rws (Option (Int × (Str × Key)))) × (List (Int × Int)) × (Rws Int) × Int=>([.z q0,.z q1,.ob true (s5.1:Rws (Option (Int × (Str × Key)))),.ob true (s5.2.2.1:Rws Int),.ow true s5.2.1,.y s5.2.2.2,.un,.un,.un,.un,.un]:SL K)) (s17.1,s17.2.1,s17.2.2,place31) lea))))))))))))) (λs6=>(zL5 (sl2:=[.z q0,.z q1,.y (s6.1.xss:List (List (Option (Int × (Str × Key))))),.ob true (s6.2.2.1:Rws Int),.ow true s6.2.1,.y s6.2.2.2,.un,.un,.un,.un,.un]) (Le.eq (Le.eq (Le.fo lea))) (yO (yZ 2 rfl))))))))))))) (by unfold wZ; simp only [bnd])
def vW (q0:Mach C) (q1:Mach C):Option (List (Int × Int)):=(some (([]:List (Int × Int)))).bind λtold1=>(((wZ q0 q1).bind λa5=>some (uF a5)).bind λxs=>xC (λ(s2:List (Int × Int)) (x4:Int × (List (Option (Int × (Str × Key)))))=>(((some (uF x4.2)).bind λxs=>xN (λ(x7:Int × (Option (Int × (Str × Key))))=>some x7.2.isNone) (λ(x7:Int × (Option (Int × (Str × Key))))=>some (x4.1,x7.1)) xs).bind λa8=>extG s2 a8).bind λtold6=>some told6) xs told1).bind λs3=>some s3
theorem sc_followed:FnScope ["machine","other","told","stand","row"] ["machine","other"] (zK s_followed):=fsc
abbrev zE8 (K:PySem.W.Frag) (C:Addr):Sp:=spF K false (λa:(Mach C) × (Mach C) × Unit=>([.z a.1,.z a.2.1]:SL K)) (λa=>vW a.1 a.2.1)
theorem zIi (F:Fun K "followed" "followed" s_followed f fd) (B:Bl K mg) (C_failings:Cal P w K mg base k "failings" ["machine","other"] (zCv K C)):FnOk P w K mg base CX0 (k + 1) f fd ["machine","other"] (zE8 K C):=by
 refine xB F sc_followed (λ_=>rfl) (λ_=>rfl) λcdv A outer s H E hr=>?_
 have nd:=sc_followed.nd
 refine ⟨_,(zC (yI 2 nd (wM zE)) (zC (xQ PassesOwn.never rfl (zCk K B.enum (zA (yC C_failings hr (zA (pv 0) (zA (pv 1) zE))) zE)) (zAt rfl (zW (pg_n 3 nd) (zW (pg_n 4 nd) wC))) (zC (yJ (zAc K PySem.F.plainAttrs_list PySem.F.slot_list_extend PySem.F.type_list_extend zHc (pv 2) (zA (wO (own:=["follower","failing"]) (ix:=[3]) rfl rfl rfl (zCk K B.enum (zA (pv 4) zE)) (λC s H fp=>zCe (K:=K) (n:=2) rfl rfl (zW (yL (i:=0) (show (["follower","failing","stand"]:List Str).Nodup from by decide +kernel) rfl (Or.inl rfl)) (zW (yL (i:=1) (show (["follower","failing","stand"]:List Str).Nodup from by decide +kernel) rfl (Or.inl rfl)) wC))) (λC s H fp=>zCd (zBw (zG1 (pv 1)))) (λC s H fp=>(wW (zA (pv 2) (zA (pv 0) zE))))) zE))) zH)) (zC (yB (pv 2)) zH))),?_⟩
 rintro Fa ⟨q0,q1,⟨⟩⟩
 exact SB.of (zM (zBg true 2 rfl rfl (uX (α:=Int × Int))) (λtold1=>(zM (wV (n:=true) (L:=(λs2:List (Int × Int)=>([.z q0,.z q1,.ow true s2,.un,.un]:SL K))) told1 lea (zCr (zP (zG (zF 0 rfl) (zG (zF 1 rfl) zQ)))) (λs2=>(vX 3 4 rfl rfl (λ_=>rfl) rfl)) (λs2 x4=>(zL (zEo 2 rfl rfl (wE (n:=true) (slI:=[.un,.un,.y x4.1]) (no:=2) (ix:=[3]) rfl rfl (zCr (yZ 4 rfl)) (vX 0 1 rfl rfl (λ_=>rfl) rfl) (λx7=>(et_b (md:=.hp) (zHj (zF 1 rfl)))) (λx7=>(xZ (zD 2 rfl) (zD 0 rfl))) (λx7=>lea0)).ex) (λtold6=>(zT (λs2:List (Int × Int)=>([.z q0,.z q1,.ow true s2,.un,.un]:SL K)) told6 lea))))) (λs3=>(zDh 2 rfl rfl))))) (by unfold vW; simp only [bnd])
end
end Ts
set_option maxHeartbeats 40000000
namespace Ts
open PySem L2
section
variable {P:Program} {w:World} {K:PySem.W.Frag} {mg:Str->Option Value} {base:Heap}
def zU (q0:Scr) (q1:Int):Option Int:=if (decide (q1 < (q0.ns.length:Int))) = true then atI q0.ns q1 else some (0:Int)
theorem sc_l_cell_at:FnScope ["_law_script","_law_k"] ["_law_script","_law_k"] (zK s_l_cell_at):=fsc
abbrev uH (K:PySem.W.Frag):Sp:=spF K false (λa:Scr × Int × Unit=>([.z a.1,.z a.2.1]:SL K)) (λa=>zU a.1 a.2.1)
theorem zHa (F:Fun K "_law_cell_at" "_law_cell_at" s_l_cell_at f fd) (B:Bl K mg):FnOk P w K mg base CX0 (k + 1) f fd ["_law_script","_law_k"] (uH K):=by
 refine xB F sc_l_cell_at (λ_=>rfl) (λ_=>rfl) λcdv A outer s H E hr=>?_
 have nd:=sc_l_cell_at.nd
 refine ⟨_,(zC (xW (zX zIc (pv 1) (zN (yQ K) rfl B.len PySem.boot_len (zA (pv 0) zE)) (yR _)) (zC (yB (yD (ixLK K) (pv 0) (pv 1) (λ_ _=>rfl))) zH) zH) (zC (yB zJ) zH)),?_⟩
 rintro Fa ⟨q0,q1,⟨⟩⟩
 exact SB.of (zDi (zY (md:=.hp) (zK7 (zD 1 rfl) (ex_slen (zF 0 rfl)))) (yO (esc (ex_six (zF 0 rfl) (zD 1 rfl)))) (yO (esc (zI 0)))) (by unfold zU; simp only [bnd])
def xH (q0:Int) (q1:Int):Option Int:=((((powM (10:Int) (40:Int)).bind λb1=>modM q0 b1).bind λa2=>mulM a2 (6364136223846793013:Int)).bind λa3=>(mulM (q1 + (1:Int)) (1442695040888963407:Int)).bind λb4=>some (a3 + b4)).bind λa5=>divM a5 (97:Int)
theorem sc_l_mixed:FnScope ["_law_cell","_law_k"] ["_law_cell","_law_k"] (zK s_l_mixed):=fsc
abbrev zA4 (K:PySem.W.Frag):Sp:=spF K false (λa:Int × Int × Unit=>([.z a.1,.z a.2.1]:SL K)) (λa=>xH a.1 a.2.1)
theorem zKr (F:Fun K "_law_mixed" "_law_mixed" s_l_mixed f fd) (B:Bl K mg):FnOk P w K mg base CX0 (k + 1) f fd ["_law_cell","_law_k"] (zA4 K):=by
 refine xB F sc_l_mixed (λ_=>rfl) (λ_=>rfl) λcdv A outer s H E hr=>?_
 have nd:=sc_l_mixed.nd
 refine ⟨_,(zC (yB (zV yT (zV uC (zV zMp (zV yU (pv 0) (zV op_pow zJ zJ)) zJ) (zV zMp (zV uC (pv 1) zJ) zJ)) zJ)) zH),?_⟩
 rintro Fa ⟨q0,q1,⟨⟩⟩
 exact SB.of (yO (esc (xT (uE (zNx (yV (zD 0 rfl) (ex_pow (zI 10) (zI 40))) (zI 6364136223846793013)) (zNx (uE (zD 1 rfl) (zI 1)) (zI 1442695040888963407))) (zI 97)))) (by unfold xH; simp only [bnd])
def xK (q0:Int) (q1:Int):Option Str:=(some ("abcdefghijklmnopqrstuvwxyz":Str)).bind λsome1=>(some ("":Str)).bind λtail2=>(divM q0 (16:Int)).bind λrest3=>((((divM q0 (2:Int)).bind λa7=>modM a7 (8:Int)).bind λa8=>wL a8).bind λxs=>xC (λ(s4:Str × Int) (x6:Int)=>(((modM s4.2 (26:Int)).bind λb10=>ixS some1 b10).bind λb11=>addS s4.1 b11).bind λtail9=>(divM s4.2 (26:Int)).bind λrest12=>some (tail9,rest12)) xs (tail2,rest3)).bind λs5=>((modM (s5.2 + q1) (26:Int)).bind λb14=>ixS some1 b14).bind λsign13=>(((addS sign13 s5.1).bind λa17=>((addS s5.1 sign13).bind λa16=>some (a16 :: ([]))).bind λb18=>some (a17 :: b18)).bind λa19=>(modM q0 (2:Int)).bind λb20=>atI a19 b20).bind λmade15=>(some ([("all":Str),("not":Str),("both":Str),("either":Str),("somenext":Str),("eachnext":Str),("sometill":Str),("eachtill":Str),("someever":Str),("eachever":Str)])).bind λwords21=>(if (decide (made15 ∈ words21)) = true then (cutS made15 (-(1:Int))).bind λmade24=>some made24 else some made15).bind λs22=>some s22
theorem sc_l_name_by:FnScope ["_law_cell","_law_k","_law_some","_law_tail","_law_rest","_law_turn","_law_sign","_law_made","_law_words"] ["_law_cell","_law_k"] (zK s_l_name_by):=fsc
abbrev zBt (K:PySem.W.Frag):Sp:=spF K false (λa:Int × Int × Unit=>([.z a.1,.z a.2.1]:SL K)) (λa=>xK a.1 a.2.1)
seal L2.PE L2.PT L2.PW L2.PA L2.PS L2.PSs L2.PC L2.PG L2.PGs L2.PI L2.PO in
theorem zG6 (F:Fun K "_law_name_by" "_law_name_by" s_l_name_by f fd) (B:Bl K mg):FnOk P w K mg base CX0 (k + 1) f fd ["_law_cell","_law_k"] (zBt K):=by
 refine xB F sc_l_name_by (λ_=>rfl) (λ_=>rfl) λcdv A outer s H E hr=>?_
 have nd:=sc_l_name_by.nd
 refine ⟨_,(zC (yI 2 nd vR) (zC (yI 3 nd vR) (zC (yI 4 nd (zV yT (pv 0) zJ)) (zC (xQ PassesOwn.never rfl (xR rfl B.range (zA (zV yU (zV yT (pv 0) zJ) zJ) zE)) (pg_n 5 nd) (zC (yI 3 nd (zV zId (pv 3) (zQ2 (pv 2) (zV yU (pv 4) zJ) (λ_ _=>rfl)))) (zC (yI 4 nd (zV yT (pv 4) zJ)) zH))) (zC (yI 6 nd (zQ2 (pv 2) (zV yU (zV uC (pv 4) (pv 1)) zJ) (λ_ _=>rfl))) (zC (yI 7 nd (yD (ixLK K) (wM (zA (zV zId (pv 6) (pv 3)) (zA (zV zId (pv 3) (pv 6)) zE))) (zV yU (pv 0) zJ) (λ_ _=>rfl))) (zC (yI 8 nd (wM (zA vR (zA vR (zA vR (zA vR (zA vR (zA vR (zA vR (zA vR (zA vR (zA vR zE)))))))))))) (zC (xW (zX (zDo K) (pv 7) (pv 8) (by with_unfolding_all rfl)) (zC (yI 7 nd (zDb sl_str (pv 7) zH8 (zDl (pe_un un_neg zJ)))) zH) zH) (zC (yB (pv 7)) zH))))))))),?_⟩
 rintro Fa ⟨q0,q1,⟨⟩⟩
 exact SB.of (zM (yF true 2 rfl rfl (esc (vI "abcdefghijklmnopqrstuvwxyz"))) (λsome1=>(zM (yF true 3 rfl rfl (esc (vI ""))) (λtail2=>(zM (yF true 4 rfl rfl (esc (xT (zD 0 rfl) (zI 16)))) (λrest3=>(zM (wV (n:=true) (L:=(λs4:Str × Int=>([.z q0,.z q1,.y some1,.y s4.1,.y s4.2,.un,.un,.un,.un]:SL K))) (tail2,rest3) lea (wJ (yV (xT (zD 0 rfl) (zI 2)) (zI 8))) (λs4=>(yK 5 rfl rfl)) (λs4 x6=>(zL (yF true 3 rfl rfl (esc (zIt (zD 3 rfl) (esc (zRf (zD 2 rfl) (yV (zD 4 rfl) (zI 26))))))) (λtail9=>(zL (yF true 4 rfl rfl (esc (xT (zD 4 rfl) (zI 26)))) (λrest12=>(zT (λs4:Str × Int=>([.z q0,.z q1,.y some1,.y s4.1,.y s4.2,.un,.un,.un,.un]:SL K)) (tail9,rest12) lea))))))) (λs5=>(zM (yF true 6 rfl rfl (esc (esc (zRf (zD 2 rfl) (yV (uE (zD 4 rfl) (zD 1 rfl)) (zI 26)))))) (λsign13=>(zM (yF true 7 rfl rfl (esc (esc (wI (zJ0 (wT (esc (zIt (zD 6 rfl) (zD 3 rfl))) (wT (esc (zIt (zD 3 rfl) (zD 6 rfl))) zJ2)) (λa h=>Nat.le_trans ((uK (uK zF9)) a h) (by decide))).ex (yV (zD 0 rfl) (zI 2)))))) (λmade15=>(zM (yF true 8 rfl rfl (zJ0 (wT (esc (vI "all")) (wT (esc (vI "not")) (wT (esc (vI "both")) (wT (esc (vI "either")) (wT (esc (vI "somenext")) (wT (esc (vI "eachnext")) (wT (esc (vI "sometill")) (wT (esc (vI "eachtill")) (wT (esc (vI "someever")) (wT (esc (vI "eachever")) zJ2)))))))))) (λa h=>Nat.le_trans ((uK (uK (uK (uK (uK (uK (uK (uK (uK (uK zF9)))))))))) a h) (by decide))).ex) (λwords21=>(zM (uI (zY (md:=.hp) (zK8 (zD 7 rfl) (zF 8 rfl))) (zL (yF true 7 rfl rfl (esc (esc (ex_cutS (zD 7 rfl) (ex_neg (zI 1)))))) (λmade24=>(zT (λs23:Str=>([.z q0,.z q1,.y some1,.y s5.1,.y s5.2,.un,.y sign13,.y s23,.y words21]:SL K)) made24 lea))) (zT (λs23:Str=>([.z q0,.z q1,.y some1,.y s5.1,.y s5.2,.un,.y sign13,.y s23,.y words21]:SL K)) made15 lea)) (λs22=>(yO (esc (zD 7 rfl))))))))))))))))))) (by unfold xK; simp only [bnd])
def yY (q0:Int) (q1:Int):Option LI:=(some ([]:LI)).bind λfound1=>((wL q1).bind λxs=>xC (λ(s2:LI × Int) (x4:Int)=>(((modM s2.2 (3:Int)).bind λa5=>some (decide (a5 = (0:Int)))).bind λb=>if b = true then (push s2.1 x4).bind λfound8=>some found8 else some s2.1).bind λs6=>(divM s2.2 (3:Int)).bind λrest9=>some (s6,rest9)) xs (found1,q0)).bind λs3=>(((modM s3.2 (2:Int)).bind λa10=>some (decide (a10 = (1:Int)))).bind λb=>if b = true then (some s3.1.reverse).bind λfound13=>some found13 else some s3.1).bind λs11=>some s11
theorem sc_l_some_of:FnScope ["_law_rest","_law_many","_law_found","_law_k"] ["_law_rest","_law_many"] (zK s_l_some_of):=fsc
abbrev zAg (K:PySem.W.Frag):Sp:=spF K false (λa:Int × Int × Unit=>([.z a.1,.z a.2.1]:SL K)) (λa=>yY a.1 a.2.1)
theorem zG4 (F:Fun K "_law_some_of" "_law_some_of" s_l_some_of f fd) (B:Bl K mg):FnOk P w K mg base CX0 (k + 1) f fd ["_law_rest","_law_many"] (zAg K):=by
 refine xB F sc_l_some_of (λ_=>rfl) (λ_=>rfl) λcdv A outer s H E hr=>?_
 have nd:=sc_l_some_of.nd
 refine ⟨_,(zC (yI 2 nd (wM zE)) (zC (xQ PassesOwn.never rfl (xR rfl B.range (zA (pv 1) zE)) (pg_n 3 nd) (zC (xW (zX (wR K Int hr) (zV yU (pv 0) zJ) zJ (yR _)) (zC (yJ (zAc K PySem.F.plainAttrs_list PySem.F.slot_list_append PySem.F.type_list_append yN (pv 2) (zA (pv 3) zE))) zH) zH) (zC (yI 0 nd (zV yT (pv 0) zJ)) zH))) (zC (xW (zX (wR K Int hr) (zV yU (pv 0) zJ) zJ (yR _)) (zC (yJ (zMo K PySem.F.plainAttrs_list PySem.F.slot_list_reverse PySem.F.type_list_reverse zCj (pv 2))) zH) zH) (zC (yB (pv 2)) zH)))),?_⟩
 rintro Fa ⟨q0,q1,⟨⟩⟩
 exact SB.of (zM (zBg true 2 rfl rfl (uX (α:=Int))) (λfound1=>(zM (wV (n:=true) (L:=(λs2:LI × Int=>([.z s2.2,.z q1,.ow true s2.1,.un]:SL K))) (found1,q0) lea (wJ (zD 1 rfl)) (λs2=>(yK 3 rfl rfl)) (λs2 x4=>(zL (uI (zY (md:=.hp) (wS (yV (zD 0 rfl) (zI 3)) (zI 0))) (zL (xP 2 rfl rfl (esc (zD 3 rfl))) (λfound8=>(zT (λs7:LI=>([.z s2.2,.z q1,.ow true s7,.y x4]:SL K)) found8 lea))) (zT (λs7:LI=>([.z s2.2,.z q1,.ow true s7,.y x4]:SL K)) s2.1 lea)) (λs6=>(zL (yF true 0 rfl rfl (esc (xT (zD 0 rfl) (zI 3)))) (λrest9=>(zT (λs2:LI × Int=>([.z s2.2,.z q1,.ow true s2.1,.un]:SL K)) (s6,rest9) (Le.old lea)))))))) (λs3=>(zM (uI (zY (md:=.hp) (wS (yV (zD 0 rfl) (zI 2)) (zI 1))) (zL (zB8 2 rfl rfl) (λfound13=>(zT (λs12:LI=>([.z s3.2,.z q1,.ow true s12,.un]:SL K)) found13 lea))) (zT (λs12:LI=>([.z s3.2,.z q1,.ow true s12,.un]:SL K)) s3.1 lea)) (λs11=>(zDh 2 rfl rfl))))))) (by unfold yY; simp only [bnd])
def wN (q0:Scr) (q1:LI) (q2:Int):Option (Rws Int):=(zU q0 (2:Int)).bind λzBf=>(some (([]:List LI))).bind λplaces2=>((wL q2).bind λxs=>xC (λ(s3:List LI) (x5:Int)=>(((wL (q1.length:Int)).bind λxs=>xN (λ(x7:Int)=>(atI q1 x7).bind λa8=>some (decide (a8 = x5))) (λ(x7:Int)=>some x7) xs).bind λa9=>push s3 a9).bind λplaces6=>some places6) xs places2).bind λs4=>(some (RwD.mk [])).bind λsteps10=>((wL (q1.length:Int)).bind λxs=>xC (λ(s11:RwD) (x13:Int)=>(((((atI q1 x13).bind λb15=>some ((50:Int) + b15)).bind λa17=>some ((a17,()))).bind λb18=>some (zBf,b18)).bind λz16=>xH z16.1 z16.2.1).bind λrest14=>(yY rest14 q2).bind λgoals19=>(if (decide ((goals19.length:Int) = (0:Int))) = true then ((modM rest14 q2).bind λa23=>some (a23 :: ([]))).bind λgoals22=>some goals22 else some goals19).bind λs20=>(some ([]:LI)).bind λrow24=>((some s20).bind λxs=>xC (λ(s25:LI) (x27:Int)=>(((zU q0 ((6:Int) + x13)).bind λa30=>some ((a30,((100:Int) + x27,())))).bind λz29=>xH z29.1 z29.2.1).bind λmore28=>(((atI s4 x27).bind λa34=>(((atI s4 x27).bind λa32=>some (a32.length:Int)).bind λb33=>modM more28 b33).bind λb35=>atI a34 b35).bind λa36=>push s25 a36).bind λrow31=>((atI s4 x27).bind λa41=>((divM more28 (64:Int)).bind λa39=>((atI s4 x27).bind λa38=>some (a38.length:Int)).bind λb40=>modM a39 b40).bind λb42=>atI a41 b42).bind λsecond37=>(if (!decide (second37 ∈ row31)) = true then (push row31 second37).bind λrow45=>some row45 else some row31).bind λs43=>some s43) xs row24).bind λs26=>(zFp s11 s26).bind λsteps46=>some steps46) xs steps10).bind λs12=>(((zU q0 (3:Int)).bind λa49=>some ((a49,((7:Int),())))).bind λz48=>xH z48.1 z48.2.1).bind λrest47=>((((modM rest47 (3:Int)).bind λa50=>some (decide (a50 = (0:Int)))).bind λc57=>if c57 = true then ((divM rest47 (3:Int)).bind λa54=>modM a54 (q1.length:Int)).bind λa55=>((((divM rest47 (3:Int)).bind λa51=>divM a51 (64:Int)).bind λa52=>modM a52 (q1.length:Int)).bind λb53=>atI s12.xss b53).bind λb56=>some (!decide (a55 ∈ b56)) else some false).bind λb=>if b = true then ((((divM rest47 (3:Int)).bind λa61=>divM a61 (64:Int)).bind λa62=>modM a62 (q1.length:Int)).bind λa64=>((divM rest47 (3:Int)).bind λa63=>modM a63 (q1.length:Int)).bind λb65=>zGw s12 a64 b65).bind λu60=>some u60 else some s12).bind λs58=>some (Rws.mk s58.xss)
theorem sc_l_steps_by:FnScope ["_law_script","_law_maps","_law_bases","_law_kept","_law_places","_law_base","_law_steps","_law_stand","_law_rest","_law_goals","_law_row","_law_goal","_law_more","_law_second"] ["_law_script","_law_maps","_law_bases"] (zK s_l_steps_by):=fsc
abbrev zC1 (K:PySem.W.Frag):Sp:=spF K false (λa:Scr × LI × Int × Unit=>([.z a.1,.z a.2.1,.z a.2.2.1]:SL K)) (λa=>wN a.1 a.2.1 a.2.2.1)
theorem zFv (F:Fun K "_law_steps_by" "_law_steps_by" s_l_steps_by f fd) (B:Bl K mg) (C_l_cell_at:Cal P w K mg base k "_law_cell_at" ["_law_script","_law_k"] (uH K)) (C_l_mixed:Cal P w K mg base k "_law_mixed" ["_law_cell","_law_k"] (zA4 K)) (C_l_some_of:Cal P w K mg base k "_law_some_of" ["_law_rest","_law_many"] (zAg K)):FnOk P w K mg base CX0 (k + 1) f fd ["_law_script","_law_maps","_law_bases"] (zC1 K):=by
 refine xB F sc_l_steps_by (λ_=>rfl) (λ_=>rfl) λcdv A outer s H E hr=>?_
 have nd:=sc_l_steps_by.nd
 refine ⟨_,(zC (yI 3 nd (yC C_l_cell_at hr (zA (pv 0) (zA zJ zE)))) (zC (yI 4 nd (wM zE)) (zC (xQ PassesOwn.never rfl (xR rfl B.range (zA (pv 2) zE)) (pg_n 5 nd) (zC (yJ (zAc K PySem.F.plainAttrs_list PySem.F.slot_list_append PySem.F.type_list_append yN (pv 4) (zA (wO (own:=["_law_stand"]) (ix:=[1,5]) rfl rfl rfl (xR rfl B.range (zA (zN (yQ K) rfl B.len PySem.boot_len (zA (pv 1) zE)) zE)) (λC s H fp=>yL (i:=0) (show (["_law_stand","_law_maps","_law_base"]:List Str).Nodup from by decide +kernel) rfl (Or.inl rfl)) (λC s H fp=>zCd (zX (wR K Int hr) (yD (ixLK K) (pv 1) (pv 0) (λ_ _=>rfl)) (pv 2) (yR _))) (λC s H fp=>(pv 0))) zE))) zH)) (zC (yI 6 nd (wM zE)) (zC (xQ PassesOwn.never rfl (xR rfl B.range (zA (zN (yQ K) rfl B.len PySem.boot_len (zA (pv 1) zE)) zE)) (pg_n 7 nd) (zC (yI 8 nd (yC C_l_mixed hr (zA (pv 3) (zA (zV uC zJ (yD (ixLK K) (pv 1) (pv 7) (λ_ _=>rfl))) zE)))) (zC (yI 9 nd (yC C_l_some_of hr (zA (pv 8) (zA (pv 2) zE)))) (zC (xW (zX (wR K Int hr) (zN (yQ K) rfl B.len PySem.boot_len (zA (pv 9) zE)) zJ (yR _)) (zC (yI 9 nd (wM (zA (zV yU (pv 8) (pv 2)) zE))) zH) zH) (zC (yI 10 nd (wM zE)) (zC (xQ PassesOwn.never rfl (xE K (pv 9)) (pg_n 11 nd) (zC (yI 12 nd (yC C_l_mixed hr (zA (yC C_l_cell_at hr (zA (pv 0) (zA (zV uC zJ (pv 7)) zE))) (zA (zV uC zJ (pv 11)) zE)))) (zC (yJ (zAc K PySem.F.plainAttrs_list PySem.F.slot_list_append PySem.F.type_list_append yN (pv 10) (zA (yD (ixLK K) (yD (ixLK K) (pv 4) (pv 11) (λ_ _=>rfl)) (zV yU (pv 12) (zN (yQ K) rfl B.len PySem.boot_len (zA (yD (ixLK K) (pv 4) (pv 11) (λ_ _=>rfl)) zE))) (λ_ _=>rfl)) zE))) (zC (yI 13 nd (yD (ixLK K) (yD (ixLK K) (pv 4) (pv 11) (λ_ _=>rfl)) (zV yU (zV yT (pv 12) zJ) (zN (yQ K) rfl B.len PySem.boot_len (zA (yD (ixLK K) (pv 4) (pv 11) (λ_ _=>rfl)) zE))) (λ_ _=>rfl))) (zC (xW (zX (zCg K) (pv 13) (pv 10) (by with_unfolding_all rfl)) (zC (yJ (zAc K PySem.F.plainAttrs_list PySem.F.slot_list_append PySem.F.type_list_append yN (pv 10) (zA (pv 13) zE))) zH) zH) zH))))) (zC (yJ (zAc K PySem.F.plainAttrs_list PySem.F.slot_list_append PySem.F.type_list_append yN (pv 6) (zA (pv 10) zE))) zH))))))) (zC (yI 8 nd (yC C_l_mixed hr (zA (yC C_l_cell_at hr (zA (pv 0) (zA zJ zE))) (zA zJ zE)))) (zC (xW (PW.pt (pw_and (zX (wR K Int hr) (zV yU (pv 8) zJ) zJ (yR _)) (pw_and1 (zX (zCg K) (zV yU (zV yT (pv 8) zJ) (zN (yQ K) rfl B.len PySem.boot_len (zA (pv 1) zE))) (yD (ixLK K) (pv 6) (zV yU (zV yT (zV yT (pv 8) zJ) zJ) (zN (yQ K) rfl B.len PySem.boot_len (zA (pv 1) zE))) (λ_ _=>rfl)) (by with_unfolding_all rfl))))) (zC (yJ (zAc K PySem.F.plainAttrs_list PySem.F.slot_list_append PySem.F.type_list_append yN (yD (ixLK K) (pv 6) (zV yU (zV yT (zV yT (pv 8) zJ) zJ) (zN (yQ K) rfl B.len PySem.boot_len (zA (pv 1) zE))) (λ_ _=>rfl)) (zA (zV yU (zV yT (pv 8) zJ) (zN (yQ K) rfl B.len PySem.boot_len (zA (pv 1) zE))) zE))) zH) zH) (zC (yB (pv 6)) zH)))))))),?_⟩
 rintro Fa ⟨q0,q1,q2,⟨⟩⟩
 exact SB.of (zM (yF true 3 rfl rfl (esc (zP (zG (zF 0 rfl) (zG (esc (zI 2)) zQ))))) (λzBf=>(zM (zBg true 4 rfl rfl (uX (α:=LI))) (λplaces2=>(zM (wV (n:=true) (L:=(λs3:List LI=>([.z q0,.z q1,.z q2,.y zBf,.ow true s3,.un,.un,.un,.un,.un,.un,.un,.un,.un]:SL K))) places2 lea (wJ (zD 2 rfl)) (λs3=>(yK 5 rfl rfl)) (λs3 x5=>(zL (xP 4 rfl rfl (wE (n:=true) (slI:=[.un,.z q1,.y x5]) (no:=1) (ix:=[1,5]) rfl rfl (wJ (yW (zF 1 rfl))) (yK 0 rfl rfl) (λx7=>(zY (md:=.hp) (wS (esc (wI (zF 1 rfl) (zD 0 rfl))) (zD 2 rfl)))) (λx7=>(esc (zD 0 rfl))) (λx7=>lea0)).ex) (λplaces6=>(zT (λs3:List LI=>([.z q0,.z q1,.z q2,.y zBf,.ow true s3,.un,.un,.un,.un,.un,.un,.un,.un,.un]:SL K)) places6 lea))))) (λs4=>(zM (sn_nu 6 rfl rfl en_nilD) (λsteps10=>(zM (wV (n:=true) (L:=(λs11:RwD=>([.z q0,.z q1,.z q2,.y zBf,.ow true s4,.un,.nu (s11:RwD),.un,.un,.un,.un,.un,.un,.un]:SL K))) steps10 lea (wJ (yW (zF 1 rfl))) (λs11=>(yK 7 rfl rfl)) (λs11 x13=>(zL (yF true 8 rfl rfl (esc (zP (zG (esc (zD 3 rfl)) (zG (esc (uE (zI 50) (esc (wI (zF 1 rfl) (zD 7 rfl))))) zQ))))) (λrest14=>(zL (yF true 9 rfl rfl (zP (zG (esc (zD 8 rfl)) (zG (esc (zD 2 rfl)) zQ)))) (λgoals19=>(zL (uI (zY (md:=.hp) (wS (yW (zF 9 rfl)) (zI 0))) (zL (yF true 9 rfl rfl (zJ0 (wT (esc (yV (zD 8 rfl) (zD 2 rfl))) zJ2) (λa h=>Nat.le_trans ((uK zF9) a h) (by decide))).ex) (λgoals22=>(zT (λs21:LI=>([.z q0,.z q1,.z q2,.y zBf,.ow true s4,.un,.nu (s11:RwD),.y x13,.y rest14,.y s21,.un,.un,.un,.un]:SL K)) goals22 lea))) (zT (λs21:LI=>([.z q0,.z q1,.z q2,.y zBf,.ow true s4,.un,.nu (s11:RwD),.y x13,.y rest14,.y s21,.un,.un,.un,.un]:SL K)) goals19 lea)) (λs20=>(zL (zBg true 10 rfl rfl (uX (α:=Int))) (λrow24=>(zL (wV (n:=true) (L:=(λs25:LI=>([.z q0,.z q1,.z q2,.y zBf,.ow true s4,.un,.nu (s11:RwD),.y x13,.y rest14,.y s20,.ow true s25,.un,.un,.un]:SL K))) row24 lea (xM (yZ 9 rfl)) (λs25=>(yK 11 rfl rfl)) (λs25 x27=>(zL (yF true 12 rfl rfl (esc (zP (zG (esc (zP (zG (zF 0 rfl) (zG (esc (uE (zI 6) (zD 7 rfl))) zQ)))) (zG (esc (uE (zI 100) (zD 11 rfl))) zQ))))) (λmore28=>(zL (xP 10 rfl rfl (esc (esc (wI (wI (wD 4 rfl) (zD 11 rfl)) (yV (zD 12 rfl) (yW (wI (wD 4 rfl) (zD 11 rfl)))))))) (λrow31=>(zL (yF true 13 rfl rfl (esc (esc (wI (wI (wD 4 rfl) (zD 11 rfl)) (yV (xT (zD 12 rfl) (zI 64)) (yW (wI (wD 4 rfl) (zD 11 rfl)))))))) (λsecond37=>(zL (uI (zY (md:=.hp) (zE1 (zD 13 rfl) (wD 10 rfl))) (zL (xP 10 rfl rfl (esc (zD 13 rfl))) (λrow45=>(zT (λs44:LI=>([.z q0,.z q1,.z q2,.y zBf,.ow true s4,.un,.nu (s11:RwD),.y x13,.y rest14,.y s20,.ow true s44,.y x27,.y more28,.y second37]:SL K)) row45 lea))) (zT (λs44:LI=>([.z q0,.z q1,.z q2,.y zBf,.ow true s4,.un,.nu (s11:RwD),.y x13,.y rest14,.y s20,.ow true s44,.y x27,.y more28,.y second37]:SL K)) row31 lea)) (λs43=>(zT (λs25:LI=>([.z q0,.z q1,.z q2,.y zBf,.ow true s4,.un,.nu (s11:RwD),.y x13,.y rest14,.y s20,.ow true s25,.un,.un,.un]:SL K)) s43 lea))))))))))) (λs26=>(zL (sn_appD 6 10 rfl rfl (by decide) rfl) (λsteps46=>(zT (λs11:RwD=>([.z q0,.z q1,.z q2,.y zBf,.ow true s4,.un,.nu (s11:RwD),.un,.un,.un,.un,.un,.un,.un]:SL K)) steps46 lea))))))))))))))) (λs12=>(zM (yF true 8 rfl rfl (esc (zP (zG (esc (zP (zG (zF 0 rfl) (zG (esc (zI 3)) zQ)))) (zG (esc (zI 7)) zQ))))) (λrest47=>(zM (uI (zN0 (zY (md:=.hp) (wS (yV (zD 8 rfl) (zI 3)) (zI 0))) (zY (md:=.hp) (zE1 (yV (xT (zD 8 rfl) (zI 3)) (yW (zF 1 rfl))) (wI (zP4 6 rfl) (yV (xT (xT (zD 8 rfl) (zI 3)) (zI 64)) (yW (zF 1 rfl))))))) (zL (zLz 6 rfl rfl (yV (xT (xT (zD 8 rfl) (zI 3)) (zI 64)) (yW (zF 1 rfl))) (yV (xT (zD 8 rfl) (zI 3)) (yW (zF 1 rfl)))) (λu60=>(zT (λs59:RwD=>([.z q0,.z q1,.z q2,.y zBf,.ow true s4,.un,.nu (s59:RwD),.un,.y rest47,.un,.un,.un,.un,.un]:SL K)) u60 lea))) (zT (λs59:RwD=>([.z q0,.z q1,.z q2,.y zBf,.ow true s4,.un,.nu (s59:RwD),.un,.y rest47,.un,.un,.un,.un,.un]:SL K)) s12 lea)) (λs58=>(zO8 6 rfl))))))))))))))) (by unfold wN; simp only [bnd])
def vZ (q0:Int) (q1:Int) (q2:LI) (q3:Int):Option LI:=((((xH q0 ((200:Int) + q1)).bind λa2=>divM a2 ((1:Int) + q1)).bind λa4=>some ((a4,(q3,())))).bind λz3=>yY z3.1 z3.2.1).bind λgoals1=>((wL (q2.length:Int)).bind λxs=>xN (λ(x6:Int)=>(atI q2 x6).bind λa7=>some (decide (a7 ∈ goals1))) (λ(x6:Int)=>some x6) xs).bind λfound5=>((((divM q0 (7:Int)).bind λa8=>modM a8 (2:Int)).bind λa9=>some (decide (a9 = (1:Int)))).bind λb=>if b = true then (some found5.reverse).bind λfound12=>some found12 else some found5).bind λs10=>(((((divM q0 (14:Int)).bind λa13=>modM a13 (5:Int)).bind λa14=>(modM q1 (9:Int)).bind λb15=>some (decide (a14 = b15))).bind λc16=>if c16 = true then some (decide ((1:Int) < (q2.length:Int))) else some false).bind λb=>if b = true then ((divM q0 (70:Int)).bind λa20=>modM a20 (q2.length:Int)).bind λstand19=>(if (!decide (stand19 ∈ s10)) = true then (push s10 stand19).bind λfound23=>some found23 else some s10).bind λs21=>some s21 else some s10).bind λs17=>some s17
theorem sc_l_sets_by:FnScope ["_law_cell","_law_k","_law_maps","_law_bases","_law_goals","_law_found","_law_stand"] ["_law_cell","_law_k","_law_maps","_law_bases"] (zK s_l_sets_by):=fsc
abbrev zEa (K:PySem.W.Frag):Sp:=spF K false (λa:Int × Int × LI × Int × Unit=>([.z a.1,.z a.2.1,.z a.2.2.1,.z a.2.2.2.1]:SL K)) (λa=>vZ a.1 a.2.1 a.2.2.1 a.2.2.2.1)
theorem zG5 (F:Fun K "_law_sets_by" "_law_sets_by" s_l_sets_by f fd) (B:Bl K mg) (C_l_mixed:Cal P w K mg base k "_law_mixed" ["_law_cell","_law_k"] (zA4 K)) (C_l_some_of:Cal P w K mg base k "_law_some_of" ["_law_rest","_law_many"] (zAg K)):FnOk P w K mg base CX0 (k + 1) f fd ["_law_cell","_law_k","_law_maps","_law_bases"] (zEa K):=by
 refine xB F sc_l_sets_by (λ_=>rfl) (λ_=>rfl) λcdv A outer s H E hr=>?_
 have nd:=sc_l_sets_by.nd
 refine ⟨_,(zC (yI 4 nd (yC C_l_some_of hr (zA (zV yT (yC C_l_mixed hr (zA (pv 0) (zA (zV uC zJ (pv 1)) zE))) (zV uC zJ (pv 1))) (zA (pv 3) zE)))) (zC (zFs (i:=5) (own:=["_law_stand"]) (ix:=[2,4]) nd rfl rfl rfl rfl rfl (xR rfl B.range (zA (zN (yQ K) rfl B.len PySem.boot_len (zA (pv 2) zE)) zE)) (λC s H fp=>yL (i:=0) (show (["_law_stand","_law_maps","_law_goals"]:List Str).Nodup from by decide +kernel) rfl (Or.inl rfl)) (λC s H fp=>zCd (zX (zDo K) (yD (ixLK K) (pv 1) (pv 0) (λ_ _=>rfl)) (pv 2) (by with_unfolding_all rfl))) (λC s H fp=>(pv 0))) (zC (xW (zX (wR K Int hr) (zV yU (zV yT (pv 0) zJ) zJ) zJ (yR _)) (zC (yJ (zMo K PySem.F.plainAttrs_list PySem.F.slot_list_reverse PySem.F.type_list_reverse zCj (pv 5))) zH) zH) (zC (xW (PW.pt (pw_and (zX (wR K Int hr) (zV yU (zV yT (pv 0) zJ) zJ) (zV yU (pv 1) zJ) (yR _)) (pw_and1 (zX op_gt (zN (yQ K) rfl B.len PySem.boot_len (zA (pv 2) zE)) zJ (yR _))))) (zC (yI 6 nd (zV yU (zV yT (pv 0) zJ) (zN (yQ K) rfl B.len PySem.boot_len (zA (pv 2) zE)))) (zC (xW (zX (zCg K) (pv 6) (pv 5) (by with_unfolding_all rfl)) (zC (yJ (zAc K PySem.F.plainAttrs_list PySem.F.slot_list_append PySem.F.type_list_append yN (pv 5) (zA (pv 6) zE))) zH) zH) zH)) zH) (zC (yB (pv 5)) zH))))),?_⟩
 rintro Fa ⟨q0,q1,q2,q3,⟨⟩⟩
 exact SB.of (zM (yF true 4 rfl rfl (zP (zG (esc (xT (zP (zG (esc (zD 0 rfl)) (zG (esc (uE (zI 200) (zD 1 rfl))) zQ))) (uE (zI 1) (zD 1 rfl)))) (zG (esc (zD 3 rfl)) zQ)))) (λgoals1=>(zM (zBg true 5 rfl rfl (wE (n:=true) (slI:=[.un,.z q2,.y goals1]) (no:=1) (ix:=[2,4]) rfl rfl (wJ (yW (zF 2 rfl))) (yK 0 rfl rfl) (λx6=>(zY (md:=.hp) (zK8 (esc (wI (zF 1 rfl) (zD 0 rfl))) (zF 2 rfl)))) (λx6=>(esc (zD 0 rfl))) (λx6=>lea0))) (λfound5=>(zM (uI (zY (md:=.hp) (wS (yV (xT (zD 0 rfl) (zI 7)) (zI 2)) (zI 1))) (zL (zB8 5 rfl rfl) (λfound12=>(zT (λs11:LI=>([.z q0,.z q1,.z q2,.z q3,.y goals1,.ow true s11,.un]:SL K)) found12 lea))) (zT (λs11:LI=>([.z q0,.z q1,.z q2,.z q3,.y goals1,.ow true s11,.un]:SL K)) found5 lea)) (λs10=>(zM (uI (zN0 (zY (md:=.hp) (wS (yV (xT (zD 0 rfl) (zI 14)) (zI 5)) (yV (zD 1 rfl) (zI 9)))) (zY (md:=.hp) (ex_gt (yW (zF 2 rfl)) (zI 1)))) (zL (yF true 6 rfl rfl (esc (yV (xT (zD 0 rfl) (zI 70)) (yW (zF 2 rfl))))) (λstand19=>(zL (uI (zY (md:=.hp) (zE1 (zD 6 rfl) (wD 5 rfl))) (zL (xP 5 rfl rfl (esc (zD 6 rfl))) (λfound23=>(zT (λs22:LI=>([.z q0,.z q1,.z q2,.z q3,.y goals1,.ow true s22,.y stand19]:SL K)) found23 lea))) (zT (λs22:LI=>([.z q0,.z q1,.z q2,.z q3,.y goals1,.ow true s22,.y stand19]:SL K)) s10 lea)) (λs21=>(zT (λs18:LI=>([.z q0,.z q1,.z q2,.z q3,.y goals1,.ow true s18,.un]:SL K)) s21 lea))))) (zT (λs18:LI=>([.z q0,.z q1,.z q2,.z q3,.y goals1,.ow true s18,.un]:SL K)) s10 lea)) (λs17=>(zDh 5 rfl rfl))))))))) (by unfold vZ; simp only [bnd])
def uA (q0:Scr):Option (LI × Int):=(((zU q0 (0:Int)).bind λa2=>modM a2 (8:Int)).bind λb3=>some ((1:Int) + b3)).bind λmany1=>(((((zU q0 (0:Int)).bind λa4=>divM a4 (8:Int)).bind λa5=>modM a5 (8:Int)).bind λa6=>some (decide (a6 = (5:Int)))).bind λb=>if b = true then ((((zU q0 (0:Int)).bind λa10=>divM a10 (64:Int)).bind λa11=>modM a11 (20:Int)).bind λb12=>some ((1:Int) + b12)).bind λmany9=>some many9 else some many1).bind λs7=>(((zU q0 (1:Int)).bind λa14=>modM a14 s7).bind λb15=>some ((1:Int) + b15)).bind λbases13=>(some ([]:LI)).bind λmaps16=>((wL s7).bind λxs=>xC (λ(s17:LI) (x19:Int)=>(((((((zU q0 (1:Int)).bind λa22=>some ((a22,(x19,())))).bind λz21=>xH z21.1 z21.2.1).bind λa23=>modM a23 bases13).bind λa24=>(mulM bases13 (if (decide (x19 < bases13)) = true then (1:Int) else 0)).bind λb25=>some (a24 + b25)).bind λb26=>some (min x19 b26)).bind λa27=>push s17 a27).bind λmaps20=>some maps20) xs maps16).bind λs18=>some (s18,bases13)
theorem sc_l_maps_by:FnScope ["_law_script","_law_many","_law_bases","_law_maps","_law_stand"] ["_law_script"] (zK s_l_maps_by):=fsc
abbrev zEb (K:PySem.W.Frag):Sp:=spF K false (λa:Scr × Unit=>([.z a.1]:SL K)) (λa=>uA a.1)
theorem zG7 (F:Fun K "_law_maps_by" "_law_maps_by" s_l_maps_by f fd) (B:Bl K mg) (zmin:mg "min" = none) (C_l_cell_at:Cal P w K mg base k "_law_cell_at" ["_law_script","_law_k"] (uH K)) (C_l_mixed:Cal P w K mg base k "_law_mixed" ["_law_cell","_law_k"] (zA4 K)):FnOk P w K mg base CX0 (k + 1) f fd ["_law_script"] (zEb K):=by
 refine xB F sc_l_maps_by (λ_=>rfl) (λ_=>rfl) λcdv A outer s H E hr=>?_
 have nd:=sc_l_maps_by.nd
 refine ⟨_,(zC (yI 1 nd (zV uC zJ (zV yU (yC C_l_cell_at hr (zA (pv 0) (zA zJ zE))) zJ))) (zC (xW (zX (wR K Int hr) (zV yU (zV yT (yC C_l_cell_at hr (zA (pv 0) (zA zJ zE))) zJ) zJ) zJ (yR _)) (zC (yI 1 nd (zV uC zJ (zV yU (zV yT (yC C_l_cell_at hr (zA (pv 0) (zA zJ zE))) zJ) zJ))) zH) zH) (zC (yI 2 nd (zV uC zJ (zV yU (yC C_l_cell_at hr (zA (pv 0) (zA zJ zE))) (pv 1)))) (zC (yI 3 nd (wM zE)) (zC (xQ PassesOwn.never rfl (xR rfl B.range (zA (pv 1) zE)) (pg_n 4 nd) (zC (yJ (zAc K PySem.F.plainAttrs_list PySem.F.slot_list_append PySem.F.type_list_append yN (pv 3) (zA (zN (zOc rfl) rfl zmin bt_min (zA (pv 4) (zA (zV uC (zV yU (yC C_l_mixed hr (zA (yC C_l_cell_at hr (zA (pv 0) (zA zJ zE))) (zA (pv 4) zE))) (pv 2)) (zV zMp (pv 2) (vG zOe rfl B.int zOh (zA (uN zIc (pv 4) (pv 2) (yR _)) zE)))) zE))) zE))) zH)) (zC (yB (wW (zA (pv 3) (zA (pv 2) zE)))) zH)))))),?_⟩
 rintro Fa ⟨q0,⟨⟩⟩
 exact SB.of (zM (yF true 1 rfl rfl (esc (uE (zI 1) (yV (zP (zG (zF 0 rfl) (zG (esc (zI 0)) zQ))) (zI 8))))) (λmany1=>(zM (uI (zY (md:=.hp) (wS (yV (xT (zP (zG (zF 0 rfl) (zG (esc (zI 0)) zQ))) (zI 8)) (zI 8)) (zI 5))) (zL (yF true 1 rfl rfl (esc (uE (zI 1) (yV (xT (zP (zG (zF 0 rfl) (zG (esc (zI 0)) zQ))) (zI 64)) (zI 20))))) (λmany9=>(zT (λs8:Int=>([.z q0,.y s8,.un,.un,.un]:SL K)) many9 lea))) (zT (λs8:Int=>([.z q0,.y s8,.un,.un,.un]:SL K)) many1 lea)) (λs7=>(zM (yF true 2 rfl rfl (esc (uE (zI 1) (yV (zP (zG (zF 0 rfl) (zG (esc (zI 1)) zQ))) (zD 1 rfl))))) (λbases13=>(zM (zBg true 3 rfl rfl (uX (α:=Int))) (λmaps16=>(zM (wV (n:=true) (L:=(λs17:LI=>([.z q0,.y s7,.y bases13,.ow true s17,.un]:SL K))) maps16 lea (wJ (zD 1 rfl)) (λs17=>(yK 4 rfl rfl)) (λs17 x19=>(zL (xP 3 rfl rfl (esc (ex_min2 (zD 4 rfl) (uE (yV (zP (zG (esc (zP (zG (zF 0 rfl) (zG (esc (zI 1)) zQ)))) (zG (esc (zD 4 rfl)) zQ))) (zD 2 rfl)) (zNx (zD 2 rfl) (ex_intb (zK7 (zD 4 rfl) (zD 2 rfl)))))))) (λmaps20=>(zT (λs17:LI=>([.z q0,.y s7,.y bases13,.ow true s17,.un]:SL K)) maps20 lea))))) (λs18=>(zL5 (sl2:=[.z q0,.y s7,.y bases13,.y s18,.un]) lea (yO (xZ (yZ 3 rfl) (zD 2 rfl)))))))))))))) (by unfold uA; simp only [bnd])
def wB (q0:Scr) (q1:LI) (q2:Int):Option (List (Str × LI)):=(some (([]:List (Str × LI)))).bind λmarks1=>((((zU q0 (4:Int)).bind λa5=>modM a5 (4:Int)).bind λa6=>wL a6).bind λxs=>xC (λ(s2:List (Str × LI)) (x4:Int)=>(((((zU q0 (5:Int)).bind λa9=>some ((a9,(x4,())))).bind λz8=>xK z8.1 z8.2.1).bind λa12=>(((zU q0 (4:Int)).bind λa11=>some ((a11,(x4,(q1,(q2,())))))).bind λz10=>vZ z10.1 z10.2.1 z10.2.2.1 z10.2.2.2.1).bind λb13=>some (a12,b13)).bind λa14=>push s2 a14).bind λmarks7=>some marks7) xs marks1).bind λs3=>some s3
theorem sc_l_marked_by:FnScope ["_law_script","_law_maps","_law_bases","_law_marks","_law_k"] ["_law_script","_law_maps","_law_bases"] (zK s_l_marked_by):=fsc
abbrev zB7 (K:PySem.W.Frag):Sp:=spF K false (λa:Scr × LI × Int × Unit=>([.z a.1,.z a.2.1,.z a.2.2.1]:SL K)) (λa=>wB a.1 a.2.1 a.2.2.1)
theorem zEi (F:Fun K "_law_marked_by" "_law_marked_by" s_l_marked_by f fd) (B:Bl K mg) (C_l_cell_at:Cal P w K mg base k "_law_cell_at" ["_law_script","_law_k"] (uH K)) (C_l_name_by:Cal P w K mg base k "_law_name_by" ["_law_cell","_law_k"] (zBt K)) (C_l_sets_by:Cal P w K mg base k "_law_sets_by" ["_law_cell","_law_k","_law_maps","_law_bases"] (zEa K)):FnOk P w K mg base CX0 (k + 1) f fd ["_law_script","_law_maps","_law_bases"] (zB7 K):=by
 refine xB F sc_l_marked_by (λ_=>rfl) (λ_=>rfl) λcdv A outer s H E hr=>?_
 have nd:=sc_l_marked_by.nd
 refine ⟨_,(zC (yI 3 nd (wM zE)) (zC (xQ PassesOwn.never rfl (xR rfl B.range (zA (zV yU (yC C_l_cell_at hr (zA (pv 0) (zA zJ zE))) zJ) zE)) (pg_n 4 nd) (zC (yJ (zAc K PySem.F.plainAttrs_list PySem.F.slot_list_append PySem.F.type_list_append yN (pv 3) (zA (wW (zA (yC C_l_name_by hr (zA (yC C_l_cell_at hr (zA (pv 0) (zA zJ zE))) (zA (pv 4) zE))) (zA (yC C_l_sets_by hr (zA (yC C_l_cell_at hr (zA (pv 0) (zA zJ zE))) (zA (pv 4) (zA (pv 1) (zA (pv 2) zE))))) zE))) zE))) zH)) (zC (yB (pv 3)) zH))),?_⟩
 rintro Fa ⟨q0,q1,q2,⟨⟩⟩
 exact SB.of (zM (zBg true 3 rfl rfl (uX (α:=Str × LI))) (λmarks1=>(zM (wV (n:=true) (L:=(λs2:List (Str × LI)=>([.z q0,.z q1,.z q2,.ow true s2,.un]:SL K))) marks1 lea (wJ (yV (zP (zG (zF 0 rfl) (zG (esc (zI 4)) zQ))) (zI 4))) (λs2=>(yK 4 rfl rfl)) (λs2 x4=>(zL (xP 3 rfl rfl (xZ (zP (zG (esc (zP (zG (zF 0 rfl) (zG (esc (zI 5)) zQ)))) (zG (esc (zD 4 rfl)) zQ))) (zP (zG (esc (zP (zG (zF 0 rfl) (zG (esc (zI 4)) zQ)))) (zG (esc (zD 4 rfl)) (zG (zF 1 rfl) (zG (esc (zD 2 rfl)) zQ))))))) (λmarks7=>(zT (λs2:List (Str × LI)=>([.z q0,.z q1,.z q2,.ow true s2,.un]:SL K)) marks7 lea))))) (λs3=>(zDh 3 rfl rfl))))) (by unfold wB; simp only [bnd])
def vV (q0:Scr):Option (((List LI) × (List (Str × LI))) × ((List LI) × (List (Str × LI)))):=(uA q0).bind λv1=>(((wN q0 v1.1 v1.2).bind λa3=>some a3.xss).bind λa4=>(wB q0 v1.1 v1.2).bind λb5=>some (TpL.mk a4 b5)).bind λfirst2=>(((zU q0 (26:Int)).bind λa8=>some ((a8,((11:Int),())))).bind λz7=>xH z7.1 z7.2.1).bind λrest6=>(lrM v1.2).bind λmaps9=>(((modM rest6 (4:Int)).bind λa13=>wL a13).bind λxs=>xC (λ(s10:LI) (x12:Int)=>(((divM rest6 ((4:Int) + x12)).bind λa15=>modM a15 v1.2).bind λa16=>push s10 a16).bind λmaps14=>some maps14) xs maps9).bind λs11=>(((((zU q0 (27:Int)).bind λa18=>some (a18 :: ([]))).bind λb19=>catM (cutL q0.ns none (some (3:Int))) b19).bind λa20=>catM a20 (cutL q0.ns (some (4:Int)) (some (6:Int)))).bind λa21=>catM a21 (cutL q0.ns (some (28:Int)) none)).bind λless17=>(wN (Scr.mk less17) s11 v1.2).bind λsteps22=>((((divM rest6 (100:Int)).bind λa26=>modM a26 (4:Int)).bind λa27=>wL a27).bind λxs=>xC (λ(s23:Rws Int) (x25:Int)=>(((zU q0 (27:Int)).bind λa30=>some ((a30,((30:Int) + x25,())))).bind λz29=>xH z29.1 z29.2.1).bind λmore28=>(((modM more28 (s11.length:Int)).bind λa33=>(((divM more28 (64:Int)).bind λa31=>modM a31 (s11.length:Int)).bind λb32=>atI s23.xss b32).bind λb34=>some (!decide (a33 ∈ b34))).bind λb=>if b = true then (((divM more28 (64:Int)).bind λa38=>modM a38 (s11.length:Int)).bind λa39=>(modM more28 (s11.length:Int)).bind λb40=>zGu s23 a39 b40).bind λu37=>some u37 else some s23).bind λs35=>some s35) xs steps22).bind λs24=>(wB q0 s11 v1.2).bind λmarks41=>(((zU q0 (5:Int)).bind λa44=>some ((a44,((4:Int),())))).bind λz43=>xK z43.1 z43.2.1).bind λname42=>((divM rest6 (1000:Int)).bind λa46=>modM a46 (6:Int)).bind λway45=>(if (decide (way45 = (0:Int))) = true then (push marks41 ((name42,([]:LI)))).bind λmarks49=>(some marks49.reverse).bind λmarks50=>some marks50 else some marks41).bind λs47=>((if (decide (way45 = (1:Int))) = true then some true else some (decide (way45 = (2:Int)))).bind λb=>if b = true then (((((divM rest6 (6000:Int)).bind λa55=>some ((a55,((s11.length:Int),())))).bind λz54=>yY z54.1 z54.2.1).bind λb56=>some (name42,b56)).bind λa57=>push s47 a57).bind λmarks53=>some marks53 else some s47).bind λs51=>((if (decide (way45 = (2:Int))) = true then some true else some (decide (way45 = (3:Int)))).bind λb=>if b = true then (((((divM rest6 (7000:Int)).bind λa62=>some ((a62,((((first2.a,first2.b).1).length:Int),())))).bind λz61=>yY z61.1 z61.2.1).bind λb63=>some (name42,b63)).bind λa64=>if first2.b.length < cap then some (TpL.mk first2.a (first2.b ++ [a64])) else none).bind λu60=>some u60 else some first2).bind λs58=>some (((s58.a,s58.b),(s24.xss,s51)))
theorem sc_l_two_by:FnScope ["_law_script","_law_maps","_law_bases","_law_first","_law_rest","_law_stand","_law_less","_law_steps","_law_k","_law_more","_law_marks","_law_name","_law_way"] ["_law_script"] (zK s_l_two_by):=fsc
abbrev zE5 (K:PySem.W.Frag):Sp:=spF K false (λa:Scr × Unit=>([.z a.1]:SL K)) (λa=>vV a.1)
theorem zIf (F:Fun K "_law_two_by" "_law_two_by" s_l_two_by f fd) (B:Bl K mg) (C_l_cell_at:Cal P w K mg base k "_law_cell_at" ["_law_script","_law_k"] (uH K)) (C_l_maps_by:Cal P w K mg base k "_law_maps_by" ["_law_script"] (zEb K)) (C_l_marked_by:Cal P w K mg base k "_law_marked_by" ["_law_script","_law_maps","_law_bases"] (zB7 K)) (C_l_mixed:Cal P w K mg base k "_law_mixed" ["_law_cell","_law_k"] (zA4 K)) (C_l_name_by:Cal P w K mg base k "_law_name_by" ["_law_cell","_law_k"] (zBt K)) (C_l_some_of:Cal P w K mg base k "_law_some_of" ["_law_rest","_law_many"] (zAg K)) (C_l_steps_by:Cal P w K mg base k "_law_steps_by" ["_law_script","_law_maps","_law_bases"] (zC1 K)):FnOk P w K mg base CX0 (k + 1) f fd ["_law_script"] (zE5 K):=by
 refine xB F sc_l_two_by (λ_=>rfl) (λ_=>rfl) λcdv A outer s H E hr=>?_
 have nd:=sc_l_two_by.nd
 refine ⟨_,(zC (zG0 (yC C_l_maps_by hr (zA (pv 0) zE)) (zAt rfl (zW (pg_n 1 nd) (zW (pg_n 2 nd) wC)))) (zC (yI 3 nd (wW (zA (yC C_l_steps_by hr (zA (pv 0) (zA (pv 1) (zA (pv 2) zE)))) (zA (yC C_l_marked_by hr (zA (pv 0) (zA (pv 1) (zA (pv 2) zE)))) zE)))) (zC (yI 4 nd (yC C_l_mixed hr (zA (yC C_l_cell_at hr (zA (pv 0) (zA zJ zE))) (zA zJ zE)))) (zC (yI 1 nd (zJk rfl rfl B.list rfl B.range (zA (pv 2) zE))) (zC (xQ PassesOwn.never rfl (xR rfl B.range (zA (zV yU (pv 4) zJ) zE)) (pg_n 5 nd) (zC (yJ (zAc K PySem.F.plainAttrs_list PySem.F.slot_list_append PySem.F.type_list_append yN (pv 1) (zA (zV yU (zV yT (pv 4) (zV uC zJ (pv 5))) (pv 2)) zE))) zH)) (zC (yI 6 nd (zV zMs (zV zMs (zV zMs (zDb (slLK K) (pv 0) zH8 (zDl zJ)) (wM (zA (yC C_l_cell_at hr (zA (pv 0) (zA zJ zE))) zE))) (zDb (slLK K) (pv 0) (zDl zJ) (zDl zJ))) (zDb (slLK K) (pv 0) (zDl zJ) zH8))) (zC (yI 7 nd (yC C_l_steps_by hr (zA (pv 6) (zA (pv 1) (zA (pv 2) zE))))) (zC (xQ PassesOwn.never rfl (xR rfl B.range (zA (zV yU (zV yT (pv 4) zJ) zJ) zE)) (pg_n 8 nd) (zC (yI 9 nd (yC C_l_mixed hr (zA (yC C_l_cell_at hr (zA (pv 0) (zA zJ zE))) (zA (zV uC zJ (pv 8)) zE)))) (zC (xW (zX (zCg K) (zV yU (pv 9) (zN (yQ K) rfl B.len PySem.boot_len (zA (pv 1) zE))) (yD (ixLK K) (pv 7) (zV yU (zV yT (pv 9) zJ) (zN (yQ K) rfl B.len PySem.boot_len (zA (pv 1) zE))) (λ_ _=>rfl)) (by with_unfolding_all rfl)) (zC (yJ (zAc K PySem.F.plainAttrs_list PySem.F.slot_list_append PySem.F.type_list_append yN (yD (ixLK K) (pv 7) (zV yU (zV yT (pv 9) zJ) (zN (yQ K) rfl B.len PySem.boot_len (zA (pv 1) zE))) (λ_ _=>rfl)) (zA (zV yU (pv 9) (zN (yQ K) rfl B.len PySem.boot_len (zA (pv 1) zE))) zE))) zH) zH) zH))) (zC (yI 10 nd (yC C_l_marked_by hr (zA (pv 0) (zA (pv 1) (zA (pv 2) zE))))) (zC (yI 11 nd (yC C_l_name_by hr (zA (yC C_l_cell_at hr (zA (pv 0) (zA zJ zE))) (zA zJ zE)))) (zC (yI 12 nd (zV yU (zV yT (pv 4) zJ) zJ)) (zC (xW (zX (wR K Int hr) (pv 12) zJ (yR _)) (zC (yJ (zAc K PySem.F.plainAttrs_list PySem.F.slot_list_append PySem.F.type_list_append yN (pv 10) (zA (wW (zA (pv 11) (zA (wM zE) zE))) zE))) (zC (yJ (zMo K PySem.F.plainAttrs_list PySem.F.slot_list_reverse PySem.F.type_list_reverse zCj (pv 10))) zH)) zH) (zC (xW (PW.pt (pw_or (zX (wR K Int hr) (pv 12) zJ (yR _)) (pw_or1 (zX (wR K Int hr) (pv 12) zJ (yR _))))) (zC (yJ (zAc K PySem.F.plainAttrs_list PySem.F.slot_list_append PySem.F.type_list_append yN (pv 10) (zA (wW (zA (pv 11) (zA (yC C_l_some_of hr (zA (zV yT (pv 4) zJ) (zA (zN (yQ K) rfl B.len PySem.boot_len (zA (pv 1) zE)) zE))) zE))) zE))) zH) zH) (zC (xW (PW.pt (pw_or (zX (wR K Int hr) (pv 12) zJ (yR _)) (pw_or1 (zX (wR K Int hr) (pv 12) zJ (yR _))))) (zC (yJ (zAc K PySem.F.plainAttrs_list PySem.F.slot_list_append PySem.F.type_list_append yN (yD (ixTK K) (pv 3) zJ (λ_ _=>rfl)) (zA (wW (zA (pv 11) (zA (yC C_l_some_of hr (zA (zV yT (pv 4) zJ) (zA (zN (yQ K) rfl B.len PySem.boot_len (zA (yD (ixTK K) (pv 3) zJ (λ_ _=>rfl)) zE)) zE))) zE))) zE))) zH) zH) (zC (yB (wW (zA (pv 3) (zA (wW (zA (pv 7) (zA (pv 10) zE))) zE)))) zH))))))))))))))),?_⟩
 rintro Fa ⟨q0,⟨⟩⟩
 exact SB.of (zM (zFf (n:=true) (zP (zG (zF 0 rfl) zQ)) (vX 1 2 rfl rfl (λ_=>rfl) rfl)) (λv1=>(zM (sn_tpl 3 rfl rfl rfl (ex_rwL (zP (zG (zF 0 rfl) (zG (zF 1 rfl) (zG (esc (zD 2 rfl)) zQ))))) (zCq (zG (zF 0 rfl) (zG (zF 1 rfl) (zG (esc (zD 2 rfl)) zQ))))) (λfirst2=>(zM (yF true 4 rfl rfl (esc (zP (zG (esc (zP (zG (zF 0 rfl) (zG (esc (zI 26)) zQ)))) (zG (esc (zI 11)) zQ))))) (λrest6=>(zM (zBg true 1 rfl rfl (zJ1 (zD 2 rfl))) (λmaps9=>(zM (wV (n:=true) (L:=(λs10:LI=>([.z q0,.ow true s10,.y v1.2,.ob true (first2:TpL (List LI) (Str × LI)),.y rest6,.un,.un,.un,.un,.un,.un,.un,.un]:SL K))) maps9 lea (wJ (yV (zD 4 rfl) (zI 4))) (λs10=>(yK 5 rfl rfl)) (λs10 x12=>(zL (xP 1 rfl rfl (esc (yV (xT (zD 4 rfl) (uE (zI 4) (zD 5 rfl))) (zD 2 rfl)))) (λmaps14=>(zT (λs10:LI=>([.z q0,.ow true s10,.y v1.2,.ob true (first2:TpL (List LI) (Str × LI)),.y rest6,.un,.un,.un,.un,.un,.un,.un,.un]:SL K)) maps14 lea))))) (λs11=>(zM (yF true 6 rfl rfl (zN3 (zN3 (zN3 (zP7 (zF 0 rfl) (zI 3)).ex (zJ0 (wT (esc (zP (zG (zF 0 rfl) (zG (esc (zI 27)) zQ)))) zJ2) (λa h=>Nat.le_trans ((uK zF9) a h) (by decide))).ex).ex (zN2 (zF 0 rfl) (zI 4) (zI 6)).ex).ex (zN1 (zF 0 rfl) (zI 28)).ex).ex) (λless17=>(zM (zH5 7 rfl rfl rfl (zCq (zG (ex_scr (zF 6 rfl)) (zG (wD 1 rfl) (zG (esc (zD 2 rfl)) zQ))))) (λsteps22=>(zM (wV (n:=true) (L:=(λs23:Rws Int=>([.z q0,.ow true s11,.y v1.2,.ob true (first2:TpL (List LI) (Str × LI)),.y rest6,.un,.y less17,.ob true (s23:Rws Int),.un,.un,.un,.un,.un]:SL K))) steps22 lea (wJ (yV (xT (zD 4 rfl) (zI 100)) (zI 4))) (λs23=>(yK 8 rfl rfl)) (λs23 x25=>(zL (yF true 9 rfl rfl (esc (zP (zG (esc (zP (zG (zF 0 rfl) (zG (esc (zI 27)) zQ)))) (zG (esc (uE (zI 30) (zD 8 rfl))) zQ))))) (λmore28=>(zL (uI (zY (md:=.hp) (zE1 (yV (zD 9 rfl) (yW (wD 1 rfl))) (wI (zF7 7 rfl) (yV (xT (zD 9 rfl) (zI 64)) (yW (wD 1 rfl)))))) (zL (zO2 7 rfl rfl (yV (xT (zD 9 rfl) (zI 64)) (yW (wD 1 rfl))) (esc (yV (zD 9 rfl) (yW (wD 1 rfl))))) (λu37=>(zT (λs36:Rws Int=>([.z q0,.ow true s11,.y v1.2,.ob true (first2:TpL (List LI) (Str × LI)),.y rest6,.un,.y less17,.ob true (s36:Rws Int),.y x25,.y more28,.un,.un,.un]:SL K)) u37 lea))) (zT (λs36:Rws Int=>([.z q0,.ow true s11,.y v1.2,.ob true (first2:TpL (List LI) (Str × LI)),.y rest6,.un,.y less17,.ob true (s36:Rws Int),.y x25,.y more28,.un,.un,.un]:SL K)) s23 lea)) (λs35=>(zT (λs23:Rws Int=>([.z q0,.ow true s11,.y v1.2,.ob true (first2:TpL (List LI) (Str × LI)),.y rest6,.un,.y less17,.ob true (s23:Rws Int),.un,.un,.un,.un,.un]:SL K)) s35 lea))))))) (λs24=>(zM (zO0 10 rfl rfl rfl (zCq (zG (zF 0 rfl) (zG (wD 1 rfl) (zG (esc (zD 2 rfl)) zQ))))) (λmarks41=>(zM (yF true 11 rfl rfl (esc (zP (zG (esc (zP (zG (zF 0 rfl) (zG (esc (zI 5)) zQ)))) (zG (esc (zI 4)) zQ))))) (λname42=>(zM (yF true 12 rfl rfl (esc (yV (xT (zD 4 rfl) (zI 1000)) (zI 6)))) (λway45=>(zM (uI (zY (md:=.hp) (wS (zD 12 rfl) (zI 0))) (zL (xP 10 rfl rfl (xZ (zD 11 rfl) (uX (α:=Int)).ex)) (λmarks49=>(zL (zB8 10 rfl rfl) (λmarks50=>(zT (λs48:List (Str × LI)=>([.z q0,.ow true s11,.y v1.2,.ob true (first2:TpL (List LI) (Str × LI)),.y rest6,.un,.y less17,.ob true (s24:Rws Int),.un,.un,.ow true s48,.y name42,.y way45]:SL K)) marks50 lea))))) (zT (λs48:List (Str × LI)=>([.z q0,.ow true s11,.y v1.2,.ob true (first2:TpL (List LI) (Str × LI)),.y rest6,.un,.y less17,.ob true (s24:Rws Int),.un,.un,.ow true s48,.y name42,.y way45]:SL K)) marks41 lea)) (λs47=>(zM (uI (zCo (zY (md:=.hp) (wS (zD 12 rfl) (zI 1))) (zY (md:=.hp) (wS (zD 12 rfl) (zI 2)))) (zL (xP 10 rfl rfl (xZ (zD 11 rfl) (zP (zG (esc (xT (zD 4 rfl) (zI 6000))) (zG (esc (yW (wD 1 rfl))) zQ))))) (λmarks53=>(zT (λs52:List (Str × LI)=>([.z q0,.ow true s11,.y v1.2,.ob true (first2:TpL (List LI) (Str × LI)),.y rest6,.un,.y less17,.ob true (s24:Rws Int),.un,.un,.ow true s52,.y name42,.y way45]:SL K)) marks53 lea))) (zT (λs52:List (Str × LI)=>([.z q0,.ow true s11,.y v1.2,.ob true (first2:TpL (List LI) (Str × LI)),.y rest6,.un,.y less17,.ob true (s24:Rws Int),.un,.un,.ow true s52,.y name42,.y way45]:SL K)) s47 lea)) (λs51=>(zM (uI (zCo (zY (md:=.hp) (wS (zD 12 rfl) (zI 2))) (zY (md:=.hp) (wS (zD 12 rfl) (zI 3)))) (zL (zLy 3 rfl rfl (xZ (zD 11 rfl) (zP (zG (esc (xT (zD 4 rfl) (zI 7000))) (zG (esc (yW (vJ (ex_varP 3 rfl) (zI 0)))) zQ))))) (λu60=>(zT (λs59:TpL (List LI) (Str × LI)=>([.z q0,.ow true s11,.y v1.2,.ob true (s59:TpL (List LI) (Str × LI)),.y rest6,.un,.y less17,.ob true (s24:Rws Int),.un,.un,.ow true s51,.y name42,.y way45]:SL K)) u60 lea))) (zT (λs59:TpL (List LI) (Str × LI)=>([.z q0,.ow true s11,.y v1.2,.ob true (s59:TpL (List LI) (Str × LI)),.y rest6,.un,.y less17,.ob true (s24:Rws Int),.un,.un,.ow true s51,.y name42,.y way45]:SL K)) first2 lea)) (λs58=>(zL5 (sl2:=[.z q0,.ow true s11,.y v1.2,.y ((s58.a,s58.b):(List LI) × (List (Str × LI))),.y rest6,.un,.y less17,.y (s24.xss:List LI),.un,.un,.y s51,.y name42,.y way45]) (Le.eq (Le.eq (Le.eq (Le.fo (Le.eq (Le.un (Le.eq (Le.fo lea)))))))) (yO (xZ (yZ 3 rfl) (xZ (yZ 7 rfl) (yZ 10 rfl))))))))))))))))))))))))))))))))) (by unfold vV; simp only [bnd])
def xX (C:Addr) (q0:(List LI) × (List (Str × LI))) (q1:List LI):Option (Mach C):=(some q0).bind λv1=>((some v1.2).bind λxs=>xN (λ(x3:Str × LI)=>some true) (λ(x3:Str × LI)=>some (x3.1,x3.2)) xs).bind λsome2=>((some v1.1).bind λxs=>xN (λ(x4:LI)=>some true) (λ(x4:LI)=>some x4) xs).bind λa6=>((some q1).bind λxs=>xN (λ(x5:LI)=>some true) (λ(x5:LI)=>some x5) xs).bind λa7=>mkK C a6 (some some2) (some a7)
theorem sc_l_machine:FnScope ["_law_parts","_law_fair","_law_steps","_law_marks","_law_some"] ["_law_parts","_law_fair"] (zK s_l_machine):=fsc
abbrev zEc (K:PySem.W.Frag) (C:Addr):Sp:=spF K false (λa:(((List LI) × (List (Str × LI)))) × ((List LI)) × Unit=>([.z a.1,.z a.2.1]:SL K)) (λa=>xX C a.1 a.2.1)
theorem zG8 (F:Fun K "_law_machine" "_law_machine" s_l_machine f fd) (B:Bl K mg) (T:Cl K mg C) (MK:Mk K C fI) (GI:FnOk P w K mg base CX0 k0 fI fdI ["self","steps","marks","fair"] (zLw K C (mkK C))) (bI0:Binds K fdI ["self","steps","marks","fair"] []):FnOk P w K mg base CX0 ((k0 + 1) + 1) f fd ["_law_parts","_law_fair"] (zEc K C):=by
 refine xB F sc_l_machine (λ_=>rfl) (λ_=>rfl) λcdv A outer s H E hr=>?_
 have nd:=sc_l_machine.nd
 refine ⟨_,(zC (zG0 (pv 0) (zAt rfl (zW (pg_n 2 nd) (zW (pg_n 3 nd) wC)))) (zC (zFs (i:=4) (own:=["_law_name","_law_stands"]) (ix:=[]) nd rfl rfl rfl rfl rfl (xE K (pv 3)) (λC s H fp=>zCe (K:=K) (n:=2) rfl rfl (zW (yL (i:=0) (show (["_law_name","_law_stands"]:List Str).Nodup from by decide +kernel) rfl (Or.inl rfl)) (zW (yL (i:=1) (show (["_law_name","_law_stands"]:List Str).Nodup from by decide +kernel) rfl (Or.inl rfl)) wC))) (λC s H fp=>vN) (λC s H fp=>(wW (zA (pv 0) (zA (vG (zBs K) rfl B.list zAe (zA (pv 1) zE)) zE))))) (zC (yB (pe_make MK GI hr rfl T.mgC bI0 .nil zPj (zA (wO (own:=["_law_stands"]) (ix:=[]) rfl rfl rfl (xE K (pv 2)) (λC s H fp=>yL (i:=0) (show (["_law_stands"]:List Str).Nodup from by decide +kernel) rfl (Or.inl rfl)) (λC s H fp=>vN) (λC s H fp=>(vG (zBs K) rfl B.list zAe (zA (pv 0) zE)))) (zA (pv 4) (zA (wO (own:=["_law_stands"]) (ix:=[]) rfl rfl rfl (xE K (pv 1)) (λC s H fp=>yL (i:=0) (show (["_law_stands"]:List Str).Nodup from by decide +kernel) rfl (Or.inl rfl)) (λC s H fp=>vN) (λC s H fp=>(vG (zBs K) rfl B.list zAe (zA (pv 0) zE)))) zE))))) zH))),?_⟩
 rintro Fa ⟨q0,q1,⟨⟩⟩
 exact SB.of (zM (zFf (n:=false) (yZ 0 rfl) (vX 2 3 rfl rfl (λ_=>rfl) rfl)) (λv1=>(zM (yF true 4 rfl rfl (wE (n:=false) (slI:=[.un,.un]) (no:=2) (ix:=[]) rfl rfl (xM (yZ 3 rfl)) (vX 0 1 rfl rfl (λ_=>rfl) rfl) (λx3=>zBj) (λx3=>(xZ (zD 0 rfl) (zBe (zF 1 rfl)).ex)) (λx3=>lea0)).ex) (λsome2=>(yO (zN5 (wE (n:=false) (slI:=[.un]) (no:=1) (ix:=[]) rfl rfl (xM (yZ 2 rfl)) (yK 0 rfl rfl) (λx4=>zBj) (λx4=>(zBe (zF 0 rfl)).ex) (λx4=>lea0)).ex (zF 4 rfl) (wE (n:=false) (slI:=[.un]) (no:=1) (ix:=[]) rfl rfl (xM (yZ 1 rfl)) (yK 0 rfl rfl) (λx5=>zBj) (λx5=>(zBe (zF 0 rfl)).ex) (λx5=>lea0)).ex).ex))))) (by unfold xX; simp only [bnd])
def zAu (q0:(List LI) × (List (Str × LI))) (q1:Int):Option (List Str):=((some q0.2).bind λxs=>xN (λ(x1:Str × LI)=>some (decide (q1 ∈ x1.2))) (λ(x1:Str × LI)=>some x1.1) xs).bind λa2=>zEn a2
theorem sc_l_names:FnScope ["_law_parts","_law_stand"] ["_law_parts","_law_stand"] (zK s_l_names):=fsc
abbrev zHy (K:PySem.W.Frag):Sp:=spF K false (λa:(((List LI) × (List (Str × LI)))) × Int × Unit=>([.z a.1,.z a.2.1]:SL K)) (λa=>zAu a.1 a.2.1)
theorem zKq (F:Fun K "_law_names" "_law_names" s_l_names f fd) (B:Bl K mg) (zsorted:mg "sorted" = none):FnOk P w K mg base CX0 (k + 1) f fd ["_law_parts","_law_stand"] (zHy K):=by
 refine xB F sc_l_names (λ_=>rfl) (λ_=>rfl) λcdv A outer s H E hr=>?_
 have nd:=sc_l_names.nd
 refine ⟨_,(zC (yB (zN (zE3 K) rfl zsorted zD6 (zA (wO (own:=["_law_name","_law_stands"]) (ix:=[1]) rfl rfl rfl (xE K (yD (ixTK K) (pv 0) zJ (λ_ _=>rfl))) (λC s H fp=>zCe (K:=K) (n:=2) rfl rfl (zW (yL (i:=0) (show (["_law_name","_law_stands","_law_stand"]:List Str).Nodup from by decide +kernel) rfl (Or.inl rfl)) (zW (yL (i:=1) (show (["_law_name","_law_stands","_law_stand"]:List Str).Nodup from by decide +kernel) rfl (Or.inl rfl)) wC))) (λC s H fp=>zCd (zX (zDo K) (pv 2) (pv 1) (by with_unfolding_all rfl))) (λC s H fp=>(pv 0))) zE))) zH),?_⟩
 rintro Fa ⟨q0,q1,⟨⟩⟩
 exact SB.of (yO (zJz (wE (n:=false) (slI:=[.un,.un,.z q1]) (no:=2) (ix:=[1]) rfl rfl (xM (zAy (yZ 0 rfl) (zI 1))) (vX 0 1 rfl rfl (λ_=>rfl) rfl) (λx1=>(zY (md:=.hp) (zK8 (zD 2 rfl) (zF 1 rfl)))) (λx1=>(esc (zD 0 rfl))) (λx1=>lea0)).ex).ex) (by unfold zAu; simp only [bnd])
def uS (q0:Int):Option Bool:=if true = true then some (!false) else some false
theorem sc_l_whole:FnScope ["_law_found"] ["_law_found"] (zK s_l_whole):=fsc
abbrev zD9 (K:PySem.W.Frag):Sp:=spF K false (λa:Int × Unit=>([.z a.1]:SL K)) (λa=>uS a.1)
theorem zKp (F:Fun K "_law_whole" "_law_whole" s_l_whole f fd) (B:Bl K mg):FnOk P w K mg base CX0 (k + 1) f fd ["_law_found"] (zD9 K):=by
 refine xB F sc_l_whole (λ_=>rfl) (λ_=>rfl) λcdv A outer s H E hr=>?_
 have nd:=sc_l_whole.nd
 refine ⟨_,(zC (yB (zDm (zN (zA1 K (zAr (n:="int"))) rfl B.isi zA2 (zA (pv 0) (zA (vY (v:=.ty "int") rfl B.int zOh rfl) zE))) (zEq (zQ1 (zN (zA1 K (zAr (n:="bool"))) rfl B.isi zA2 (zA (pv 0) (zA (vY (v:=.ty "bool") rfl B.bool zOi rfl) zE))))))) zH),?_⟩
 rintro Fa ⟨q0,⟨⟩⟩
 exact SB.of (yO (esc (zD1 (zBi B.ii rfl (zD 0 rfl)) (zRe (zBi B.ib rfl (zD 0 rfl)))))) (by unfold uS; simp only [bnd])
def uT (q0:List (List (Option (Int × (Str × Key))))) (q1:Int) (q2:Int):Option Bool:=(if (!true) = true then some true else some (!decide ((q0.length:Int) = q1))).bind λb=>if b = true then some false else ((some q0).bind λxs=>uD (λ(s1:Unit) (x3:List (Option (Int × (Str × Key))))=>(if (!true) = true then some true else some (!decide ((x3.length:Int) = q2))).bind λb=>if b = true then (some false).bind λb=>some (.rt b) else ((some x3).bind λxs=>uD (λ(s4:Unit) (x6:Option (Int × (Str × Key)))=>((if x6.isSome = true then (if (!x6.isSome) = true then some true else ((x6.bind λ_=>some (2:Int)).bind λa9=>some (!decide (a9 = (2:Int)))).bind λc17=>if c17 = true then some true else ((((x6.bind λa10=>some a10.1).bind λa12=>some ((a12,()))).bind λz11=>uS z11.1).bind λa13=>some (!a13)).bind λc16=>if c16 = true then some true else (x6.bind λa14=>some a14.1).bind λa15=>some (decide (a15 < (0:Int)))).bind λb=>if b = true then (some false).bind λb=>some (.rt b) else ((((x6.bind λa18=>some a18.2).bind λ_=>some true).bind λa19=>some (!a19)).bind λc26=>if c26 = true then some true else (((x6.bind λa20=>some a20.2).bind λ_=>some (2:Int)).bind λa21=>some (!decide (a21 = (2:Int)))).bind λc25=>if c25 = true then some true else (((x6.bind λa22=>some a22.2).bind λa23=>some a23.1).bind λ_=>some true).bind λa24=>some (!a24)).bind λb=>if b = true then (some false).bind λb=>some (.rt b) else some (.nx ()) else some (.nx ())):Option (Out Unit Bool)).bind λo=>o.thn λs7=>some (.nx ())) xs ()).bind λo=>o.thn λs5=>some (.nx ())) xs ()).bind λo=>o.els λs2=>some true
theorem sc_l_formed:FnScope ["_law_found","_law_many","_law_others","_law_row","_law_one"] ["_law_found","_law_many","_law_others"] (zK s_l_formed):=fsc
abbrev zE6 (K:PySem.W.Frag):Sp:=spF K false (λa:((List (List (Option (Int × (Str × Key)))))) × Int × Int × Unit=>([.z a.1,.z a.2.1,.z a.2.2.1]:SL K)) (λa=>uT a.1 a.2.1 a.2.2.1)
theorem zIg (F:Fun K "_law_formed" "_law_formed" s_l_formed f fd) (B:Bl K mg) (zstr:mg "str" = none) (ztuple:mg "tuple" = none) (C_l_whole:Cal P w K mg base k "_law_whole" ["_law_found"] (zD9 K)):FnOk P w K mg base CX0 (k + 1) f fd ["_law_found","_law_many","_law_others"] (zE6 K):=by
 refine xB F sc_l_formed (λ_=>rfl) (λ_=>rfl) λcdv A outer s H E hr=>?_
 have nd:=sc_l_formed.nd
 refine ⟨_,(zC (xW (PW.pt (pw_or (zAi (zAh (zN (zA1 K (zAr (n:="list"))) rfl B.isi zA2 (zA (pv 0) (zA (vY (v:=.ty "list") rfl B.list zAe rfl) zE))))) (pw_or1 (zX (zDn K Int hr) (zN (yQ K) rfl B.len PySem.boot_len (zA (pv 0) zE)) (pv 1) (yR _))))) (zC (yB zCf) zH) zH) (zC (xQ PassesOwn.never rfl (xE K (pv 0)) (pg_n 3 nd) (zC (xW (PW.pt (pw_or (zAi (zAh (zN (zA1 K (zAr (n:="list"))) rfl B.isi zA2 (zA (pv 3) (zA (vY (v:=.ty "list") rfl B.list zAe rfl) zE))))) (pw_or1 (zX (zDn K Int hr) (zN (yQ K) rfl B.len PySem.boot_len (zA (pv 3) zE)) (pv 2) (yR _))))) (zC (yB zCf) zH) zH) (zC (xQ PassesOwn.never rfl (xE K (pv 3)) (pg_n 4 nd) (zC (xW (zBw (zFu (pv 4))) (zC (xW (PW.pt (pw_or (zAi (zAh (zN (zA1 K (zAr (n:="tuple"))) rfl B.isi zA2 (zA (pv 4) (zA (vY (v:=.ty "tuple") rfl ztuple zJ6 rfl) zE))))) (pw_or (zX (zDn K Int hr) (zN (yQ K) rfl B.len PySem.boot_len (zA (pv 4) zE)) zJ (yR _)) (pw_or (zAi (zAh (yC C_l_whole hr (zA (yD (ixTK K) (pv 4) zJ (λ_ _=>rfl)) zE)))) (pw_or1 (zX zIc (yD (ixTK K) (pv 4) zJ (λ_ _=>rfl)) zJ (yR _))))))) (zC (yB zCf) zH) zH) (zC (xW (PW.pt (pw_or (zAi (zAh (zN (zA1 K (zAr (n:="tuple"))) rfl B.isi zA2 (zA (yD (ixTK K) (pv 4) zJ (λ_ _=>rfl)) (zA (vY (v:=.ty "tuple") rfl ztuple zJ6 rfl) zE))))) (pw_or (zX (zDn K Int hr) (zN (yQ K) rfl B.len PySem.boot_len (zA (yD (ixTK K) (pv 4) zJ (λ_ _=>rfl)) zE)) zJ (yR _)) (pw_or1 (zAi (zAh (zN (zA1 K (zAr (n:="str"))) rfl B.isi zA2 (zA (yD (ixTK K) (yD (ixTK K) (pv 4) zJ (λ_ _=>rfl)) zJ (λ_ _=>rfl)) (zA (vY (v:=.ty "str") rfl zstr zOg rfl) zE))))))))) (zC (yB zCf) zH) zH) zH)) zH) zH)) zH))) (zC (yB zCf) zH))),?_⟩
 rintro Fa ⟨q0,q1,q2,⟨⟩⟩
 exact SB.of (zDi (zCo (zAk (et_b (md:=.hp) (zBi B.ll rfl (zF 0 rfl)))) (zY (md:=.hp) (zD0 (yW (zF 0 rfl)) (zD 1 rfl)))) (yO (esc (zCn false))) (zJe (zI5 (n:=false) (L:=(λs1:Unit=>([.z q0,.z q1,.z q2,.un,.un]:SL K))) () lea (xM (yZ 0 rfl)) (λs1=>(yK 3 rfl rfl)) (λs1 x3=>(zGk (zCo (zAk (et_b (md:=.hp) (zBi B.ll rfl (zF 3 rfl)))) (zY (md:=.hp) (zD0 (yW (zF 3 rfl)) (zD 2 rfl)))) (yO (esc (zCn false))) (zFd (zI5 (n:=false) (L:=(λs4:Unit=>([.z q0,.z q1,.z q2,.z x3,.un]:SL K))) () lea (xM (yZ 3 rfl)) (λs4=>(yK 4 rfl rfl)) (λs4 x6=>(zFd (sx_if (et_b (md:=.hp) (zF8 (zF 4 rfl))) (zGk (zCo (zAk (et_b (md:=.hp) (zP5 (zF 4 rfl)))) (zCo (zY (md:=.hp) (zD0 (zNy (zAz (zF 4 rfl))) (zI 2))) (zCo (zAk (et_b (md:=.hp) (zP (zG (esc (esc (vJ (zAz (zF 4 rfl)) (zI 0)))) zQ)))) (zY (md:=.hp) (zK7 (esc (vJ (zAz (zF 4 rfl)) (zI 0))) (zI 0)))))) (yO (esc (zCn false))) (zGk (zCo (zAk (et_b (md:=.hp) (zBi ki_tt rfl (zAy (zAz (zF 4 rfl)) (zI 1))))) (zCo (zY (md:=.hp) (zD0 (zNy (zAy (zAz (zF 4 rfl)) (zI 1))) (zI 2))) (zAk (et_b (md:=.hp) (zBi ki_ss rfl (esc (vJ (zAy (zAz (zF 4 rfl)) (zI 1)) (zI 0)))))))) (yO (esc (zCn false))) (zEm (λs8:Unit=>([.z q0,.z q1,.z q2,.z x3,.z x6]:SL K)) () lea))) (zEm (λs8:Unit=>([.z q0,.z q1,.z q2,.z x3,.z x6]:SL K)) () lea)) (λs7=>(zEm (λs4:Unit=>([.z q0,.z q1,.z q2,.z x3,.un]:SL K)) () lea))))) (λs5=>(zEm (λs1:Unit=>([.z q0,.z q1,.z q2,.un,.un]:SL K)) () lea)))))) (λs2=>(yO (esc (zCn true)))))) (by unfold uT; simp only [bnd])
def wY (q0:Option (Int × (Str × Key))) (q1:Int):Option Bool:=if q0.isSome = true then (q0.bind λa1=>some a1.1).bind λa2=>some (decide (a2 < q1)) else some false
theorem sc_l_earlier:FnScope ["_law_failed","_law_turn"] ["_law_failed","_law_turn"] (zK s_l_earlier):=fsc
abbrev zEd (K:PySem.W.Frag):Sp:=spF K false (λa:((Option (Int × (Str × Key)))) × Int × Unit=>([.z a.1,.z a.2.1]:SL K)) (λa=>wY a.1 a.2.1)
theorem zG9 (F:Fun K "_law_earlier" "_law_earlier" s_l_earlier f fd) (B:Bl K mg):FnOk P w K mg base CX0 (k + 1) f fd ["_law_failed","_law_turn"] (zEd K):=by
 refine xB F sc_l_earlier (λ_=>rfl) (λ_=>rfl) λcdv A outer s H E hr=>?_
 have nd:=sc_l_earlier.nd
 refine ⟨_,(zC (yB (zDm (zQ4 (zFu (pv 0))) (zEq (uN zIc (yD (ixTK K) (pv 0) zJ (λ_ _=>rfl)) (pv 1) (yR _))))) zH),?_⟩
 rintro Fa ⟨q0,q1,⟨⟩⟩
 exact SB.of (yO (esc (zD1 (zF8 (zF 0 rfl)) (zK7 (esc (vJ (zAz (zF 0 rfl)) (zI 0))) (zD 1 rfl))))) (by unfold wY; simp only [bnd])
def zAv (q0:(List LI) × (List (Str × LI))) (q1:(List LI) × (List (Str × LI))) (q2:List (List (Option (Int × (Str × Key))))) (q3:Int) (q4:Int):Option Bool:=(((atI q2 q3).bind λa2=>atI a2 q4).bind λa3=>a3).bind λv1=>if (decide (v1.2.1 = ("mark":Str))) = true then ((keyS v1.2.2).bind λa5=>(zAu q0 q3).bind λb6=>some (decide (a5 ∈ b6))).bind λhere4=>((keyS v1.2.2).bind λ_=>some true).bind λc10=>if c10 = true then ((keyS v1.2.2).bind λa7=>(zAu q1 q4).bind λb8=>some (decide (a7 ∈ b8))).bind λb9=>some (!decide (here4 = b9)) else some false else (if (!decide (v1.2.1 = ("step":Str))) = true then some true else ((((keyI v1.2.2).bind λa12=>some ((a12,()))).bind λz11=>uS z11.1).bind λa13=>some (!a13)).bind λc16=>if c16 = true then some true else (keyI v1.2.2).bind λa14=>(atI q0.1 q3).bind λb15=>some (!decide (a14 ∈ b15))).bind λb=>if b = true then some false else ((atI q1.1 q4).bind λxs=>xN (λ(x17:Int)=>some true) (λ(x17:Int)=>((((keyI v1.2.2).bind λb22=>atI q2 b22).bind λa23=>atI a23 x17).bind λa25=>some ((a25,(v1.1,())))).bind λz24=>wY z24.1 z24.2.1) xs).bind λb26=>some (!decide (false ∈ b26))
theorem sc_l_holds:FnScope ["_law_one","_law_other","_law_found","_law_stand","_law_second","_law_turn","_law_reason","_law_here"] ["_law_one","_law_other","_law_found","_law_stand","_law_second"] (zK s_l_holds):=fsc
abbrev zHz (K:PySem.W.Frag):Sp:=spF K false (λa:(((List LI) × (List (Str × LI)))) × (((List LI) × (List (Str × LI)))) × ((List (List (Option (Int × (Str × Key)))))) × Int × Int × Unit=>([.z a.1,.z a.2.1,.z a.2.2.1,.z a.2.2.2.1,.z a.2.2.2.2.1]:SL K)) (λa=>zAv a.1 a.2.1 a.2.2.1 a.2.2.2.1 a.2.2.2.2.1)
theorem zKs (F:Fun K "_law_holds" "_law_holds" s_l_holds f fd) (B:Bl K mg) (zstr:mg "str" = none) (C_l_earlier:Cal P w K mg base k "_law_earlier" ["_law_failed","_law_turn"] (zEd K)) (C_l_names:Cal P w K mg base k "_law_names" ["_law_parts","_law_stand"] (zHy K)) (C_l_whole:Cal P w K mg base k "_law_whole" ["_law_found"] (zD9 K)):FnOk P w K mg base CX0 (k + 1) f fd ["_law_one","_law_other","_law_found","_law_stand","_law_second"] (zHz K):=by
 refine xB F sc_l_holds (λ_=>rfl) (λ_=>rfl) λcdv A outer s H E hr=>?_
 have nd:=sc_l_holds.nd
 refine ⟨_,(zC (zG0 (yD (ixLK K) (yD (ixLK K) (pv 2) (pv 3) (λ_ _=>rfl)) (pv 4) (λ_ _=>rfl)) (zAt rfl (zW (pg_n 5 nd) (zW (pg_n 6 nd) wC)))) (zC (xW (zX (wR K Str hr) (yD (ixTK K) (pv 6) zJ (λ_ _=>rfl)) vR (yR _)) (zC (yI 7 nd (uN (zDo K) (yD (ixTK K) (pv 6) zJ (λ_ _=>rfl)) (yC C_l_names hr (zA (pv 0) (zA (pv 3) zE))) (by with_unfolding_all rfl))) (zC (yB (zDm (zN (zA1 K (zAr (n:="str"))) rfl B.isi zA2 (zA (yD (ixTK K) (pv 6) zJ (λ_ _=>rfl)) (zA (vY (v:=.ty "str") rfl zstr zOg rfl) zE))) (zEq (uN (zDn K Bool hr) (pv 7) (uN (zDo K) (yD (ixTK K) (pv 6) zJ (λ_ _=>rfl)) (yC C_l_names hr (zA (pv 1) (zA (pv 4) zE))) (by with_unfolding_all rfl)) (yR _))))) zH)) zH) (zC (xW (PW.pt (pw_or (zX (zDn K Str hr) (yD (ixTK K) (pv 6) zJ (λ_ _=>rfl)) vR (yR _)) (pw_or (zAi (zAh (yC C_l_whole hr (zA (yD (ixTK K) (pv 6) zJ (λ_ _=>rfl)) zE)))) (pw_or1 (zX (zCg K) (yD (ixTK K) (pv 6) zJ (λ_ _=>rfl)) (yD (ixLK K) (yD (ixTK K) (pv 0) zJ (λ_ _=>rfl)) (pv 3) (λ_ _=>rfl)) (by with_unfolding_all rfl)))))) (zC (yB zCf) zH) zH) (zC (yB (uN (zCg K) zCf (wO (own:=["_law_answer"]) (ix:=[2,6,5]) rfl rfl rfl (xE K (yD (ixLK K) (yD (ixTK K) (pv 1) zJ (λ_ _=>rfl)) (pv 4) (λ_ _=>rfl))) (λC s H fp=>yL (i:=0) (show (["_law_answer","_law_found","_law_reason","_law_turn"]:List Str).Nodup from by decide +kernel) rfl (Or.inl rfl)) (λC s H fp=>vN) (λC s H fp=>(yC C_l_earlier hr (zA (yD (ixLK K) (yD (ixLK K) (pv 1) (yD (ixTK K) (pv 2) zJ (λ_ _=>rfl)) (λ_ _=>rfl)) (pv 0) (λ_ _=>rfl)) (zA (pv 3) zE))))) (by with_unfolding_all rfl))) zH)))),?_⟩
 rintro Fa ⟨q0,q1,q2,q3,q4,⟨⟩⟩
 exact SB.of (zM (zFf (n:=false) (zAz (wI (wI (yZ 2 rfl) (zD 3 rfl)) (zD 4 rfl))) (vX 5 6 rfl rfl (λ_=>rfl) rfl)) (λv1=>(zDi (zY (md:=.hp) (wS (esc (vJ (zF 6 rfl) (zI 0))) (vI "mark"))) (zM (yF true 7 rfl rfl (esc (zK8 (zNt (esc (zAy (zF 6 rfl) (zI 1)))) (zP (zG (zF 0 rfl) (zG (esc (zD 3 rfl)) zQ)))))) (λhere4=>(yO (esc (zD1 (zBi ki_ss rfl (zNt (esc (zAy (zF 6 rfl) (zI 1))))) (zD0 (zD 7 rfl) (zK8 (zNt (esc (zAy (zF 6 rfl) (zI 1)))) (zP (zG (zF 1 rfl) (zG (esc (zD 4 rfl)) zQ)))))))))) (zDi (zCo (zY (md:=.hp) (zD0 (esc (vJ (zF 6 rfl) (zI 0))) (vI "step"))) (zCo (zAk (et_b (md:=.hp) (zP (zG (esc (zNu (esc (zAy (zF 6 rfl) (zI 1))))) zQ)))) (zY (md:=.hp) (zE1 (zNu (esc (zAy (zF 6 rfl) (zI 1)))) (wI (vJ (zF 0 rfl) (zI 0)) (zD 3 rfl)))))) (yO (esc (zCn false))) (yO (esc (zE1 (zCn false) (wE (n:=false) (slI:=[.un,.z q2,.z v1.2,.z v1.1]) (no:=1) (ix:=[2,6,5]) rfl rfl (xM (wI (vJ (yZ 1 rfl) (zI 0)) (zD 4 rfl))) (yK 0 rfl rfl) (λx17=>zBj) (λx17=>(esc (zP (zG (wI (wI (zF 1 rfl) (zNu (esc (zAy (zF 2 rfl) (zI 1))))) (zD 0 rfl)) (zG (esc (zD 3 rfl)) zQ))))) (λx17=>lea0)).ex))))))) (by unfold zAv; simp only [bnd])
end
end Ts
set_option maxHeartbeats 40000000
namespace Ts
open PySem L2
section
variable {P:Program} {w:World} {K:PySem.W.Frag} {mg:Str->Option Value} {base:Heap}
def zMn (C:Addr) (q0:Scr):Option Bool:=(vV q0).bind λv1=>(xX C v1.1 (([]:List LI))).bind λfirst2=>(xX C v1.2 (([]:List LI))).bind λsecond3=>(vW first2 second3).bind λpairs4=>(wZ first2 second3).bind λfound5=>((uT found5 (v1.1.1.length:Int) (v1.2.1.length:Int)).bind λa6=>some (!a6)).bind λb=>if b = true then some false else ((wL (v1.1.1.length:Int)).bind λxs=>uD (λ(s7:Unit) (x9:Int)=>((wL (v1.2.1.length:Int)).bind λxs=>uD (λ(s10:Unit) (x12:Int)=>((((atI found5 x9).bind λa13=>atI a13 x12).bind λa14=>some a14.isNone).bind λa15=>some (!decide (a15 = (inL (x9,x12) pairs4)))).bind λb=>if b = true then (some false).bind λb=>some (.rt b) else ((((atI found5 x9).bind λa16=>atI a16 x12).bind λa17=>some a17.isSome).bind λc19=>if c19 = true then (zAv v1.1 v1.2 found5 x9 x12).bind λa18=>some (!a18) else some false).bind λb=>if b = true then (some false).bind λb=>some (.rt b) else some (.nx ())) xs ()).bind λo=>o.thn λs11=>some (.nx ())) xs ()).bind λo=>o.els λs8=>if (decide (first2.steps = v1.1.1)) = true then some (decide (second3.steps = v1.2.1)) else some false
theorem sc_law:FnScope ["_law_script","_law_one","_law_other","_law_first","_law_second","_law_pairs","_law_found","_law_stand","_law_answer"] ["_law_script"] (zK s_law):=fsc
abbrev S_law (K:PySem.W.Frag) (C:Addr):Sp:=spF K false (λa:Scr × Unit=>([.z a.1]:SL K)) (λa=>zMn C a.1)
theorem ok_law (F:Fun K "law" "law" s_law f fd) (B:Bl K mg) (T:Cl K mg C) (C_l_formed:Cal P w K mg base k "_law_formed" ["_law_found","_law_many","_law_others"] (zE6 K)) (C_l_holds:Cal P w K mg base k "_law_holds" ["_law_one","_law_other","_law_found","_law_stand","_law_second"] (zHz K)) (C_l_machine:Cal P w K mg base k "_law_machine" ["_law_parts","_law_fair"] (zEc K C)) (C_l_two_by:Cal P w K mg base k "_law_two_by" ["_law_script"] (zE5 K)) (C_failings:Cal P w K mg base k "failings" ["machine","other"] (zCv K C)) (C_followed:Cal P w K mg base k "followed" ["machine","other"] (zE8 K C)):FnOk P w K mg base CX0 (k + 1) f fd ["_law_script"] (S_law K C):=by
 refine xB F sc_law (λ_=>rfl) (λ_=>rfl) λcdv A outer s H E hr=>?_
 have nd:=sc_law.nd
 refine ⟨_,(zC (zG0 (yC C_l_two_by hr (zA (pv 0) zE)) (zAt rfl (zW (pg_n 1 nd) (zW (pg_n 2 nd) wC)))) (zC (yI 3 nd (yC C_l_machine hr (zA (pv 1) (zA (wM zE) zE)))) (zC (yI 4 nd (yC C_l_machine hr (zA (pv 2) (zA (wM zE) zE)))) (zC (yI 5 nd (yC C_followed hr (zA (pv 3) (zA (pv 4) zE)))) (zC (yI 6 nd (yC C_failings hr (zA (pv 3) (zA (pv 4) zE)))) (zC (xW (zAi (zAh (yC C_l_formed hr (zA (pv 6) (zA (zN (yQ K) rfl B.len PySem.boot_len (zA (yD (ixTK K) (pv 1) zJ (λ_ _=>rfl)) zE)) (zA (zN (yQ K) rfl B.len PySem.boot_len (zA (yD (ixTK K) (pv 2) zJ (λ_ _=>rfl)) zE)) zE)))))) (zC (yB zCf) zH) zH) (zC (xQ PassesOwn.never rfl (xR rfl B.range (zA (zN (yQ K) rfl B.len PySem.boot_len (zA (yD (ixTK K) (pv 1) zJ (λ_ _=>rfl)) zE)) zE)) (pg_n 7 nd) (zC (xQ PassesOwn.never rfl (xR rfl B.range (zA (zN (yQ K) rfl B.len PySem.boot_len (zA (yD (ixTK K) (pv 2) zJ (λ_ _=>rfl)) zE)) zE)) (pg_n 8 nd) (zC (xW (zX (zDn K Bool hr) (zQ4 (zG1 (yD (ixLK K) (yD (ixLK K) (pv 6) (pv 7) (λ_ _=>rfl)) (pv 8) (λ_ _=>rfl)))) (uN (op_inv K (Int × Int) hr) (wW (zA (pv 7) (zA (pv 8) zE))) (pv 5) (by with_unfolding_all rfl)) (yR _)) (zC (yB zCf) zH) zH) (zC (xW (PW.pt (pw_and (zBw (zFu (yD (ixLK K) (yD (ixLK K) (pv 6) (pv 7) (λ_ _=>rfl)) (pv 8) (λ_ _=>rfl)))) (pw_and1 (zAi (zAh (yC C_l_holds hr (zA (pv 1) (zA (pv 2) (zA (pv 6) (zA (pv 7) (zA (pv 8) zE))))))))))) (zC (yB zCf) zH) zH) zH))) zH)) (zC (yB (zDm (uN (wR K (List LI) hr) (zEr K (pv 3)) (yD (ixTK K) (pv 1) zJ (λ_ _=>rfl)) (yR _)) (zEq (uN (wR K (List LI) hr) (zEr K (pv 4)) (yD (ixTK K) (pv 2) zJ (λ_ _=>rfl)) (yR _))))) zH)))))))),?_⟩
 rintro Fa ⟨q0,⟨⟩⟩
 exact SB.of (zM (zFf (n:=true) (zP (zG (zF 0 rfl) zQ)) (vX 1 2 rfl rfl (λ_=>rfl) rfl)) (λv1=>(zL6 [.z q0,.y v1.1,.y v1.2,.un,.un,.un,.un,.un,.un] (zM (yF true 3 rfl rfl (zP (zG (zF 1 rfl) (zG (uX (α:=LI)).ex zQ)))) (λfirst2=>(zL6 [.z q0,.y v1.1,.y v1.2,.y first2,.un,.un,.un,.un,.un] (zM (yF true 4 rfl rfl (zP (zG (zF 2 rfl) (zG (uX (α:=LI)).ex zQ)))) (λsecond3=>(zL6 [.z q0,.y v1.1,.y v1.2,.y first2,.y second3,.un,.un,.un,.un] (zM (yF true 5 rfl rfl (zP (zG (zF 3 rfl) (zG (zF 4 rfl) zQ)))) (λpairs4=>(zL6 [.z q0,.y v1.1,.y v1.2,.y first2,.y second3,.y pairs4,.un,.un,.un] (zM (yF true 6 rfl rfl (zP (zG (zF 3 rfl) (zG (zF 4 rfl) zQ)))) (λfound5=>(zL6 [.z q0,.y v1.1,.y v1.2,.y first2,.y second3,.y pairs4,.y found5,.un,.un] (zDi (zAk (et_b (md:=.hp) (zP (zG (zF 6 rfl) (zG (esc (yW (vJ (zF 1 rfl) (zI 0)))) (zG (esc (yW (vJ (zF 2 rfl) (zI 0)))) zQ)))))) (yO (esc (zCn false))) (zJe (zI5 (n:=true) (L:=(λs7:Unit=>([.z q0,.y v1.1,.y v1.2,.y first2,.y second3,.y pairs4,.y found5,.un,.un]:SL K))) () lea (wJ (yW (vJ (zF 1 rfl) (zI 0)))) (λs7=>(yK 7 rfl rfl)) (λs7 x9=>(zFd (zI5 (n:=true) (L:=(λs10:Unit=>([.z q0,.y v1.1,.y v1.2,.y first2,.y second3,.y pairs4,.y found5,.y x9,.un]:SL K))) () lea (wJ (yW (vJ (zF 2 rfl) (zI 0)))) (λs10=>(yK 8 rfl rfl)) (λs10 x12=>(zGk (zY (md:=.hp) (zD0 (zHj (wI (wI (zF 6 rfl) (zD 7 rfl)) (zD 8 rfl))) (ex_inv (xZ (zD 7 rfl) (zD 8 rfl)) (zF 5 rfl)))) (yO (esc (zCn false))) (zGk (zN0 (et_b (md:=.hp) (zF8 (wI (wI (zF 6 rfl) (zD 7 rfl)) (zD 8 rfl)))) (zAk (et_b (md:=.hp) (zP (zG (zF 1 rfl) (zG (zF 2 rfl) (zG (zF 6 rfl) (zG (esc (zD 7 rfl)) (zG (esc (zD 8 rfl)) zQ))))))))) (yO (esc (zCn false))) (zEm (λs10:Unit=>([.z q0,.y v1.1,.y v1.2,.y first2,.y second3,.y pairs4,.y found5,.y x9,.un]:SL K)) () lea))))) (λs11=>(zEm (λs7:Unit=>([.z q0,.y v1.1,.y v1.2,.y first2,.y second3,.y pairs4,.y found5,.un,.un]:SL K)) () lea))))) (λs8=>(yO (esc (zD1 (wS (zB2 T.cl T.nS (zF 3 rfl)) (vJ (zF 1 rfl) (zI 0))) (wS (zB2 T.cl T.nS (zF 4 rfl)) (vJ (zF 2 rfl) (zI 0)))))))))))))))))))))))) (by unfold zMn; simp only [bnd])
end
structure Gr {C:Addr} (m:Mach C) (n:Int):Prop where
 len:(m.steps.length:Int) = n
 pos:1 <= n
 few:n <= 60
 row:∀ xs ∈ m.steps,xs ≠ [] /\ xs.Nodup /\ ∀ z ∈ xs,0 <= z /\ z < n
 src:m.sources = srcs m.steps
def nxt (xss:List LI) (s:Int):LI:=xss.getD s.toNat []
theorem zM4:x ∈ src xss j ↔ 0 <= x /\ x < (xss.length:Int) /\ (j:Int) ∈ nxt xss x:=by
 unfold src nxt
 rw [mem_map]
 constructor
 ·rintro ⟨k,h,rfl⟩
  rw [mem_filter,mem_range] at h
  have h2:=of_decide_eq_true h.2
  exact ⟨Int.natCast_nonneg _,by show (k:Int) < _; omega,h2⟩
 ·intro ⟨h0,h1,h2⟩
  refine ⟨x.toNat,?_,by show ((x.toNat:Nat):Int) = x; omega⟩
  rw [mem_filter,mem_range]
  exact ⟨by omega,decide_eq_true h2⟩
theorem w_manyM {C:Addr} {m:Mach C} (g:Gr m n):wH m = some n:=by
 unfold wH
 rw [g.len]
theorem W_dputB:W (dput kvs k v) Q ↔ kvs.length < cap /\ Q (pK kvs (Sum.inl k) v):=by
 unfold dput
 rw [zAp]
 constructor
 ·intro ⟨h1,h2⟩
  by_cases h:kvs.length < cap
  ·exact ⟨h,W_some.mp (h1 h)⟩
  ·exact absurd (h2 h) (by rw [zBk]; exact id)
 ·intro ⟨h,q⟩
  exact ⟨λ_=>W_some.mpr q,λz=>absurd h z⟩
theorem zQj:W (zN7 kvs k v) Q ↔ kvs.length < cap /\ Q (pK kvs (Sum.inr k) v):=by
 unfold zN7
 rw [zAp]
 constructor
 ·intro ⟨h1,h2⟩
  by_cases h:kvs.length < cap
  ·exact ⟨h,W_some.mp (h1 h)⟩
  ·exact absurd (h2 h) (by rw [zBk]; exact id)
 ·intro ⟨h,q⟩
  exact ⟨λ_=>W_some.mpr q,λz=>absurd h z⟩
def zHx (n:Int) (xs:LI):Prop:=xs.Nodup /\ xs.length <= 100 /\ ∀ z ∈ xs,0 <= z /\ z < n
theorem zLm (h:0 <= z /\ z < n):uU z n = some true:=by
 unfold uU
 rw [if_pos rfl,if_pos (show (!false) = true from rfl),decide_eq_true h.1,if_pos rfl,decide_eq_true h.2]
theorem zBo (h:zHx n xs) (x:Str):W (xD xs n x) λ_=>True:=by
 unfold xD
 rw [zB,W_some,zB,zB,W_some]
 refine wX (λi s=>s.length <= i /\ ∀ z,(dget s z).isSome = true->z ∈ xs.take i) ⟨Nat.zero_le _,λz hz=>by cases hz⟩ (λi y s hi hI=>?_) λs _=>W_some.mpr trivial
 have il:=zZ hi
 rw [zLm (h.2.2 y (mem_of_getElem? hi)),zB,zB,zB,W_some,W_some,Bool.not_true,if_neg (by decide),W_some,zB]
 have hn:(dget s y).isSome = false:=by
  cases q:(dget s y).isSome with
  | false=>rfl
  | true=>exact absurd (hI.2 y q) (zBa h.1 hi)
 have hn':(dget (Dc.mk s).kv y).isSome = false:=hn
 rw [hn',if_neg (by decide),W_some,zB,W_dputB]
 have l1:=h.2.1
 refine ⟨yS (by omega),?_⟩
 rw [W_some]
 have l2:=zQ6 s (Sum.inl y) true
 refine ⟨by omega,λz hz=>?_⟩
 rw [vU hi]
 have e:dget (pK s (Sum.inl y) true) z = if (Sum.inl z:Key) = Sum.inl y then some true else dget s z:=zRd s (Sum.inl y) (Sum.inl z) true
 rw [e] at hz
 by_cases q:(Sum.inl z:Key) = Sum.inl y
 ·exact .inr (Sum.inl.inj q)
 ·rw [if_neg q] at hz
  exact .inl (hI.2 z hz)
theorem w_fsI (a:Str) {i:Nat} (h:i < 1000):W (fsI a (i:Int)) λ_=>True:=by
 unfold fsI
 rw [if_pos (zM9 (by omega)),W_some]
 trivial
theorem zKd {xss:List LI} (hl:(xss.length:Int) = n) (h0:1 <= n) (h1:n <= 60) (h:∀ xs ∈ xss,xs ≠ [] /\ zHx n xs):W (wP xss) λ_=>True:=by
 unfold wP
 rw [zB,W_some,zB,zB,hl,decide_eq_false (by omega),if_neg (by decide),W_some,decide_eq_false (by omega),if_neg (by decide),W_some,zB,zB,W_some]
 refine wX (λ_ _=>True) trivial (λi y s hi _=>?_) λs _=>W_some.mpr trivial
 obtain ⟨e1,e2⟩:=zB3 hi
 have il:=zZ e2
 obtain ⟨ne,ok⟩:=h y.2 (mem_of_getElem? e2)
 rw [e1]
 simp only [zB]
 refine (w_fsI "steps of stand " (i:=i) (by omega)).imp λt _=>?_
 rw [W_some,W_some,W_some]
 refine (zBo ok t).imp λ_ _=>?_
 rw [decide_eq_false (λz=>ne (length_eq_zero_iff.mp (by omega))),if_neg (by decide),W_some,W_some]
 trivial
theorem zLn {xss:List LI} (hl:xss.length <= 100) (h:∀ xs ∈ xss,zHx n xs):W (vH xss n) λ_=>True:=by
 unfold vH
 rw [zB,zB,W_some]
 refine wX (λ_ _=>True) trivial (λi y s hi _=>?_) λs _=>W_some.mpr trivial
 obtain ⟨e1,e2⟩:=zB3 hi
 have il:=zZ e2
 rw [e1]
 simp only [zB]
 refine (w_fsI "fair set " (i:=i) (by omega)).imp λt _=>?_
 rw [W_some,W_some,W_some]
 refine (zBo (h y.2 (mem_of_getElem? e2)) t).imp λ_ _=>?_
 rw [W_some]
 trivial
def zCw (n:Int) (ms:List (Str × LI)):Prop:=(ms.map (·.1)).Nodup /\ ms.length <= 100 /\ ∀ m ∈ ms,uB m.1 = some true /\ m.1.length <= 1000 /\ zHx n m.2
theorem zKe (h:zCw n ms):W (wQ ms n) λ_=>True:=by
 unfold wQ
 rw [zB,W_some,zB,zB,W_some]
 refine wX (λi s=>s.length <= i /\ ∀ z,(zHl s z).isSome = true->z ∈ (ms.map (·.1)).take i) ⟨Nat.zero_le _,λz hz=>by cases hz⟩ (λi y s hi hI=>?_) λs _=>W_some.mpr trivial
 have il:=zZ hi
 have hi':(ms.map (·.1))[i]? = some y.1:=by rw [getElem?_map,hi]; rfl
 obtain ⟨nm,ln,ok⟩:=h.2.2 y (mem_of_getElem? hi)
 have nin:y.1 ∉ (ms.map (·.1)).take i:=λhz=>by
  obtain ⟨j,hj⟩:=mem_iff_getElem?.mp hz
  have hji:j < i:=by
   have:=zZ hj
   rw [length_take] at this
   omega
  rw [getElem?_take_of_lt hji] at hj
  have a1:=zZ hi'
  have a2:=zZ hj
  rw [List.getElem?_eq_getElem a1] at hi'
  rw [List.getElem?_eq_getElem a2] at hj
  have e:(ms.map (·.1))[j] = (ms.map (·.1))[i]:=(Option.some.inj hj).trans (Option.some.inj hi').symm
  have:=(getElem_inj h.1).mp e
  omega
 rw [nm,zB,zB,zB,W_some,W_some,Bool.not_true,if_neg (by decide),W_some,zB]
 have hn:(zHl (Dc.mk s).kv y.1).isSome = false:=by
  cases q:(zHl s y.1).isSome with
  | false=>rfl
  | true=>exact absurd (hI.2 y.1 q) nin
 rw [hn,if_neg (by decide),W_some,zB,zQj]
 have l1:=h.2.1
 refine ⟨yS (by omega),?_⟩
 simp only [zB]
 have fs:W (fsS "mark " y.1) λ_=>True:=by
  unfold fsS
  rw [if_pos ln,W_some]
  trivial
 refine fs.imp λt _=>?_
 rw [W_some,W_some,W_some]
 refine (zBo ok t).imp λ_ _=>?_
 rw [W_some]
 have l2:=zQ6 s (Sum.inr y.1) true
 refine ⟨by omega,λz hz=>?_⟩
 rw [vU hi']
 have e:zHl (pK s (Sum.inr y.1) true) z = if (Sum.inr z:Key) = Sum.inr y.1 then some true else zHl s z:=zRd s (Sum.inr y.1) (Sum.inr z) true
 rw [e] at hz
 by_cases q:(Sum.inr z:Key) = Sum.inr y.1
 ·exact .inr (Sum.inr.inj q)
 ·rw [if_neg q] at hz
  exact .inl (hI.2 z hz)
theorem zI2 {xss:List LI} (h:xss.length <= 100):zA9 xss = some xss:=by
 have q:W (zA9 xss) (· = xss):=by
  unfold zA9
  rw [zB,W_some,zOm (λx=>x),map_id']
  exact ⟨yS (by omega),rfl⟩
 obtain ⟨a,e,rfl⟩:=q
 exact e
theorem w_mkK (C:Addr) {xss:List LI} {mo:Option MKs} {fo:Option LLI} (hl:(xss.length:Int) = n) (h0:1 <= n) (h1:n <= 60) (h:∀ xs ∈ xss,xs ≠ [] /\ zHx n xs) (hm:zCw n (mo.getD [])) (hf:(fo.getD []).length <= 100 /\ ∀ xs ∈ fo.getD [],zHx n xs) :
  W (mkK C xss mo fo) λm=>Gr m n /\ m.steps = xss /\ m.marks = mo.getD [] /\ m.fair = fo.getD []:=by
 unfold mkK mkG
 rw [zB]
 refine (zKd hl h0 h1 h).imp λ_ _=>?_
 rw [zB,hl]
 refine (zKe hm).imp λ_ _=>?_
 rw [zB]
 refine (zLn hf.1 hf.2).imp λ_ _=>?_
 have m1:=hm.2.1
 rw [zI2 (by omega),zB,W_some,zB,zOm (λx:Str × LI=>(x.1,x.2))]
 refine ⟨yS (by omega),?_⟩
 have e:(mo.getD []).map (λx:Str × LI=>(x.1,x.2)) = mo.getD []:=map_id' _
 rw [zI2 hf.1,zB,W_some,zB]
 have hv:fSo xss = some (srcs xss):=by
  unfold fSo
  rw [if_pos ⟨by omega,rfl,λxs hx=>by obtain ⟨a,b,c,d⟩:=h xs hx; exact ⟨a,b,c,λz hz=>by have:=d z hz; omega⟩⟩]
 rw [hv,W_some,W_some,e]
 exact ⟨⟨hl,h0,h1,λxs hx=>by obtain ⟨a,b,c,d⟩:=h xs hx; exact ⟨a,b,d⟩,rfl⟩,rfl,rfl,rfl⟩
theorem W_eq {α:Type} {m:Option α} {a:α} (h:W m (· = a)):m = some a:=by obtain ⟨b,e,rfl⟩:=h; exact e
theorem W_sort:W (zKk ns) Q ↔ ns.length < 64 /\ Q (zK0 ns):=by
 unfold zKk
 split
 ·rename_i h; rw [W_some]; exact ⟨λq=>⟨h,q⟩,λq=>q.2⟩
 ·rename_i h; rw [zBk]; exact ⟨False.elim,λq=>h q.1⟩
def resv:List Str:=["all","not","both","either","somenext","eachnext","sometill","eachtill","someever","eachever"]
theorem alph_at:∀ i,i < 26->(("abcdefghijklmnopqrstuvwxyz":Str).cps)[i]? = some (97 + i):=by decide +kernel
theorem alph_in:∀ i,i < 26->inS ⟨#[97 + i]⟩ ("abcdefghijklmnopqrstuvwxyz":Str) = true:=by decide +kernel
theorem zQg:("abcdefghijklmnopqrstuvwxyz":Str).length = 26:=by decide +kernel
theorem zJu (x:Int):ixS ("abcdefghijklmnopqrstuvwxyz":Str) (x % 26) = some ⟨#[97 + (x % 26).toNat]⟩:=by
 have h0:0 <= x % 26 /\ x % 26 < 26:=by omega
 unfold ixS
 rw [if_pos ⟨h0.1,by omega,by rw [zQg]; exact h0.2⟩,alph_at _ (by omega)]
 rfl
theorem app_cps (a b:Str):(a ++ b).cps = a.cps ++ b.cps:=by
 first
  | rfl
  | (show (Str.append a b).cps = _; unfold Str.append; rfl)
def nmS (l:List Nat):Str:=⟨l.toArray⟩
theorem nmS_eq {x:Str} (h:x.cps.toList = l):x = nmS l:=by
 obtain ⟨c⟩:=x
 have h:c.toList = l:=h
 unfold nmS
 rw [<- h]
theorem nmS_app (a b:List Nat):nmS a ++ nmS b = nmS (a ++ b):=nmS_eq (by rw [app_cps]; unfold nmS; simp)
theorem zFy (l:List Nat):(nmS l).length = l.length:=by
 show l.toArray.size = _
 rw [size_toArray]
theorem zMx (h:nmS a = nmS b):a = b:=by
 have h:a.toArray = b.toArray:=congrArg Str.cps h
 have:=congrArg Array.toList h
 simpa using this
theorem zHp {α β:Type} {c:α->Option Bool} {f:α->Option β} {g:α->β}:∀ {xs:List α},(∀ x ∈ xs,c x = some true)->(∀ x ∈ xs,f x = some (g x))->xV c f xs = some (xs.map g)
 | [],_,_=>rfl
 | x :: xs,hc,hf=>by
  have ih:=zHp (λy hy=>hc y (mem_cons_of_mem _ hy)) (λy hy=>hf y (mem_cons_of_mem _ hy))
  show (c x).bind _ = _
  rw [hc x mem_cons_self]
  show (f x).bind _ = _
  rw [hf x mem_cons_self]
  show (xV c f xs).bind _ = _
  rw [ih]
  rfl
theorem zNj {l:List Nat} (h1:1 <= l.length) (h8:l.length <= 8) (hl:∀ x ∈ l,∃ i,i < 26 /\ x = 97 + i) (hr:nmS l ∉ resv):uB (nmS l) = some true:=by
 have ln:=zFy l
 unfold resv at hr
 apply W_eq
 unfold uB
 rw [zB,if_neg (by decide),W_some,if_neg (λz=>hr (of_decide_eq_true z)),zB,zB]
 unfold lenS
 rw [if_pos (yS (by omega)),W_some,decide_eq_true (by omega),if_pos rfl,W_some,decide_eq_true (by omega),if_pos rfl,zB,zB,W_some]
 have ls:zFh (nmS l) = l.map λc=>(⟨#[c]⟩:Str):=by
  unfold zFh nmS
  rfl
 have e:xN (λ(_:Str)=>some true) (λ(x2:Str)=>some (inS x2 ("abcdefghijklmnopqrstuvwxyz":Str))) (zFh (nmS l)) = some ((zFh (nmS l)).map λ_=>true):=by
  unfold xN
  rw [if_pos (by rw [ls,length_map]; exact yS (by omega))]
  refine zHp (λ_ _=>rfl) λx hx=>?_
  rw [ls] at hx
  obtain ⟨y,hy,rfl⟩:=mem_map.mp hx
  obtain ⟨i,hi,rfl⟩:=hl y hy
  rw [alph_in i hi]
 rw [e,W_some,W_some,all_eq_true]
 intro x hx
 obtain ⟨y,_,rfl⟩:=mem_map.mp hx
 rfl
theorem zIy {a b:List Nat} (h:a.length + b.length <= 1000):addS (nmS a) (nmS b) = some (nmS (a ++ b)):=by
 unfold addS
 rw [if_pos (by rw [zFy,zFy]; exact h),nmS_app]
def ng (ns:LI) (i:Nat):Int:=ns.getD i 0
theorem zMz {ns:LI} (h:i < ns.length):ns[i]? = some (ng ns i):=by
 unfold ng
 rw [getD_eq_getElem?_getD,List.getElem?_eq_getElem h]; rfl
theorem w_lr (h0:0 <= n) (h1:n <= 60):lrM n = some (rng n):=by
 unfold lrM
 rw [if_pos ⟨by omega,by omega⟩]
 rfl
theorem zCb {n:Int} {i:Nat} (h:(i:Int) < n):(rng n)[i]? = some (i:Int):=by
 unfold rng
 rw [getElem?_map,getElem?_range (by omega)]; rfl
theorem wK:(rng n).length = n.toNat:=by unfold rng; rw [length_map,length_range]
theorem zLj {α β:Type} {f:α->Option β} {k:α->β} {xs:List α} (h:∀ x ∈ xs,f x = some (k x)) (hl:xs.length <= 1000):xC (λ(s:List β) (x:α)=>((f x).bind λa=>push s a).bind λs'=>some s') xs [] = some (xs.map k):=by
 refine W_eq (wX (λi s=>s = (xs.take i).map k) rfl (λi x s hi e=>?_) λs e=>by rw [e,take_length])
 rw [h x (mem_of_getElem? hi),zB,zB,W_some,zAl,W_some,e]
 have il:=zZ hi
 refine ⟨yS (by rw [length_map,length_take]; omega),?_⟩
 rw [take_add_one,hi,map_append]; rfl
section
variable {C:Addr} {m:Mach C} {n:Int}
def vO (m:Mach C) (x:Int):List Str:=(m.marks.filter λp=>decide (x ∈ p.2)).map (·.1)
theorem zE9 (g:Gr m n):xI m = some (rng n):=by
 unfold xI
 rw [w_manyM g]
 exact w_lr (by have:=g.pos; omega) g.few
theorem zH2 (hm:m.marks.length < 64) (x:Int):yG m x = some (ssort (vO m x)):=by
 unfold yG
 refine W_eq ?_
 rw [zB,zB,W_some,zOn]
 refine ⟨yS (by omega),?_⟩
 unfold zEn
 rw [if_pos (by rw [length_map]; exact Nat.lt_of_le_of_lt (length_filter_le _ _) hm),W_some]
 rfl
theorem zC5 (g:Gr m n) (h0:0 <= x) (h1:x < n):m.steps[x.toNat]? = some (nxt m.steps x) /\ (∀ t ∈ nxt m.steps x,0 <= t /\ t < n) /\ (nxt m.steps x).length <= 60:=by
 have gl:=g.len
 have hl:x.toNat < m.steps.length:=by omega
 have e:nxt m.steps x = m.steps[x.toNat]:=by unfold nxt; rw [getD_eq_getElem?_getD,List.getElem?_eq_getElem hl]; rfl
 have r:=g.row _ (getElem_mem hl)
 rw [e]
 refine ⟨List.getElem?_eq_getElem hl,r.2.2,?_⟩
 have:=zBb (n:=n.toNat) r.2.1 λz hz=>by have:=r.2.2 z hz; omega
 have:=g.few
 omega
theorem w_next (g:Gr m n) (h0:0 <= x) (h1:x < n):yX m x = some (zK0 (nxt m.steps x)):=by
 obtain ⟨e,_,l⟩:=zC5 g h0 h1
 unfold yX
 rw [wU h0,e]
 exact W_eq (W_sort.mpr ⟨by omega,rfl⟩)
theorem zQ7 (nd:(m.marks.map (·.1)).Nodup) (x:Int):(ssort (vO m x)).Nodup:=by
 rw [(ssort_perm _).nodup_iff]
 exact ((List.filter_sublist).map _).nodup nd
theorem zMw (x:Int):(ssort (vO m x)).length <= m.marks.length:=by
 rw [(ssort_perm _).length_eq]
 unfold vO
 rw [length_map]
 exact length_filter_le _ _
end
theorem vT (q:Scr) (h:0 <= k):W (zU q k) λ_=>True:=by
 unfold zU
 rw [zAp]
 refine ⟨λh1=>?_,λ_=>W_some.mpr trivial⟩
 have h1:=of_decide_eq_true h1
 rw [W_at h]
 exact ⟨_,List.getElem?_eq_getElem (show k.toNat < q.ns.length by omega),trivial⟩
theorem zBn (c k:Int):W (xH c k) λ_=>True:=by
 unfold xH
 simp only [zB,W_pow,wF,W_mul,W_some,vK]
 exact ⟨⟨by decide,by decide,by decide⟩,by decide,.inr ⟨by decide,by decide⟩,.inr ⟨by decide,by decide⟩,⟨by decide,by decide⟩,trivial⟩
def Lett (l:List Nat):Prop:=∀ x ∈ l,∃ i,i < 26 /\ x = 97 + i
def mdK (e:Bool) (t:List Nat) (r k:Int):List Nat:=if e = true then (97 + ((r + k) % 26).toNat) :: t else t ++ [97 + ((r + k) % 26).toNat]
def nmK (e:Bool) (t:List Nat) (r k:Int):List Nat:=if nmS (mdK e t r k) ∈ resv then (mdK e t r k).dropLast else mdK e t r k
theorem zPd:∀ w ∈ resv,cutS w (-(1:Int)) = some (nmS w.cps.toList.dropLast):=by decide +kernel
theorem zMb:∀ w ∈ resv,∀ v ∈ resv,w.cps.toList.tail = v.cps.toList.tail \/ w.cps.toList.dropLast = v.cps.toList.dropLast->w = v:=by decide +kernel
theorem zJg:∀ w ∈ resv,nmS w.cps.toList.dropLast ∉ resv /\ 3 <= w.cps.toList.length:=by decide +kernel
theorem zDs (l:List Nat):(nmS l).cps.toList = l:=by unfold nmS; simp
theorem zIn (e:Bool) (t:List Nat) (r k:Int):(mdK e t r k).length = t.length + 1:=by
 unfold mdK
 split
 ·rw [length_cons]
 ·rw [length_append]; rfl
theorem zPq (h:Lett t):Lett (mdK e t r k):=λx hx=>by
 have hn:∃ i,i < 26 /\ 97 + ((r + k) % 26).toNat = 97 + i:=⟨_,by have:=Int.emod_lt_of_pos (r + k) (show (0:Int) < 26 by decide); have:=Int.emod_nonneg (r + k) (show (26:Int) ≠ 0 by decide); omega,rfl⟩
 unfold mdK at hx
 split at hx
 ·rcases mem_cons.mp hx with e | hx
  ·rw [e]; exact hn
  ·exact h x hx
 ·rcases mem_append.mp hx with hx | hx
  ·exact h x hx
  ·rw [mem_singleton.mp hx]; exact hn
theorem zQ9 {e:Bool} {t:List Nat} {r:Int} {j k:Nat} (hj:j < 26) (hk:k < 26) (h:mdK e t r j = mdK e t r k):j = k:=by
 have q:(r + (j:Int)) % 26 = (r + (k:Int)) % 26:=by
  have a1:=Int.emod_nonneg (r + (j:Int)) (show (26:Int) ≠ 0 by decide)
  have a2:=Int.emod_nonneg (r + (k:Int)) (show (26:Int) ≠ 0 by decide)
  unfold mdK at h
  split at h
  ·have:=(List.cons.inj h).1; omega
  ·have:=List.append_cancel_left h
   have:=(List.cons.inj this).1
   omega
 omega
theorem zMy {t:List Nat} (ht:t.length <= 7):1 <= (nmK e t r k).length /\ (nmK e t r k).length <= 8:=by
 have l:=zIn e t r k
 unfold nmK
 split
 ·rename_i h
  have:=(zJg _ h).2
  rw [zDs] at this
  rw [length_dropLast]
  omega
 ·omega
theorem zPm {t:List Nat} (ht:t.length <= 7) (hl:Lett t):uB (nmS (nmK e t r k)) = some true:=by
 obtain ⟨l1,l8⟩:=zMy (e:=e) (r:=r) (k:=k) ht
 refine zNj l1 l8 ?_ ?_
 ·have:=zPq (e:=e) (r:=r) (k:=k) hl
  unfold nmK
  split
  ·exact λx hx=>this x ((List.dropLast_sublist _).subset hx)
  ·exact this
 ·unfold nmK
  split
  ·rename_i h
   have:=(zJg _ h).1
   rw [zDs] at this
   exact this
  ·assumption
theorem nmK_ne {e:Bool} {t:List Nat} {r:Int} {j k:Nat} (hj:j < 26) (hk:k < 26) (h:nmK e t r j = nmK e t r k):j = k:=by
 have l1:=zIn e t r j
 have l2:=zIn e t r k
 unfold nmK at h
 split at h
 ·rename_i w1
  split at h
  ·rename_i w2
   refine zQ9 hj hk (e:=e) (t:=t) (r:=r) ?_
   have q:=zMb _ w1 _ w2
   rw [zDs,zDs] at q
   have:=q (by
    unfold mdK
    cases e with
    | true=>exact .inl rfl
    | false=>exact .inr (by rw [if_neg (by decide),if_neg (by decide),List.dropLast_concat,List.dropLast_concat]))
   exact zMx this
  ·have:=congrArg length h
   rw [length_dropLast] at this
   omega
 ·split at h
  ·have:=congrArg length h
   rw [length_dropLast] at this
   omega
  ·exact zQ9 hj hk h
theorem w_name (c:Int):∃ (e:Bool) (t:List Nat) (r:Int),t.length <= 7 /\ Lett t /\ ∀ k:Int,0 <= k->xK c k = some (nmS (nmK e t r k)):=by
 have c8:=Int.emod_lt_of_pos (c / 2) (show (0:Int) < 8 by decide)
 have c0:=Int.emod_nonneg (c / 2) (show (8:Int) ≠ 0 by decide)
 have tl:W (xC (λ(s4:Str × Int) (x6:Int)=>(((modM s4.2 (26:Int)).bind λb10=>ixS ("abcdefghijklmnopqrstuvwxyz":Str) b10).bind λb11=>addS s4.1 b11).bind λtail9=>(divM s4.2 (26:Int)).bind λrest12=>some (tail9,rest12)) (rng (c / 2 % 8)) (("":Str),c / 16)) λs=>∃ t,s.1 = nmS t /\ t.length <= 7 /\ Lett t:=by
  refine wX (λi s=>∃ t,s.1 = nmS t /\ t.length = i /\ Lett t) ⟨[],by show ("":Str) = nmS []; rfl,rfl,λx hx=>by cases hx⟩ (λi x s hi hI=>?_) λs hI=>?_
  ·obtain ⟨_,i8⟩:=zDk hi
   obtain ⟨tx,rs⟩:=s
   obtain ⟨t,rfl,rfl,hl⟩:=hI
   rw [zB,zB,zB,wF]
   refine ⟨by decide,?_⟩
   show W (ixS _ (rs % 26)) _
   rw [zJu,W_some]
   show W (addS (nmS t) (nmS [97 + (rs % 26).toNat])) _
   rw [zIy (by rw [length_singleton]; omega),W_some,zB,vK]
   refine ⟨⟨by decide,by decide⟩,?_⟩
   rw [W_some]
   refine ⟨_,rfl,by rw [length_append]; rfl,λx hx=>?_⟩
   rcases mem_append.mp hx with z | z
   ·exact hl x z
   ·rw [mem_singleton.mp z]
    exact ⟨_,by have:=Int.emod_lt_of_pos rs (show (0:Int) < 26 by decide); have:=Int.emod_nonneg rs (show (26:Int) ≠ 0 by decide); omega,rfl⟩
  ·obtain ⟨t,e,l,hl⟩:=hI
   exact ⟨t,e,by rw [l,wK]; omega,hl⟩
 obtain ⟨⟨tx,r⟩,ef,t,rfl,t7,hl⟩:=tl
 refine ⟨decide (c % 2 = 0),t,r,t7,hl,λk k0=>?_⟩
 apply W_eq
 unfold xK
 rw [zB,W_some,zB,W_some,zB,vK]
 refine ⟨⟨by decide,by decide⟩,?_⟩
 rw [zB,zB,zB,zB,vK]
 refine ⟨⟨by decide,by decide⟩,?_⟩
 rw [wF]
 refine ⟨by decide,?_⟩
 rw [vP]
 refine ⟨⟨by omega,by omega⟩,?_⟩
 rw [ef,W_some,zB,zB,wF]
 refine ⟨by decide,?_⟩
 show W (ixS _ ((r + k) % 26)) _
 rw [zJu,W_some]
 show W _ _
 rw [zB,zB,zB]
 show W (addS (nmS [97 + ((r + k) % 26).toNat]) (nmS t)) _
 rw [zIy (by rw [length_singleton]; omega),W_some,zB,zB]
 show W (addS (nmS t) (nmS [97 + ((r + k) % 26).toNat])) _
 rw [zIy (by rw [length_singleton]; omega),W_some,W_some,W_some,zB,wF]
 refine ⟨by decide,?_⟩
 have md:atI [nmS ([97 + ((r + k) % 26).toNat] ++ t),nmS (t ++ [97 + ((r + k) % 26).toNat])] (c % 2) = some (nmS (mdK (decide (c % 2 = 0)) t r k)):=by
  rw [wU (by omega)]
  unfold mdK
  by_cases z:c % 2 = 0
  ·rw [z,if_pos (decide_eq_true rfl)]; rfl
  ·rw [show c % 2 = 1 by omega,if_neg (by decide)]; rfl
 rw [md,W_some,zB,W_some,zB]
 unfold nmK
 by_cases z:nmS (mdK (decide (c % 2 = 0)) t r k) ∈ resv
 ·have z':=z
  unfold resv at z'
  rw [if_pos (decide_eq_true z'),zB,zPd _ z,W_some,W_some,W_some,if_pos z,zDs]
 ·have z':=z
  unfold resv at z'
  rw [if_neg (λy=>z' (of_decide_eq_true y)),W_some,W_some,if_neg z]
theorem uY {α β:Type} {c:α->Option Bool} {f:α->Option β} {p:α->Bool} {g:α->β}:∀ {xs:List α},(∀ x ∈ xs,c x = some (p x))->(∀ x ∈ xs,f x = some (g x))->xV c f xs = some ((xs.filter p).map g)
 | [],_,_=>rfl
 | x :: xs,hc,hf=>by
  have ih:=uY (λy hy=>hc y (mem_cons_of_mem _ hy)) (λy hy=>hf y (mem_cons_of_mem _ hy))
  show (c x).bind _ = _
  rw [hc x mem_cons_self]
  cases e:p x with
  | false =>
   rw [filter_cons_of_neg (by rw [e]; decide)]
   show xV c f xs = _
   exact ih
  | true =>
   rw [filter_cons_of_pos e]
   show (f x).bind _ = _
   rw [hf x mem_cons_self]
   show (xV c f xs).bind _ = _
   rw [ih]
   rfl
theorem zPc (n:Int):Rise n (rng n):=by
 refine ⟨?_,λx hx=>mem_rng.mp hx⟩
 unfold rng
 rw [pairwise_map]
 exact List.pairwise_lt_range.imp λh=>Int.ofNat_lt.mpr h
theorem zH6 (p:Int->Bool) (h:Rise n xs):Rise n (xs.filter p):=⟨h.1.filter p,λx hx=>h.2 x (mem_filter.mp hx).1⟩
theorem zGy {xs:LI} (h:xs.Nodup):xs.reverse.Nodup:=List.pairwise_reverse.mpr (h.imp λq e=>q e.symm)
def Un (n:Int) (xs:LI):Prop:=xs.Nodup /\ ∀ x ∈ xs,0 <= x /\ x < n
theorem zDd (h:Un n xs) (h0:0 <= n):(xs.length:Int) <= n:=by
 have:=zBb (n:=n.toNat) h.1 λx hx=>by have:=h.2 x hx; omega
 omega
theorem zLo (h:Un n xs) (h0:0 <= n) (h1:n <= 60):zHx n xs:=⟨h.1,by have:=zDd h h0; omega,h.2⟩
theorem zDc (h:Un n xs) (h0:0 <= x) (h1:x < n) (hx:x ∉ xs):Un n (xs ++ [x]):=by
 refine ⟨?_,λy hy=>?_⟩
 ·rw [nodup_append]
  refine ⟨h.1,by simp,λa ha b hb e=>hx ?_⟩
  rw [<- mem_singleton.mp hb,<- e]
  exact ha
 ·rcases mem_append.mp hy with z | z
  ·exact h.2 y z
  ·rw [mem_singleton.mp z]; exact ⟨h0,h1⟩
theorem zC7 (q:Int) (h0:0 <= n) (h1:n <= 60):W (yY q n) (Un n):=by
 unfold yY
 rw [zB,W_some,zB,zB,vP]
 refine ⟨⟨by omega,by omega⟩,?_⟩
 refine wX (λi s=>Rise (i:Int) s.1) ⟨.nil,λx hx=>by cases hx⟩ (λi x s hi hI=>?_) λs hI=>?_
 ·obtain ⟨rfl,il⟩:=zDk hi
  have sl:s.1.length <= 1000:=by
   have:=zBb (n:=i) hI.nodup hI.2
   omega
  rw [zB,zB,zB,wF]
  refine ⟨by decide,?_⟩
  rw [W_some,zAp]
  refine ⟨λ_=>?_,λ_=>?_⟩
  ·rw [zB,zAl]
   refine ⟨yS sl,?_⟩
   rw [W_some,zB,vK]
   refine ⟨⟨by decide,by decide⟩,?_⟩
   rw [W_some]
   exact zMa hI (by omega) (by omega)
  ·rw [W_some,zB,vK]
   refine ⟨⟨by decide,by decide⟩,?_⟩
   rw [W_some]
   exact rise_up hI (by omega)
 ·rw [wK] at hI
  have un:Un n s.1:=⟨hI.nodup,λx hx=>by have:=hI.2 x hx; omega⟩
  rw [zB,zB,zB,wF]
  refine ⟨by decide,?_⟩
  rw [W_some,zAp]
  refine ⟨λ_=>?_,λ_=>?_⟩
  ·rw [zB,W_some,W_some,W_some]
   exact ⟨zGy un.1,λx hx=>un.2 x (mem_reverse.mp hx)⟩
  ·rw [W_some,W_some]
   exact un
structure MapOk (n:Int) (maps:LI) (bases:Int):Prop where
 len:(maps.length:Int) = n
 pos:1 <= n
 few:n <= 30
 b1:1 <= bases
 bn:bases <= n
 at_:∀ i:Nat,(i:Int) < n->0 <= ng maps i /\ ng maps i < bases
 self:∀ i:Nat,(i:Int) < bases->ng maps i = i
theorem zJr (i:Nat):ng (xs ++ [y]) i = if i < xs.length then ng xs i else if i = xs.length then y else 0:=by
 unfold ng
 rw [getD_eq_getElem?_getD,getD_eq_getElem?_getD]
 by_cases h:i < xs.length
 ·rw [if_pos h,getElem?_append_left h]
 ·rw [if_neg h,getElem?_append_right (by omega)]
  by_cases e:i = xs.length
  ·subst e; rw [if_pos rfl,Nat.sub_self]; rfl
  ·rw [if_neg e,List.getElem?_eq_none (by rw [length_singleton]; omega)]; rfl
theorem w_maps (q:Scr):W (uA q) λv=>∃ n,MapOk n v.1 v.2 /\ n <= 20:=by
 unfold uA
 obtain ⟨c0,e0,_⟩:=vT q (k:=0) (by decide)
 obtain ⟨c1,e1,_⟩:=vT q (k:=1) (by decide)
 rw [e0,e1,zB,zB,zB,W_some,wF]
 refine ⟨by decide,?_⟩
 rw [W_some,zB,zB,zB,zB,zB,W_some,vK]
 refine ⟨⟨by decide,by decide⟩,?_⟩
 rw [wF]
 refine ⟨by decide,?_⟩
 rw [W_some]
 have many:W (if decide (c0 / 8 % 8 = 5) = true then (((((some c0).bind λa10=>divM a10 64).bind λa11=>modM a11 20).bind λb12=>some ((1:Int) + b12)).bind λmany9=>some many9) else some ((1:Int) + c0 % 8)) λn=>1 <= n /\ n <= 20:=by
  rw [zAp]
  refine ⟨λ_=>?_,λ_=>?_⟩
  ·rw [zB,zB,zB,zB,W_some,vK]
   refine ⟨⟨by decide,by decide⟩,?_⟩
   rw [wF]
   refine ⟨by decide,?_⟩
   rw [W_some,W_some]
   omega
  ·rw [W_some]
   omega
 refine many.imp λn ⟨n1,n20⟩=>?_
 rw [zB,zB,zB,W_some,wF]
 refine ⟨by omega,?_⟩
 rw [W_some]
 have b0:=Int.emod_nonneg c1 (show n ≠ 0 by omega)
 have b1:=Int.emod_lt_of_pos c1 (show 0 < n by omega)
 generalize hb:(1:Int) + c1 % n = bs
 rw [zB,W_some,zB,zB,vP]
 refine ⟨⟨by omega,by omega⟩,?_⟩
 refine wX (λi s=>s.length = i /\ (∀ j:Nat,j < i->0 <= ng s j /\ ng s j < bs) /\ ∀ j:Nat,j < i->(j:Int) < bs->ng s j = j) ⟨rfl,λj h=>by omega,λj h=>by omega⟩ (λi x s hi hI=>?_) λs hI=>?_
 ·obtain ⟨rfl,il⟩:=zDk hi
  obtain ⟨sl,s1,s2⟩:=hI
  obtain ⟨z,ez,_⟩:=zBn c1 (i:Int)
  rw [zB,zB,zB,zB,zB,zB,zB,W_some,W_some]
  show W (xH c1 (i:Int)) _
  rw [ez,W_some,wF]
  refine ⟨by omega,?_⟩
  rw [zB,W_mul]
  refine ⟨.inl ⟨by omega,by omega⟩,?_⟩
  rw [W_some,W_some,zAl]
  refine ⟨yS (by omega),?_⟩
  rw [W_some]
  have z0:=Int.emod_nonneg z (show bs ≠ 0 by omega)
  have z1:=Int.emod_lt_of_pos z (show 0 < bs by omega)
  generalize z % bs = y at z0 z1
  have val:∀ w:Int,w = min (i:Int) (y + bs * (if decide ((i:Int) < bs) = true then (1:Int) else 0))->(0 <= w /\ w < bs) /\ ((i:Int) < bs->w = i):=λw hw=>by
   by_cases ib:(i:Int) < bs
   ·rw [if_pos (decide_eq_true ib)] at hw
    rw [hw]
    exact ⟨⟨by omega,by omega⟩,λ_=>by omega⟩
   ·rw [if_neg (λh=>ib (of_decide_eq_true h))] at hw
    rw [hw]
    exact ⟨⟨by omega,by omega⟩,λh=>absurd h ib⟩
  generalize hw:min (i:Int) (y + bs * (if decide ((i:Int) < bs) = true then (1:Int) else 0)) = w
  obtain ⟨v1,v2⟩:=val w hw.symm
  refine ⟨by rw [length_append,sl]; rfl,λj hj=>?_,λj hj jb=>?_⟩
  ·rw [zJr,sl]
   by_cases e:j < i
   ·rw [if_pos e]; exact s1 j e
   ·rw [if_neg e,if_pos (by omega)]; exact v1
  ·rw [zJr,sl]
   by_cases e:j < i
   ·rw [if_pos e]; exact s2 j e jb
   ·rw [if_neg e,if_pos (by omega),v2 (by omega)]; omega
 ·obtain ⟨sl,s1,s2⟩:=hI
  rw [wK] at sl s1 s2
  rw [W_some]
  exact ⟨n,⟨by show (s.length:Int) = n; omega,n1,by omega,by show (1:Int) <= bs; omega,by show bs <= n; omega,λi hi=>s1 i (by omega),λi hi=>s2 i (by omega) hi⟩,n20⟩
def plc (maps:LI) (n b:Int):LI:=(rng n).filter λx=>decide (ng maps x.toNat = b)
section
variable {n:Int} {maps:LI} {bases:Int}
theorem mem_plc:x ∈ plc maps n b ↔ (0 <= x /\ x < n) /\ ng maps x.toNat = b:=by
 unfold plc
 rw [mem_filter,mem_rng]
 exact ⟨λh=>⟨h.1,of_decide_eq_true h.2⟩,λh=>⟨h.1,decide_eq_true h.2⟩⟩
theorem plc_ne (h:MapOk n maps bases) (b0:0 <= b) (b1:b < bases):0 < (plc maps n b).length:=by
 refine List.length_pos_iff.mpr λe=>?_
 have bn:=h.bn
 have:b ∈ plc maps n b:=mem_plc.mpr ⟨⟨b0,by omega⟩,by rw [h.self b.toNat (by omega)]; omega⟩
 rw [e] at this
 cases this
theorem w_plc (h:MapOk n maps bases) (b:Int):((wL (maps.length:Int)).bind λxs=>xN (λ(x7:Int)=>(atI maps x7).bind λa8=>some (decide (a8 = b))) (λ(x7:Int)=>some x7) xs) = some (plc maps n b):=by
 have l:=h.len
 have f:=h.few
 have p:=h.pos
 apply W_eq
 rw [zB,vP,l]
 refine ⟨⟨by omega,by omega⟩,?_⟩
 unfold xN
 rw [if_pos (yS (by rw [wK]; omega)),uY (p:=λx=>decide (ng maps x.toNat = b)) (g:=λx=>x) (λx hx=>?_) (λ_ _=>rfl),W_some,map_id']
 ·rfl
 ·obtain ⟨x0,x1⟩:=mem_rng.mp hx
  rw [wU x0,zMz (by omega)]; rfl
theorem w_pick (e:atI P g = some l) (hl:0 < l.length) (more:Int) {Q:Int->Prop} (k:∀ x ∈ l,Q x):W ((atI P g).bind λa34=>(((atI P g).bind λa32=>some (a32.length:Int)).bind λb33=>modM more b33).bind λb35=>atI a34 b35) Q:=by
 rw [e,zB,W_some,zB,zB,zB,W_some,W_some,wF]
 refine ⟨by omega,?_⟩
 have m0:=Int.emod_nonneg more (show (l.length:Int) ≠ 0 by omega)
 have m1:=Int.emod_lt_of_pos more (show (0:Int) < l.length by omega)
 rw [W_at m0]
 exact ⟨_,List.getElem?_eq_getElem (by omega),k _ (getElem_mem _)⟩
theorem w_row (h:MapOk n maps bases) (q:Scr) (s0:0 <= s) (hg:Un bases goals) (gn:goals ≠ []):W (xC (λ(s25:LI) (x27:Int)=>(((zU q ((6:Int) + s)).bind λa30=>some ((a30,((100:Int) + x27,())))).bind λz29=>xH z29.1 z29.2.1).bind λmore28=>(((atI ((rng bases).map (plc maps n)) x27).bind λa34=>(((atI ((rng bases).map (plc maps n)) x27).bind λa32=>some (a32.length:Int)).bind λb33=>modM more28 b33).bind λb35=>atI a34 b35).bind λa36=>push s25 a36).bind λrow31=>((atI ((rng bases).map (plc maps n)) x27).bind λa41=>((divM more28 (64:Int)).bind λa39=>((atI ((rng bases).map (plc maps n)) x27).bind λa38=>some (a38.length:Int)).bind λb40=>modM a39 b40).bind λb42=>atI a41 b42).bind λsecond37=>(if (!decide (second37 ∈ row31)) = true then (push row31 second37).bind λrow45=>some row45 else some row31).bind λs43=>some s43) goals []) λrow=>row ≠ [] /\ Un n row:=by
 have hn:=h.few
 have hp:=h.pos
 have hb:=h.bn
 have gl:=zDd hg (by have:=h.b1; omega)
 refine wX (λi row=>Un n row /\ (∀ x ∈ row,ng maps x.toNat ∈ goals.take i) /\ (0 < i->row ≠ [])) ⟨⟨.nil,λx hx=>(by cases hx)⟩,λx hx=>(by cases hx),λz=>absurd z (by omega)⟩ (λi g row hi hI=>?_) λrow hI=>⟨hI.2.2 (List.length_pos_iff.mpr gn),hI.1⟩
 obtain ⟨un,hm,_⟩:=hI
 have il:=zZ hi
 obtain ⟨g0,g1⟩:=hg.2 g (mem_of_getElem? hi)
 have ep:atI ((rng bases).map (plc maps n)) g = some (plc maps n g):=by
  rw [wU g0,getElem?_map,zCb (by omega)]
  show some _ = some _
  congr 2
  omega
 have tk:goals.take (i + 1) = goals.take i ++ [g]:=by rw [take_add_one,hi]; rfl
 have ng_not:g ∉ goals.take i:=zBa hg.1 hi
 have pl:=plc_ne h g0 g1
 have rl:=zDd un (by omega)
 rw [zB,zB,zB]
 refine (vT q (by omega)).imp λc _=>?_
 rw [W_some]
 refine (zBn c _).imp λmore _=>?_
 rw [zB,zB]
 refine w_pick ep pl more λx hx=>?_
 obtain ⟨⟨x0,x1⟩,xg⟩:=mem_plc.mp hx
 have xr:x ∉ row:=λz=>ng_not (by rw [<- xg]; exact hm x z)
 have un2:=zDc un x0 x1 xr
 rw [zAl]
 refine ⟨yS (by omega),?_⟩
 have m2:∀ z ∈ row ++ [x],ng maps z.toNat ∈ goals.take (i + 1):=λz hz=>by
  rw [tk]
  rcases mem_append.mp hz with w | w
  ·exact mem_append_left _ (hm z w)
  ·rw [mem_singleton.mp w,xg]; exact mem_append_right _ mem_cons_self
 have rl2:=zDd un2 (by omega)
 rw [ep,zB,zB,W_some,zB,zB,vK]
 refine ⟨⟨by decide,by decide⟩,?_⟩
 rw [zB,zB,W_some,W_some,wF]
 refine ⟨by omega,?_⟩
 have m0:=Int.emod_nonneg (more / 64) (show ((plc maps n g).length:Int) ≠ 0 by omega)
 have m1:=Int.emod_lt_of_pos (more / 64) (show (0:Int) < (plc maps n g).length by omega)
 rw [W_at m0]
 refine ⟨_,List.getElem?_eq_getElem (by omega),?_⟩
 have hy:(plc maps n g)[(more / 64 % ((plc maps n g).length:Int)).toNat]'(by omega) ∈ plc maps n g:=getElem_mem _
 generalize (plc maps n g)[(more / 64 % ((plc maps n g).length:Int)).toNat]'(by omega) = y at hy
 obtain ⟨⟨y0,y1⟩,yg⟩:=mem_plc.mp hy
 rw [zB,zAp]
 refine ⟨λhn=>?_,λ_=>?_⟩
 ·have yr:y ∉ row ++ [x]:=by simpa using hn
  rw [zB,zAl]
  refine ⟨yS (by omega),?_⟩
  rw [W_some,W_some]
  refine ⟨zDc un2 y0 y1 yr,λz hz=>?_,λ_=>by simp⟩
  rcases mem_append.mp hz with w | w
  ·exact m2 z w
  ·rw [mem_singleton.mp w,yg,tk]; exact mem_append_right _ mem_cons_self
 ·rw [W_some,W_some]
  exact ⟨un2,m2,λ_=>by simp⟩
end
abbrev Ptg:=Option (Int × (Str × Key))
def tgt (T:List (List Ptg)) (x y:Int):Ptg:=(T.getD x.toNat []).getD y.toNat none
structure Shp (n n':Int) (T:List (List Ptg)):Prop where
 len:(T.length:Int) = n
 row:∀ (i:Nat) (r:List Ptg),T[i]? = some r->(r.length:Int) = n'
abbrev InR (n x:Int):Prop:=0 <= x /\ x < n
section
variable {n n':Int} {T T':List (List Ptg)}
theorem zI4 (h:Shp n n' T) (hx:InR n x) (hy:InR n' y):∃ r,T[x.toNat]? = some r /\ r[y.toNat]? = some (tgt T x y):=by
 have l:=h.len
 have e:=List.getElem?_eq_getElem (show x.toNat < T.length by omega)
 have rl:=h.row _ _ e
 have e2:=List.getElem?_eq_getElem (show y.toNat < T[x.toNat].length by omega)
 refine ⟨_,e,?_⟩
 unfold tgt
 rw [getD_eq_getElem?_getD,getD_eq_getElem?_getD,e]
 show _ = some ((T[x.toNat][y.toNat]?).getD none)
 rw [e2]
 rfl
theorem zLi (h:Shp n n' T) (hx:InR n x) (hy:InR n' y):((atI T x).bind λa=>atI a y) = some (tgt T x y):=by
 obtain ⟨r,e1,e2⟩:=zI4 h hx hy
 rw [wU hx.1,e1]
 show atI r y = _
 rw [wU hy.1,e2]
theorem tset (h:Shp n n' T) (hx:InR n x) (hy:InR n' y) (a:Ptg):∃ T',zBh (Rws.mk T) x y a = some (Rws.mk T') /\ Shp n n' T' /\ ∀ x' y',InR n x'->InR n' y'->tgt T' x' y' = if x' = x /\ y' = y then a else tgt T x' y':=by
 obtain ⟨r,e1,e2⟩:=zI4 h hx hy
 have xl:=zZ e1
 have yl:=zZ e2
 have l:=h.len
 refine ⟨T.set x.toNat (r.set y.toNat a),?_,⟨by rw [length_set]; exact l,λi q hq=>?_⟩,λx' y' hx' hy'=>?_⟩
 ·unfold zBh
  rw [if_pos hx.1,e1]
  show ((zFn r y a).bind _) = _
  rw [zJb hy.1 (by omega)]
  rfl
 ·rw [List.getElem?_set] at hq
  split at hq
  ·rename_i e
   subst e
   try rw [if_pos xl] at hq
   cases hq
   rw [length_set]
   exact h.row _ _ e1
  ·exact h.row i q hq
 ·unfold tgt
  simp only [getD_eq_getElem?_getD]
  rw [List.getElem?_set]
  by_cases ex:x' = x
  ·subst ex
   rw [if_pos rfl,if_pos xl,e1]
   show (r.set y.toNat a)[y'.toNat]?.getD none = if _ then a else r[y'.toNat]?.getD none
   rw [List.getElem?_set]
   by_cases ey:y' = y
   ·subst ey
    rw [if_pos rfl,if_pos yl,if_pos ⟨rfl,rfl⟩]; rfl
   ·rw [if_neg (by have:=hy.1; have:=hy'.1; omega),if_neg λz=>ey z.2]
  ·rw [if_neg (by have:=hx.1; have:=hx'.1; omega),if_neg λz=>ex z.1]
def Ext (n n':Int) (T T':List (List Ptg)):Prop:=∀ x y v,InR n x->InR n' y->tgt T x y = some v->tgt T' x y = some v
theorem Ext.refl:Ext n n' T T:=λ_ _ _ _ _ h=>h
theorem Ext.trans (a:Ext n n' T T') (b:Ext n n' T' T2):Ext n n' T T2:=λx y v hx hy h=>b x y v hx hy (a x y v hx hy h)
def rk (T:List (List Ptg)) (p:Int × Int):Int:=match tgt T p.1 p.2 with
 | some (r,_)=>r
 | none=>0
theorem zGx (h:tgt T p.1 p.2 = some (r,w)):rk T p = r:=by unfold rk; rw [h]
theorem zI6 {α:Type}:∀ {ks ns:List α},ks.Nodup->(∀ z ∈ ks,z ∈ ns)->ks.length <= ns.length
 | [],_,_,_=>Nat.zero_le _
 | k :: ks,ns,nd,h=>by
  obtain ⟨a,b,e⟩:=List.append_of_mem (h k mem_cons_self)
  have nd':=nodup_cons.mp nd
  have q:=zI6 (ks:=ks) (ns:=a ++ b) nd'.2 λz hz=>by
   have hm:=h z (mem_cons_of_mem _ hz)
   rw [e] at hm
   rcases mem_append.mp hm with m | m
   ·exact mem_append.mpr (.inl m)
   ·rcases mem_cons.mp m with m | m
    ·exact absurd (m ▸ hz) nd'.1
    ·exact mem_append.mpr (.inr m)
  rw [e,length_append,length_cons,length_cons]
  rw [length_append] at q
  omega
theorem q_len {Q:List (Int × Int)} (nd:Q.Nodup) (h:∀ p ∈ Q,InR n p.1 /\ InR n' p.2) (h60:n <= 60) (h60':n' <= 60):Q.length <= 3600:=by
 have hl:((List.range 60).flatMap λ(i:Nat)=>(List.range 60).map λ(j:Nat)=>((i:Int),(j:Int))).length = 3600:=by decide +kernel
 rw [<- hl]
 refine zI6 nd λp hp=>?_
 obtain ⟨h1,h2⟩:=h p hp
 refine List.mem_flatMap.mpr ⟨p.1.toNat,mem_range.mpr (by omega),mem_map.mpr ⟨p.2.toNat,mem_range.mpr (by omega),?_⟩⟩
 rw [show ((p.1.toNat:Nat):Int) = p.1 by omega,show ((p.2.toNat:Nat):Int) = p.2 by omega]
end
section
variable {C:Addr} {m m':Mach C} {n n':Int} {T:List (List Ptg)} {Q:List (Int × Int)}
def RsOk (m m':Mach C) (T:List (List Ptg)) (x y r:Int) (w:Str × Key):Prop :=
 (r = 0 /\ ∃ nm,w = (("mark":Str),(Sum.inr nm:Key)) /\ ¬ (nm ∈ vO m x ↔ nm ∈ vO m' y)) \/
 ∃ s,w = (("step":Str),(Sum.inl s:Key)) /\ s ∈ nxt m.steps x /\ ∀ t ∈ nxt m'.steps y,∃ r' w',tgt T s t = some (r',w') /\ r' < r
theorem RsOk.ext (g:Gr m n) (g':Gr m' n') (e:Ext n n' T T') (hx:InR n x) (hy:InR n' y) (h:RsOk m m' T x y r w):RsOk m m' T' x y r w:=by
 rcases h with h | ⟨s,h1,h2,h3⟩
 ·exact .inl h
 ·refine .inr ⟨s,h1,h2,λt ht=>?_⟩
  obtain ⟨r',w',q1,q2⟩:=h3 t ht
  exact ⟨r',w',e s t _ ((zC5 g hx.1 hx.2).2.1 s h2) ((zC5 g' hy.1 hy.2).2.1 t ht) q1,q2⟩
structure BQ (m m':Mach C) (n n':Int) (T:List (List Ptg)) (Q:List (Int × Int)):Prop where
 shp:Shp n n' T
 qin:∀ p ∈ Q,InR n p.1 /\ InR n' p.2
 nd:Q.Nodup
 mem:∀ x y,InR n x->InR n' y->((x,y) ∈ Q ↔ tgt T x y ≠ none)
 rs:∀ x y,InR n x->InR n' y->∀ r w,tgt T x y = some (r,w)->0 <= r /\ RsOk m m' T x y r w
 mono:∀ (i j:Nat) (p q:Int × Int),i <= j->Q[i]? = some p->Q[j]? = some q->rk T p <= rk T q
theorem BQ.push (g:Gr m n) (g':Gr m' n') (h:BQ m m' n n' T Q) (hx:InR n x) (hy:InR n' y) (hn:tgt T x y = none) (l0:0 <= l) (top:∀ q ∈ Q,rk T q <= l) (ok:RsOk m m' T x y l w) :
  ∃ T',zBh (Rws.mk T) x y (some (l,w)) = some (Rws.mk T') /\ BQ m m' n n' T' (Q ++ [(x,y)]) /\ Ext n n' T T' /\ (∀ q ∈ Q ++ [(x,y)],rk T' q <= l) /\ tgt T' x y ≠ none:=by
 obtain ⟨T',e,shp,at_⟩:=tset h.shp hx hy (some (l,w))
 have ex:Ext n n' T T':=λa b v ha hb e0=>by
  rw [at_ a b ha hb,if_neg]
  ·exact e0
  ·rintro ⟨rfl,rfl⟩
   rw [hn] at e0; cases e0
 have self:tgt T' x y = some (l,w):=by rw [at_ x y hx hy,if_pos ⟨rfl,rfl⟩]
 have rkq:∀ q ∈ Q,rk T' q = rk T q:=λq hq=>by
  obtain ⟨q1,q2⟩:=h.qin q hq
  have:=(h.mem q.1 q.2 q1 q2).mp hq
  cases e2:tgt T q.1 q.2 with
  | none=>exact absurd e2 this
  | some v=>rw [zGx e2,zGx (ex _ _ _ q1 q2 e2)]
 have nin:(x,y) ∉ Q:=λz=>(h.mem x y hx hy).mp z hn
 have topn:∀ q ∈ Q ++ [(x,y)],rk T' q <= l:=λq hq=>by
  rcases mem_append.mp hq with hq | hq
  ·rw [rkq q hq]; exact top q hq
  ·rw [mem_singleton.mp hq,zGx (p:=(x,y)) self]; exact Int.le_refl _
 refine ⟨T',e,⟨shp,λp hp=>?_,?_,λa b ha hb=>?_,λa b ha hb r v hv=>?_,λi j p q hij hi hj=>?_⟩,ex,topn,by rw [self]; intro z; cases z⟩
 ·rcases mem_append.mp hp with hp | hp
  ·exact h.qin p hp
  ·rw [mem_singleton.mp hp]; exact ⟨hx,hy⟩
 ·rw [nodup_append]
  refine ⟨h.nd,by simp,λa ha b hb e=>nin ?_⟩
  rw [<- mem_singleton.mp hb,<- e]
  exact ha
 ·rw [mem_append,h.mem a b ha hb,at_ a b ha hb,mem_singleton]
  by_cases q:a = x /\ b = y
  ·rw [if_pos q,q.1,q.2]
   exact ⟨λ_ z=>(by cases z),λ_=>.inr rfl⟩
  ·rw [if_neg q]
   exact ⟨λz=>z.elim id λz=>absurd ⟨congrArg Prod.fst z,congrArg Prod.snd z⟩ q,.inl⟩
 ·rw [at_ a b ha hb] at hv
  split at hv
  ·rename_i q
   cases hv
   rw [q.1,q.2]
   exact ⟨l0,ok.ext g g' ex hx hy⟩
  ·obtain ⟨z1,z2⟩:=h.rs a b ha hb r v hv
   exact ⟨z1,z2.ext g g' ex ha hb⟩
 ·rcases Nat.lt_or_ge j Q.length with z | z
  ·rw [getElem?_append_left z] at hj
   rw [getElem?_append_left (by omega)] at hi
   rw [rkq p (mem_of_getElem? hi),rkq q (mem_of_getElem? hj)]
   exact h.mono i j p q hij hi hj
  ·have ej:j = Q.length:=by
    have:=zZ hj
    rw [length_append,length_singleton] at this
    omega
   rw [getElem?_append_right z,ej,Nat.sub_self] at hj
   cases (Option.some.inj (show some (x,y) = some q from hj))
   rw [zGx (p:=(x,y)) self]
   exact topn p (mem_of_getElem? hi)
structure Stp (m m':Mach C) (n n':Int) (T:List (List Ptg)) (Q:List (Int × Int)) (l:Int) (T2:List (List Ptg)) (Q2:List (Int × Int)):Prop where
 bq:BQ m m' n n' T2 Q2
 ext:Ext n n' T T2
 app:∃ E,Q2 = Q ++ E
 top:∀ q ∈ Q2,rk T2 q <= l
theorem Stp.trans (a:Stp m m' n n' T Q l T2 Q2) (b:Stp m m' n n' T2 Q2 l T3 Q3):Stp m m' n n' T Q l T3 Q3:=by
 obtain ⟨E,e⟩:=a.app
 obtain ⟨E',e'⟩:=b.app
 exact ⟨b.bq,a.ext.trans b.ext,⟨E ++ E',by rw [e',e,append_assoc]⟩,b.top⟩
theorem zJx (e:Ext n n' T T2) (hx:InR n x) (hy:InR n' y) (h:tgt T x y ≠ none):tgt T2 x y ≠ none:=by
 cases q:tgt T x y with
 | none=>exact absurd q h
 | some v=>rw [e x y v hx hy q]; intro z; cases z
abbrev Fst:=(Rws Ptg) × (List (Int × Int))
theorem w_inner (g:Gr m n) (g':Gr m' n') (bq:BQ m m' n n' T Q) (top:∀ q ∈ Q,rk T q <= l) (l0:0 <= l) (hf:InR n' f) (all:∀ t ∈ nxt m'.steps f,∃ r' w',tgt T st t = some (r',w') /\ r' < l) (hs:∀ x ∈ xs,InR n x /\ st ∈ nxt m.steps x) :
  W (xC (λ(s19:Fst) (x21:Int)=>((((atI s19.1.xss x21).bind λa22=>atI a22 f).bind λa23=>some a23.isNone).bind λb=>if b = true then (zBh s19.1 x21 f (some ((l,(("step":Str),(Sum.inl st:Key)))))).bind λtold26=>(push s19.2 (x21,f)).bind λrow27=>some (told26,row27) else some (s19.1,s19.2)).bind λs24=>some (s24.1,s24.2)) xs (Rws.mk T,Q)) λs=>Stp m m' n n' T Q l s.1.xss s.2 /\ ∀ x ∈ xs,tgt s.1.xss x f ≠ none:=by
 have h60:=g.few
 have h60':=g'.few
 refine wX (λi s=>Stp m m' n n' T Q l s.1.xss s.2 /\ ∀ x ∈ xs.take i,tgt s.1.xss x f ≠ none) ⟨⟨bq,.refl,⟨[],by simp⟩,top⟩,λx hx=>(by simp at hx)⟩ (λi x s hi hI=>?_) λs hI=>by rw [take_length] at hI; exact hI
 obtain ⟨⟨T2⟩,Q2⟩:=s
 obtain ⟨sp,hd⟩:=hI
 obtain ⟨hx,hst⟩:=hs x (mem_of_getElem? hi)
 have tk:∀ {P:Int->Prop},(∀ y ∈ xs.take i,P y)->P x->∀ y ∈ xs.take (i + 1),P y:=λ{P} h1 h2 y hy=>by
  rw [take_add_one,hi] at hy
  rcases mem_append.mp hy with hy | hy
  ·exact h1 y hy
  ·have:y = x:=by simpa using hy
   rw [this]; exact h2
 rw [zB,zB,zB]
 show W ((atI T2 x).bind λa22=>atI a22 f) _
 rw [zLi sp.bq.shp hx hf,W_some,W_some]
 cases e:tgt T2 x f with
 | some v =>
  rw [Option.isNone_some,if_neg (by decide),W_some,W_some]
  exact ⟨sp,tk hd (by show tgt T2 x f ≠ none; rw [e]; intro z; cases z)⟩
 | none =>
  have ok:RsOk m m' T2 x f l (("step":Str),(Sum.inl st:Key)):=.inr ⟨st,rfl,hst,λt ht=>by
   obtain ⟨r',w',z1,z2⟩:=all t ht
   exact ⟨r',w',sp.ext _ _ _ ((zC5 g hx.1 hx.2).2.1 st hst) ((zC5 g' hf.1 hf.2).2.1 t ht) z1,z2⟩⟩
  obtain ⟨T3,e3,bq3,ex3,top3,ne3⟩:=sp.bq.push g g' hx hf e l0 sp.top ok
  have ql:=q_len sp.bq.nd sp.bq.qin h60 h60'
  rw [Option.isNone_none,if_pos rfl,zB]
  show W (zBh (Rws.mk T2) x f _) _
  rw [e3,W_some,zB,zAl]
  refine ⟨Nat.lt_of_le_of_lt ql (by decide),?_⟩
  rw [W_some,W_some]
  exact ⟨sp.trans ⟨bq3,ex3,⟨_,rfl⟩,top3⟩,tk (λy hy=>zJx ex3 (hs y (mem_of_mem_take hy)).1 hf (hd y hy)) ne3⟩
theorem w_outer (g:Gr m n) (g':Gr m' n') (bq:BQ m m' n n' T Q) (hst:InR n st) (top:∀ q ∈ Q,rk T q <= l) (l0:0 <= l) (hz:∀ f ∈ zs,InR n' f /\ ∀ t ∈ nxt m'.steps f,∃ r' w',tgt T st t = some (r',w') /\ r' < l) :
  W (xC (λ(s16:(Rws Ptg) × (List (Int × Int)) × (Rws Int)) (x18:Int)=>((yH m st).bind λxs=>xC (λ(s19:Fst) (x21:Int)=>((((atI s19.1.xss x21).bind λa22=>atI a22 x18).bind λa23=>some a23.isNone).bind λb=>if b = true then (zBh s19.1 x21 x18 (some ((l,(("step":Str),(Sum.inl st:Key)))))).bind λtold26=>(push s19.2 (x21,x18)).bind λrow27=>some (told26,row27) else some (s19.1,s19.2)).bind λs24=>some (s24.1,s24.2)) xs (s16.1,s16.2.1)).bind λs20=>some (s20.1,s20.2,s16.2.2)) zs (Rws.mk T,Q,c)) λs=>Stp m m' n n' T Q l s.1.xss s.2.1 /\ s.2.2 = c /\ ∀ f ∈ zs,∀ x,InR n x->st ∈ nxt m.steps x->tgt s.1.xss x f ≠ none:=by
 have hb:yH m st = some (src m.steps st.toNat):=by
  unfold yH
  rw [g.src,wU hst.1]
  unfold srcs
  rw [getElem?_map,getElem?_range (by have:=g.len; omega)]; rfl
 have ms:∀ x,x ∈ src m.steps st.toNat ↔ InR n x /\ st ∈ nxt m.steps x:=λx=>by
  rw [zM4,g.len,show ((st.toNat:Nat):Int) = st by omega]
  exact ⟨λ⟨a,b,c⟩=>⟨⟨a,b⟩,c⟩,λ⟨⟨a,b⟩,c⟩=>⟨a,b,c⟩⟩
 refine wX (λi s=>Stp m m' n n' T Q l s.1.xss s.2.1 /\ s.2.2 = c /\ ∀ f ∈ zs.take i,∀ x,InR n x->st ∈ nxt m.steps x->tgt s.1.xss x f ≠ none) ⟨⟨bq,.refl,⟨[],by simp⟩,top⟩,rfl,λx hx=>(by simp at hx)⟩ (λi f s hi hI=>?_) λs hI=>by rw [take_length] at hI; exact hI
 obtain ⟨⟨T2⟩,Q2,c2⟩:=s
 obtain ⟨sp,rfl,hd⟩:=hI
 obtain ⟨hf,all⟩:=hz f (mem_of_getElem? hi)
 rw [hb,zB,zB,W_some]
 refine (w_inner g g' sp.bq sp.top l0 hf (λt ht=>by
  obtain ⟨r',w',z1,z2⟩:=all t ht
  exact ⟨r',w',sp.ext _ _ _ hst ((zC5 g' hf.1 hf.2).2.1 t ht) z1,z2⟩) (λx hx=>(ms x).mp hx)).imp λs ⟨sp2,d2⟩=>?_
 rw [W_some]
 refine ⟨sp.trans sp2,rfl,λy hy x hx hs=>?_⟩
 rw [take_add_one,hi] at hy
 rcases mem_append.mp hy with hy | hy
 ·exact zJx sp2.ext hx (hz y (mem_of_mem_take hy)).1 (hd y hy x hx hs)
 ·have:y = f:=by simpa using hy
  rw [this]
  exact d2 x ((ms x).mpr ⟨hx,hs⟩)
def lft (m':Mach C) (P:List (Int × Int)) (x f:Int):Int:=(((nxt m'.steps f).filter λt=>!decide ((x,t) ∈ P)).length:Int)
def cnt (c:Rws Int) (x f:Int):Int:=ng (c.xss.getD x.toNat []) f.toNat
structure CsOk (m':Mach C) (n n':Int) (P:List (Int × Int)) (c:Rws Int):Prop where
 len:(c.xss.length:Int) = n
 row:∀ (i:Nat) (r:LI),c.xss[i]? = some r->(r.length:Int) = n'
 at_:∀ x f,InR n x->InR n' f->cnt c x f = lft m' P x f
theorem w_left (g':Gr m' n') (ha:InR n' an) {c:LI} (hc:(c.length:Int) = n'):W (yA c m' an) λr=>(r.2.length:Int) = n' /\ (∀ f,InR n' f->ng r.2 f.toNat = ng c f.toNat - if an ∈ nxt m'.steps f then 1 else 0) /\ ∀ f,f ∈ r.1 ↔ InR n' f /\ an ∈ nxt m'.steps f /\ ng c f.toNat = 1:=by
 have hb:yH m' an = some (src m'.steps an.toNat):=by
  unfold yH
  rw [g'.src,wU ha.1]
  unfold srcs
  rw [getElem?_map,getElem?_range (by have:=g'.len; omega)]; rfl
 have ms:∀ x,x ∈ src m'.steps an.toNat ↔ InR n' x /\ an ∈ nxt m'.steps x:=λx=>by
  rw [zM4,g'.len,show ((an.toNat:Nat):Int) = an by omega]
  exact ⟨λ⟨a,b,c⟩=>⟨⟨a,b⟩,c⟩,λ⟨⟨a,b⟩,c⟩=>⟨a,b,c⟩⟩
 have nd:(src m'.steps an.toNat).Nodup:=by
  unfold src
  exact pairwise_map.mpr ((nodup_range.filter _).imp λq e=>q (Int.ofNat.inj e))
 have few:=g'.few
 generalize hx:src m'.steps an.toNat = xs at hb ms nd
 have xl:xs.length <= 60:=by
  have:=zBb (n:=n'.toNat) nd λx hx=>by have:=((ms x).mp hx).1; omega
  omega
 unfold yA
 rw [zB,W_some,hb,zB,zB,W_some]
 refine wX (λi s=>(s.1.length:Int) = n' /\ (∀ f,InR n' f->ng s.1 f.toNat = ng c f.toNat - if f ∈ xs.take i then 1 else 0) /\ s.2.length <= i /\ ∀ f,f ∈ s.2 ↔ f ∈ xs.take i /\ ng c f.toNat = 1) ⟨hc,λf hf=>by simp,Nat.zero_le _,λf=>by simp⟩ (λi x s hi hI=>?_) λs hI=>?_
 ·obtain ⟨cs,told⟩:=s
  obtain ⟨l1,h1,l2,h2⟩:=hI
  have l1:(cs.length:Int) = n':=l1
  have hxr:=((ms x).mp (mem_of_getElem? hi)).1
  have il:=zZ hi
  have nt:=zBa nd hi
  have e0:atI cs x = some (ng cs x.toNat):=by rw [wU hxr.1]; exact zMz (by omega)
  have hx0:ng cs x.toNat = ng c x.toNat:=by have:=h1 x hxr; rw [if_neg nt] at this; have this:ng cs x.toNat = ng c x.toNat - 0:=this; omega
  have ea:augM (λi j=>i - j) cs x 1 = some (cs.set x.toNat (ng c x.toNat - 1)):=by
   unfold augM
   rw [if_pos hxr.1,e0]
   show zFn cs x (ng cs x.toNat - 1) = _
   rw [zJb hxr.1 (by omega),hx0]
  have mt:∀ f,f ∈ xs.take (i + 1) ↔ f ∈ xs.take i \/ f = x:=λf=>by
   rw [take_add_one,hi,mem_append]
   simp
  have eg:∀ f,InR n' f->ng (cs.set x.toNat (ng c x.toNat - 1)) f.toNat = if f = x then ng c x.toNat - 1 else ng cs f.toNat:=λf hf=>by
   unfold ng
   rw [getD_eq_getElem?_getD,List.getElem?_set]
   by_cases q:f = x
   ·subst q
    rw [if_pos rfl,if_pos rfl,if_pos (by omega)]; rfl
   ·rw [if_neg q,if_neg (by omega),<- getD_eq_getElem?_getD]
  show W ((augM (λi j=>i - j) cs x 1).bind _) _
  rw [ea,zB,W_some,zB,zB,zB,wU hxr.1,zMz (by rw [length_set]; omega),W_some,W_some,eg x hxr,if_pos rfl]
  have base:∀ f,InR n' f->ng (cs.set x.toNat (ng c x.toNat - 1)) f.toNat = ng c f.toNat - if f ∈ xs.take (i + 1) then 1 else 0:=λf hf=>by
   rw [eg f hf]
   by_cases q:f = x
   ·rw [if_pos q,if_pos ((mt f).mpr (.inr q)),q]
   ·rw [if_neg q]
    have:=h1 f hf
    by_cases z:f ∈ xs.take i
    ·rw [if_pos z] at this
     rw [if_pos ((mt f).mpr (.inl z))]; exact this
    ·rw [if_neg z] at this
     rw [if_neg λw=>((mt f).mp w).elim z q]; exact this
  by_cases z:ng c x.toNat - 1 = 0
  ·rw [if_pos (decide_eq_true z),zB]
   show W (push told x) _
   rw [zAl]
   refine ⟨yS (by show told.length <= 1000; have:told.length <= i:=l2; omega),?_⟩
   rw [W_some,W_some]
   refine ⟨by show ((cs.set _ _).length:Int) = n'; rw [length_set]; exact l1,base,by show (told ++ [x]).length <= i + 1; rw [length_append]; have:told.length <= i:=l2; simpa using this,λf=>?_⟩
   show f ∈ told ++ [x] ↔ _
   rw [mem_append,h2 f,mt f,mem_singleton]
   constructor
   ·rintro (⟨a,b⟩ | a)
    ·exact ⟨.inl a,b⟩
    ·exact ⟨.inr a,by rw [a]; omega⟩
   ·rintro ⟨a | a,b⟩
    ·exact .inl ⟨a,b⟩
    ·exact .inr a
  ·rw [if_neg λw=>z (of_decide_eq_true w),W_some,W_some]
   refine ⟨by show ((cs.set _ _).length:Int) = n'; rw [length_set]; exact l1,base,by show told.length <= i + 1; have:told.length <= i:=l2; omega,λf=>?_⟩
   show f ∈ told ↔ _
   rw [h2 f,mt f]
   constructor
   ·rintro ⟨a,b⟩; exact ⟨.inl a,b⟩
   ·rintro ⟨a | a,b⟩
    ·exact ⟨a,b⟩
    ·rw [a] at b; omega
 ·obtain ⟨cs,told⟩:=s
  obtain ⟨l1,h1,_,h2⟩:=hI
  rw [take_length] at h1 h2
  rw [W_some]
  refine ⟨l1,λf hf=>?_,λf=>?_⟩
  ·have:=h1 f hf
   show ng cs f.toNat = _
   rw [show ng cs f.toNat = _ from this]
   by_cases z:an ∈ nxt m'.steps f
   ·rw [if_pos z,if_pos ((ms f).mpr ⟨hf,z⟩)]
   ·rw [if_neg z,if_neg λw=>z ((ms f).mp w).2]
  ·show f ∈ told ↔ _
   rw [h2 f,ms f]
   exact ⟨λ⟨⟨a,b⟩,c⟩=>⟨a,b,c⟩,λ⟨a,b,c⟩=>⟨⟨a,b⟩,c⟩⟩
theorem zJt (g':Gr m' n') (hf:InR n' f) (hn:(st,an) ∉ P):lft m' (P ++ [(st,an)]) x f = lft m' P x f - if x = st /\ an ∈ nxt m'.steps f then 1 else 0:=by
 have nd:=(g'.row _ (mem_of_getElem? (zC5 g' hf.1 hf.2).1)).2.1
 unfold lft
 by_cases q:x = st /\ an ∈ nxt m'.steps f
 ·rw [if_pos q]
  obtain ⟨rfl,ha⟩:=q
  have key:∀ l:LI,l.Nodup->an ∈ l->(l.filter λt=>!decide ((x,t) ∈ P)).length = (l.filter λt=>!decide ((x,t) ∈ P ++ [(x,an)])).length + 1:=by
   intro l
   induction l with
   | nil=>intro _ h; cases h
   | cons t l ih =>
    intro nd h
    have nd':=nodup_cons.mp nd
    by_cases e:t = an
    ·subst e
     rw [filter_cons_of_pos (by simpa using hn),filter_cons_of_neg (by simp),length_cons]
     congr 2
     refine List.filter_congr λu hu=>?_
     have:u ≠ t:=λe=>nd'.1 (e ▸ hu)
     simp [this]
    ·have hl:an ∈ l:=(mem_cons.mp h).elim (λz=>absurd z.symm e) id
     have ih:=ih nd'.2 hl
     by_cases p:(x,t) ∈ P
     ·rw [filter_cons_of_neg (by simpa using p),filter_cons_of_neg (by simp [p])]
      exact ih
     ·rw [filter_cons_of_pos (by simpa using p),filter_cons_of_pos (by simp [p,e]),length_cons,length_cons,ih]
  have:=key _ nd ha
  omega
 ·rw [if_neg q,Int.sub_zero]
  congr 2
  refine List.filter_congr λt ht=>?_
  have:(x,t) ∈ P ++ [(st,an)] ↔ (x,t) ∈ P:=by
   rw [mem_append,mem_singleton]
   refine ⟨λz=>z.elim id λz=>absurd ⟨congrArg Prod.fst z,?_⟩ q,.inl⟩
   have:t = an:=congrArg Prod.snd z
   rw [<- this]; exact ht
  rw [decide_eq_decide.mpr this]
theorem zPt:lft m' P x f = 0 ↔ ∀ t ∈ nxt m'.steps f,(x,t) ∈ P:=by
 unfold lft
 rw [show ((((nxt m'.steps f).filter λt=>!decide ((x,t) ∈ P)).length:Int) = 0) ↔ ((nxt m'.steps f).filter λt=>!decide ((x,t) ∈ P)) = [] from ⟨λh=>length_eq_zero_iff.mp (by omega),λh=>by rw [h]; rfl⟩,List.filter_eq_nil_iff]
 constructor
 ·intro h t ht
  have:=h t ht
  simpa using this
 ·intro h t ht
  simp [h t ht]
structure Kv (m m':Mach C) (n n':Int) (T:List (List Ptg)) (Q:List (Int × Int)) (c:Rws Int) (k:Nat):Prop where
 bq:BQ m m' n n' T Q
 kl:k <= Q.length
 cs:CsOk m' n n' (Q.take k) c
 top:∀ p,Q[k]? = some p->∀ q ∈ Q,rk T q <= rk T p + 1
 clo:∀ x f,InR n x->InR n' f->(∀ t ∈ nxt m'.steps f,(x,t) ∈ Q.take k)->∀ s,InR n s->x ∈ nxt m.steps s->tgt T s f ≠ none
end
section
variable {C:Addr} {m m':Mach C} {n n':Int} {T:List (List Ptg)} {Q:List (Int × Int)}
def sgt (m m':Mach C) (x y:Int):Ptg:=match sxor (ssort (vO m x)) (ssort (vO m' y)) with
 | []=>none
 | a :: _=>some (0,(("mark":Str),(Sum.inr a:Key)))
theorem zQt (h:sgt m m' x y = some (r,w)):r = 0 /\ RsOk m m' T x y r w:=by
 unfold sgt at h
 cases e:sxor (ssort (vO m x)) (ssort (vO m' y)) with
 | nil=>rw [e] at h; cases h
 | cons a l =>
  rw [e] at h
  cases h
  refine ⟨rfl,.inl ⟨rfl,a,rfl,λq=>?_⟩⟩
  have ha:a ∈ sxor (ssort (vO m x)) (ssort (vO m' y)):=by rw [e]; exact mem_cons_self
  unfold sxor at ha
  rw [(ssort_perm _).mem_iff,zM3,(ssort_perm _).mem_iff,(ssort_perm _).mem_iff] at ha
  rcases ha with w | w
  ·exact w.2 (q.mp w.1)
  ·exact w.1 (q.mpr w.2)
theorem w_sgt (nd:(m.marks.map (·.1)).Nodup) (hm:m.marks.length < 32) (nd':(m'.marks.map (·.1)).Nodup) (hm':m'.marks.length < 32) (x y:Int):yP (ssort (vO m x)) (ssort (vO m' y)) = some (sgt m m' x y):=by
 have lx:=zMw (m:=m) x
 have ly:=zMw (m:=m') y
 refine W_eq ?_
 unfold yP zA8 zLu
 rw [if_pos ⟨by omega,zQ7 nd x,zQ7 nd' y⟩,zB,W_some]
 unfold sgt
 cases e:sxor (ssort (vO m x)) (ssort (vO m' y)) with
 | nil=>rw [if_pos (by decide),W_some]
 | cons a l =>
  rw [if_neg (by rw [length_cons]; intro z; have:=of_decide_eq_true z; omega),zB,zB,zB,zB,wU (by decide)]
  show W (some a) _
  rw [W_some,W_some,W_some,W_some,W_some]
def sgts (m m':Mach C) (n n':Int):List (List Ptg):=(rng n).map λx=>(rng n').map λy=>sgt m m' x y
theorem zO7 (h0:0 <= n) (h0':0 <= n'):Shp n n' (sgts m m' n n'):=⟨by unfold sgts; rw [length_map,wK]; omega,λi r hr=>by
 unfold sgts at hr
 rw [getElem?_map] at hr
 cases e:(rng n)[i]? with
 | none=>rw [e] at hr; cases hr
 | some x=>rw [e] at hr; cases hr; rw [length_map,wK]; omega⟩
theorem zFk (hx:InR n x) (hy:InR n' y):tgt (sgts m m' n n') x y = sgt m m' x y:=by
 unfold tgt sgts
 simp only [getD_eq_getElem?_getD]
 rw [getElem?_map,zCb (by have:=hx.1; have:=hx.2; omega)]
 show (((rng n').map _)[y.toNat]?).getD none = _
 rw [getElem?_map,zCb (by have:=hy.1; have:=hy.2; omega)]
 show sgt m m' _ _ = _
 rw [show ((x.toNat:Nat):Int) = x by have:=hx.1; omega,show ((y.toNat:Nat):Int) = y by have:=hy.1; omega]
theorem zOp (g:Gr m n) (g':Gr m' n') (nd:(m.marks.map (·.1)).Nodup) (hm:m.marks.length < 32) (nd':(m'.marks.map (·.1)).Nodup) (hm':m'.marks.length < 32):xS m m' = some (Rws.mk (sgts m m' n n')):=by
 have p0:=g.pos; have p1:=g.few; have p0':=g'.pos; have p1':=g'.few
 refine W_eq ?_
 unfold xS
 rw [zE9 g',zE9 g,zB,zB,W_some]
 have e1:xN (λ(x2:Int)=>some true) (λ(x2:Int)=>yG m' x2) (rng n') = some ((rng n').map λy=>ssort (vO m' y)):=by
  unfold xN
  rw [if_pos (yS (by rw [wK]; omega)),uY (p:=λ_=>true) (g:=λy=>ssort (vO m' y)) (λ_ _=>rfl) (λx _=>zH2 (by omega) x),filter_eq_self.mpr λ_ _=>rfl]
 rw [e1,W_some,zB,W_some,zB,zB,W_some]
 refine wX (λi s=>s.xss = ((rng n).take i).map λx=>(rng n').map λy=>sgt m m' x y) rfl (λi x s hi hI=>?_) λs hI=>?_
 ·have e2:xN (λ(x9:List Str)=>some true) (λ(x9:List Str)=>yP (ssort (vO m x)) x9) ((rng n').map λy=>ssort (vO m' y)) = some ((rng n').map λy=>sgt m m' x y):=by
   unfold xN
   rw [if_pos (yS (by rw [length_map,wK]; omega))]
   have key:∀ l:LI,xV (λ(x9:List Str)=>some true) (λ(x9:List Str)=>yP (ssort (vO m x)) x9) (l.map λy=>ssort (vO m' y)) = some (l.map λy=>sgt m m' x y):=by
    intro l
    induction l with
    | nil=>rfl
    | cons y l ih =>
     show (yP (ssort (vO m x)) (ssort (vO m' y))).bind _ = _
     rw [w_sgt nd hm nd' hm' x y]
     show (xV _ _ _).bind _ = _
     rw [ih]
     rfl
   exact key _
  have il:=zZ hi
  rw [wK] at il
  rw [zB,zH2 (by omega) x,W_some,zB,zB,zB,W_some,e2,W_some]
  unfold zGv
  rw [if_pos (yS (by rw [hI,length_map,length_take]; omega)),W_some,W_some]
  show s.xss ++ _ = _
  rw [hI,take_add_one,hi,map_append]; rfl
 ·rw [take_length] at hI
  rw [W_some]
  obtain ⟨xs⟩:=s
  show Rws.mk xs = _
  rw [show xs = _ from hI]; rfl
theorem enumL_get' {α:Type} {xs:List α} {i:Nat} {x:α} (h:xs[i]? = some x):(uF xs)[i]? = some ((i:Int),x):=by
 have hi:=zZ h
 unfold uF
 rw [List.getElem?_zip_eq_some]
 exact ⟨by rw [getElem?_map,getElem?_range hi]; rfl,h⟩
theorem zP8 {α:Type} (xs:List α):((uF xs).map (·.1)).Nodup:=by
 have e:(uF xs).map (·.1) = (List.range xs.length).map Int.ofNat:=by
  unfold uF
  rw [List.map_fst_zip (by simp)]
 rw [e]
 exact pairwise_map.mpr (nodup_range.imp λq e=>q (Int.ofNat.inj e))
theorem zLk (g:Gr m n) (g':Gr m' n') (shp:Shp n n' T) (h:Ptg->Bool):W (xC (λ(s2:List (Int × Int)) (x4:Int × (List Ptg))=>(((some (uF x4.2)).bind λxs=>xN (λ(x6:Int × Ptg)=>some (h x6.2)) (λ(x6:Int × Ptg)=>some (x4.1,x6.1)) xs).bind λa7=>extG s2 a7).bind λpairs5=>some pairs5) (uF T) []) λQ=>Q.Nodup /\ ∀ x y,(x,y) ∈ Q ↔ InR n x /\ InR n' y /\ h (tgt T x y) = true:=by
 have p1:=g.few; have p1':=g'.few; have p0:=g.pos; have p0':=g'.pos
 have tl:=shp.len
 refine wX (λi s=>s.Nodup /\ ∀ x y,(x,y) ∈ s ↔ (0 <= x /\ x < (i:Int)) /\ InR n' y /\ h (tgt T x y) = true) ⟨.nil,λx y=>⟨λz=>(by cases z),λz=>by have:=z.1; omega⟩⟩ (λi x s hi hI=>?_) λs hI=>?_
 ·obtain ⟨k,r⟩:=x
  obtain ⟨e1,e2⟩:=zB3 hi
  have e1:k = (i:Int):=e1
  have e2:T[i]? = some r:=e2
  subst e1
  have il:=zZ e2
  have rl:(r.length:Int) = n':=shp.row _ _ e2
  rw [zB,zB,zB,W_some,zOn]
  refine ⟨yS (by rw [zD3]; show r.length <= 1000; omega),?_⟩
  have tg:∀ y,InR n' y->r[y.toNat]? = some (tgt T (i:Int) y):=λy hy=>by
   obtain ⟨r',q1,q2⟩:=zI4 shp (x:=(i:Int)) (y:=y) ⟨by omega,by omega⟩ hy
   rw [show ((i:Int)).toNat = i by omega,e2] at q1
   cases q1
   exact q2
  have me:∀ x y,(x,y) ∈ ((uF r).filter λx6=>h x6.2).map (λx6=>((i:Int),x6.1)) ↔ x = (i:Int) /\ InR n' y /\ h (tgt T x y) = true:=λx y=>by
   rw [mem_map]
   constructor
   ·rintro ⟨⟨b,v⟩,hq,e⟩
    rw [mem_filter] at hq
    obtain ⟨j,hj⟩:=mem_iff_getElem?.mp hq.1
    obtain ⟨f1,f2⟩:=zB3 hj
    have f1:b = (j:Int):=f1
    have f2:r[j]? = some v:=f2
    have jl:=zZ f2
    cases e
    have yi:InR n' b:=⟨by omega,by omega⟩
    have:=tg b yi
    rw [show b.toNat = j by omega,f2] at this
    refine ⟨rfl,yi,?_⟩
    rw [<- Option.some.inj this]
    exact hq.2
   ·rintro ⟨rfl,hy,hh⟩
    refine ⟨(y,tgt T (i:Int) y),mem_filter.mpr ⟨?_,hh⟩,rfl⟩
    have:=enumL_get' (tg y hy)
    rw [show ((y.toNat:Nat):Int) = y by have:=hy.1; omega] at this
    exact mem_of_getElem? this
  have nn:(((uF r).filter λx6=>h x6.2).map (λx6=>((i:Int),x6.1))).Nodup:=by
   have z:=((zP8 r).sublist (Sublist.map (·.1) (List.filter_sublist (p:=λx6=>h x6.2) (l:=uF r))))
   rw [Nodup,pairwise_map] at z ⊢
   exact z.imp λq e=>q (congrArg Prod.snd e)
  generalize ((uF r).filter λx6=>h x6.2).map (λx6=>((i:Int),x6.1)) = E at me nn
  have nd2:(s ++ E).Nodup:=by
   rw [nodup_append]
   refine ⟨hI.1,nn,λa ha b hb e=>?_⟩
   subst e
   have:=((hI.2 a.1 a.2).mp ha).1.2
   have:=((me a.1 a.2).mp hb).1
   omega
  have mm:∀ x y,(x,y) ∈ s ++ E ↔ (0 <= x /\ x < ((i + 1:Nat):Int)) /\ InR n' y /\ h (tgt T x y) = true:=λx y=>by
   rw [mem_append,hI.2 x y,me x y]
   constructor
   ·rintro (⟨a,b⟩ | ⟨a,b⟩)
    ·exact ⟨by omega,b⟩
    ·exact ⟨by omega,b⟩
   ·rintro ⟨a,b⟩
    by_cases z:x = (i:Int)
    ·exact .inr ⟨z,b⟩
    ·exact .inl ⟨by omega,b⟩
  have ql:=q_len (n:=n) (n':=n') nd2 (λp hp=>by
   have:=(mm p.1 p.2).mp hp
   exact ⟨⟨this.1.1,by have:=this.1.2; omega⟩,this.2.1⟩) p1 p1'
  rw [length_append] at ql
  show W (extG s E) _
  unfold extG
  rw [if_pos (Nat.lt_of_le_of_lt ql (by decide)),W_some,W_some]
  exact ⟨nd2,mm⟩
 ·rw [zD3] at hI
  refine ⟨hI.1,λx y=>?_⟩
  rw [hI.2 x y,tl]
theorem zQf (g:Gr m n) (g':Gr m' n'):W (wG (sgts m m' n n')) λQ=>BQ m m' n n' (sgts m m' n n') Q /\ ∀ q ∈ Q,rk (sgts m m' n n') q = 0:=by
 have shp:=zO7 (m:=m) (m':=m') (n:=n) (n':=n') (by have:=g.pos; omega) (by have:=g'.pos; omega)
 unfold wG
 rw [zB,W_some,zB,zB,W_some]
 refine (zLk g g' shp λv=>v.isSome).imp λQ ⟨nd,me⟩=>?_
 rw [W_some]
 have r0:∀ q ∈ Q,rk (sgts m m' n n') q = 0:=λq hq=>by
  obtain ⟨hx,hy,hh⟩:=(me q.1 q.2).mp hq
  rw [zFk hx hy] at hh
  cases e:sgt m m' q.1 q.2 with
  | none=>rw [e] at hh; cases hh
  | some v =>
   rw [zGx (r:=v.1) (w:=v.2) (by rw [zFk hx hy,e])]
   exact (zQt (T:=[]) e).1
 refine ⟨⟨shp,λp hp=>?_,nd,λx y hx hy=>?_,λx y hx hy r w h=>?_,λi j p q _ hi hj=>?_⟩,r0⟩
 ·have:=(me p.1 p.2).mp hp
  exact ⟨this.1,this.2.1⟩
 ·rw [me x y]
  constructor
  ·rintro ⟨_,_,hh⟩ z
   rw [z] at hh; cases hh
  ·intro z
   refine ⟨hx,hy,?_⟩
   cases e:tgt (sgts m m' n n') x y with
   | none=>exact absurd e z
   | some v=>rfl
 ·rw [zFk hx hy] at h
  obtain ⟨e,z⟩:=zQt (T:=sgts m m' n n') h
  exact ⟨by omega,z⟩
 ·rw [r0 p (mem_of_getElem? hi),r0 q (mem_of_getElem? hj)]
  exact Int.le_refl _
end
section
variable {C:Addr} {m m':Mach C} {n n':Int} {T:List (List Ptg)} {Q:List (Int × Int)}
theorem zOr (g:Gr m n) (g':Gr m' n'):W (xY m m') λc=>CsOk m' n n' [] c:=by
 have p1:=g.few; have p1':=g'.few; have p0:=g.pos; have p0':=g'.pos
 unfold xY
 have e1:xN (λ(x2:Int)=>some true) (λ(x2:Int)=>(yX m' x2).bind λa4=>some (a4.length:Int)) (rng n') = some ((rng n').map λf=>((nxt m'.steps f).length:Int)):=by
  unfold xN
  rw [if_pos (yS (by rw [wK]; omega)),uY (p:=λ_=>true) (g:=λf=>((nxt m'.steps f).length:Int)) (λ_ _=>rfl) (λx hx=>?_),filter_eq_self.mpr λ_ _=>rfl]
  have:=mem_rng.mp hx
  rw [w_next g' this.1 this.2]
  show some ((zK0 (nxt m'.steps x)).length:Int) = _
  rw [(zEx _).length_eq]
 rw [zE9 g',zE9 g,zB,zB,W_some,e1,W_some,zB,W_some]
 unfold cpsM
 rw [if_pos (by rw [wK]; omega),W_some]
 refine ⟨by show ((replicate _ _).length:Int) = n; rw [length_replicate,wK]; omega,λi r hr=>?_,λx f hx hf=>?_⟩
 ·have:=List.eq_of_mem_replicate (mem_of_getElem? hr)
  rw [this,length_map,wK]; omega
 ·have:=hx.1; have:=hx.2; have:=hf.1; have:=hf.2
  unfold cnt
  rw [getD_eq_getElem?_getD,getElem?_replicate,if_pos (by rw [wK]; omega)]
  show ng ((rng n').map _) f.toNat = _
  unfold ng
  rw [getD_eq_getElem?_getD,getElem?_map,zCb (by omega)]
  show ((nxt m'.steps ((f.toNat:Nat):Int)).length:Int) = _
  rw [show ((f.toNat:Nat):Int) = f by omega]
  unfold lft
  rw [filter_eq_self.mpr λt _=>by simp]
theorem cs_at (cs:CsOk m' n n' P c) (hx:InR n x):∃ r,c.xss[x.toNat]? = some r /\ (r.length:Int) = n' /\ ∀ f,InR n' f->ng r f.toNat = lft m' P x f:=by
 have l:=cs.len
 have e:=List.getElem?_eq_getElem (show x.toNat < c.xss.length by have:=hx.1; have:=hx.2; omega)
 refine ⟨_,e,cs.row _ _ e,λf hf=>?_⟩
 have:=cs.at_ x f hx hf
 unfold cnt at this
 rw [getD_eq_getElem?_getD,e] at this
 exact this
theorem cs_put (g':Gr m' n') (cs:CsOk m' n n' P c) (hx:InR n x) (hn:(x,t) ∉ P) {r':LI} (er:c.xss[x.toNat]? = some r) (h:∀ f,InR n' f->ng r f.toNat = lft m' P x f) (hl:(r'.length:Int) = n') (h':∀ f,InR n' f->ng r' f.toNat = ng r f.toNat - if t ∈ nxt m'.steps f then 1 else 0):CsOk m' n n' (P ++ [(x,t)]) (zDj c x r'):=by
 have xl:=zZ er
 have x0:=hx.1
 refine ⟨by show ((c.xss.set _ _).length:Int) = n; rw [length_set]; exact cs.len,λi q hq=>?_,λx' f hx' hf=>?_⟩
 ·have hq:(c.xss.set x.toNat r')[i]? = some q:=hq
  by_cases e:x.toNat = i
  ·subst e
   rw [List.getElem?_set,if_pos rfl,if_pos xl] at hq
   rw [<- Option.some.inj hq]
   exact hl
  ·rw [List.getElem?_set,if_neg e] at hq
   exact cs.row i q hq
 ·rw [zJt g' hf hn]
  unfold cnt
  show ng ((c.xss.set x.toNat r').getD x'.toNat []) f.toNat = _
  rw [getD_eq_getElem?_getD,List.getElem?_set]
  by_cases q:x' = x
  ·subst q
   rw [if_pos rfl,if_pos xl]
   show ng r' f.toNat = _
   rw [h' f hf,h f hf]
   congr 1
   by_cases z:t ∈ nxt m'.steps f
   ·rw [if_pos z,if_pos ⟨rfl,z⟩]
   ·rw [if_neg z,if_neg λw=>z w.2]
  ·rw [if_neg (by have:=hx'.1; omega),if_neg λw=>q w.1,Int.sub_zero,<- getD_eq_getElem?_getD]
   exact cs.at_ x' f hx' hf
structure FlOk (m m':Mach C) (n n':Int) (T:List (List Ptg)):Prop where
 shp:Shp n n' T
 rs:∀ x y,InR n x->InR n' y->∀ r w,tgt T x y = some (r,w)->0 <= r /\ RsOk m m' T x y r w
 clo:∀ x f,InR n x->InR n' f->(∀ t ∈ nxt m'.steps f,tgt T x t ≠ none)->∀ s,InR n s->x ∈ nxt m.steps s->tgt T s f ≠ none
 sgt:∀ x y,InR n x->InR n' y->sgt m m' x y ≠ none->tgt T x y ≠ none
theorem zKc (g:Gr m n) (g':Gr m' n') (nd:(m.marks.map (·.1)).Nodup) (hm:m.marks.length < 32) (nd':(m'.marks.map (·.1)).Nodup) (hm':m'.marks.length < 32):W (wZ m m') (FlOk m m' n n'):=by
 have h60:=g.few; have h60':=g'.few
 unfold wZ
 rw [zOp g g' nd hm nd' hm',zB,W_some,zB]
 refine (zOr g g').imp λc0 cs0=>?_
 rw [zB]
 refine (zQf g g').imp λQ0 ⟨bq0,r0⟩=>?_
 rw [zB,W_some,zB]
 refine W_while (λs=>∃ k:Nat,s.2.2.2 = (k:Int) /\ Kv m m' n n' s.1.xss s.2.1 s.2.2.1 k /\ Ext n n' (sgts m m' n n') s.1.xss) (λs=>3600 - s.2.2.2.toNat) ⟨0,rfl,⟨bq0,Nat.zero_le _,cs0,λp hp q hq=>?_,λx f hx hf hh s hs hxs=>?_⟩,.refl⟩ (by show _ < fuel; unfold fuel; omega) λs hI=>?_
 ·rw [r0 q hq,r0 p (mem_of_getElem? hp)]; decide
 ·obtain ⟨t,ht⟩:=List.exists_mem_of_ne_nil _ (g'.row _ (mem_of_getElem? (zC5 g' hf.1 hf.2).1)).1
  have:=hh t ht
  cases this
 ·obtain ⟨⟨T⟩,Q,c,pl⟩:=s
  obtain ⟨k,ek,kv,ex0⟩:=hI
  have ek:pl = (k:Int):=ek
  subst ek
  have kv:Kv m m' n n' T Q c k:=kv
  have ex0:Ext n n' (sgts m m' n n') T:=ex0
  rw [W_some]
  by_cases kl:k < Q.length
  ·rw [if_pos (decide_eq_true (by show (k:Int) < (Q.length:Int); omega))]
   have eq:=List.getElem?_eq_getElem kl
   generalize Q[k] = p at eq
   obtain ⟨x,t⟩:=p
   have pin:=kv.bq.qin (x,t) (mem_of_getElem? eq)
   have hx:InR n x:=pin.1
   have ht:InR n' t:=pin.2
   have tne:=(kv.bq.mem x t hx ht).mp (mem_of_getElem? eq)
   have hv:∃ v,tgt T x t = some v:=by
    cases e:tgt T x t with
    | none=>exact absurd e tne
    | some v=>exact ⟨v,rfl⟩
   obtain ⟨⟨r,w⟩,hv⟩:=hv
   have rkp:rk T (x,t) = r:=zGx (p:=(x,t)) hv
   have r0:=(kv.bq.rs x t hx ht r w hv).1
   have tk:Q.take (k + 1) = Q.take k ++ [(x,t)]:=by rw [take_add_one,eq]; rfl
   have pn:(x,t) ∉ Q.take k:=λz=>by
    obtain ⟨j,hj⟩:=mem_iff_getElem?.mp z
    have jl:=zZ hj
    rw [length_take] at jl
    rw [getElem?_take_of_lt (by omega)] at hj
    have:=(List.getElem?_inj (by omega) kv.bq.nd).mp (hj.trans eq.symm)
    omega
   have rkl:∀ q ∈ Q.take (k + 1),rk T q <= r:=λq hq=>by
    obtain ⟨j,hj⟩:=mem_iff_getElem?.mp hq
    have jl:=zZ hj
    rw [length_take] at jl
    rw [getElem?_take_of_lt (by omega)] at hj
    rw [<- rkp]
    exact kv.bq.mono j k q (x,t) (by omega) hj eq
   obtain ⟨row,er,rl,rh⟩:=cs_at kv.cs hx
   have a1:atI Q (k:Int) = some (x,t):=by rw [wU (by omega)]; exact eq
   show W (((atI Q (k:Int)).bind _).bind _) _
   rw [a1,zB,zB,W_some,W_some,zB,zB,W_some,W_some,zB,zB,zB,zB]
   show W ((atI T x).bind λa12=>atI a12 t) _
   rw [zLi kv.bq.shp hx ht,W_some,hv,W_some,W_some,W_some,zB,zB]
   show W (zBv c x λrow=>yA row m' t) _
   unfold zBv
   rw [if_pos hx.1,er,zB,W_some]
   refine (w_left g' ht rl).imp λlr ⟨l1,l2,l3⟩=>?_
   obtain ⟨zs,row'⟩:=lr
   have l2:∀ f,InR n' f->ng row' f.toNat = ng row f.toNat - if t ∈ nxt m'.steps f then 1 else 0:=l2
   have l3:∀ f,f ∈ zs ↔ InR n' f /\ t ∈ nxt m'.steps f /\ ng row f.toNat = 1:=l3
   have cs2:=cs_put g' kv.cs hx pn er rh l1 l2
   rw [<- tk] at cs2
   have lz:∀ f,InR n' f->t ∈ nxt m'.steps f->(ng row f.toNat = 1 ↔ ∀ t' ∈ nxt m'.steps f,(x,t') ∈ Q.take (k + 1)):=λf hf hft=>by
    rw [<- zPt,tk,zJt g' hf pn,if_pos ⟨rfl,hft⟩,rh f hf]
    omega
   show W (xC _ zs (Rws.mk T,Q,zDj c x row')) _
   refine (w_outer g g' kv.bq hx (l:=r + 1) (λq hq=>by have:=kv.top (x,t) eq q hq; rw [rkp] at this; exact this) (by omega) (zs:=zs) (λf hf=>?_)).imp λs2 hs2=>?_
   ·obtain ⟨hf1,hf2,hf3⟩:=(l3 f).mp hf
    refine ⟨hf1,λt' ht'=>?_⟩
    have mem:=(lz f hf1 hf2).mp hf3 t' ht'
    have hq:=mem_of_mem_take mem
    have ti:=(zC5 g' hf1.1 hf1.2).2.1 t' ht'
    have ne:=(kv.bq.mem x t' hx ti).mp hq
    cases e:tgt T x t' with
    | none=>exact absurd e ne
    | some v =>
     refine ⟨v.1,v.2,rfl,?_⟩
     have:=rkl _ mem
     rw [zGx (p:=(x,t')) (r:=v.1) (w:=v.2) e] at this
     omega
   ·obtain ⟨⟨T2⟩,Q2,c2⟩:=s2
    obtain ⟨sp,ec,hd⟩:=hs2
    have ec:c2 = zDj c x row':=ec
    subst ec
    have sp:Stp m m' n n' T Q (r + 1) T2 Q2:=sp
    obtain ⟨E,eE⟩:=sp.app
    have q2l:=q_len sp.bq.nd sp.bq.qin h60 h60'
    have tk2:Q2.take (k + 1) = Q.take (k + 1):=by rw [eE,List.take_append_of_le_length (by omega)]
    have l12:Q.length <= Q2.length:=by rw [eE,length_append]; omega
    rw [zB,W_some,W_some]
    refine ⟨⟨k + 1,rfl,⟨sp.bq,by show k + 1 <= Q2.length; omega,by show CsOk m' n n' (Q2.take (k + 1)) _; rw [tk2]; exact cs2,λp hp q hq=>?_,λx' f hx' hf hh s hs hxs=>?_⟩,ex0.trans sp.ext⟩,?_⟩
    ·have e2:Q2[k]? = some (x,t):=by rw [eE,getElem?_append_left kl]; exact eq
     have rk2:rk T2 (x,t) = r:=zGx (p:=(x,t)) (sp.ext _ _ _ hx ht hv)
     have z1:=sp.top q hq
     have z2:=sp.bq.mono k (k + 1) (x,t) p (by omega) e2 hp
     rw [rk2] at z2
     show rk T2 q <= rk T2 p + 1
     omega
    ·have hh:∀ t' ∈ nxt m'.steps f,(x',t') ∈ Q.take (k + 1):=λt' ht'=>by rw [<- tk2]; exact hh t' ht'
     by_cases old:∀ t' ∈ nxt m'.steps f,(x',t') ∈ Q.take k
     ·exact zJx sp.ext hs hf (kv.clo x' f hx' hf old s hs hxs)
     ·have:∃ t',t' ∈ nxt m'.steps f /\ (x',t') ∉ Q.take k:=Classical.byContradiction λw=>old λt' ht'=>Classical.byContradiction λw'=>w ⟨t',ht',w'⟩
      obtain ⟨t',ht',nt⟩:=this
      have:=hh t' ht'
      rw [tk,mem_append,mem_singleton] at this
      have e:=this.elim (λz=>absurd z nt) id
      cases e
      exact hd f ((l3 f).mpr ⟨hf,ht',(lz f hf ht').mpr hh⟩) s hs hxs
    ·show 3600 - ((k:Int) + 1).toNat < 3600 - (k:Int).toNat
     omega
  ·rw [if_neg (by intro z; have:(k:Int) < (Q.length:Int):=of_decide_eq_true z; omega),W_some]
   have ekl:k = Q.length:=by have:=kv.kl; omega
   subst ekl
   refine ⟨kv.bq.shp,kv.bq.rs,λx f hx hf hh s hs hxs=>kv.clo x f hx hf (λt ht=>?_) s hs hxs,λx y hx hy h=>zJx ex0 hx hy (by rw [zFk hx hy]; exact h)⟩
   rw [take_length]
   exact (kv.bq.mem x t hx ((zC5 g' hf.1 hf.2).2.1 t ht)).mpr (hh t ht)
theorem zKb (g:Gr m n) (g':Gr m' n') (nd:(m.marks.map (·.1)).Nodup) (hm:m.marks.length < 32) (nd':(m'.marks.map (·.1)).Nodup) (hm':m'.marks.length < 32):∃ T Q,wZ m m' = some T /\ FlOk m m' n n' T /\ vW m m' = some Q /\ ∀ x y,(x,y) ∈ Q ↔ InR n x /\ InR n' y /\ tgt T x y = none:=by
 obtain ⟨T,e,ok⟩:=zKc g g' nd hm nd' hm'
 have z:W (vW m m') λQ=>∀ x y,(x,y) ∈ Q ↔ InR n x /\ InR n' y /\ tgt T x y = none:=by
  unfold vW
  rw [e,zB,W_some,zB,zB,zB,W_some,W_some]
  refine (zLk g g' ok.shp λv=>v.isNone).imp λQ ⟨_,me⟩=>?_
  rw [W_some]
  intro x y
  rw [me x y,Option.isNone_iff_eq_none]
 obtain ⟨Q,e2,h⟩:=z
 exact ⟨T,Q,e,ok,e2,h⟩
end
section
variable {n:Int} {maps:LI} {bases:Int}
theorem zI0 (h:MapOk n maps bases) (q:Scr):W (wN q maps bases) λR=>(R.xss.length:Int) = n /\ ∀ xs ∈ R.xss,xs ≠ [] /\ Un n xs:=by
 have hl:=h.len
 have hn:=h.few
 have hp:=h.pos
 have hb:=h.bn
 have hb1:=h.b1
 unfold wN
 rw [zB]
 refine (vT q (by decide)).imp λkept _=>?_
 rw [zB,W_some,zB,zB,vP]
 refine ⟨⟨by omega,by omega⟩,?_⟩
 have e:=zLj (f:=λb:Int=>(wL (maps.length:Int)).bind λxs=>xN (λ(x7:Int)=>(atI maps x7).bind λa8=>some (decide (a8 = b))) (λ(x7:Int)=>some x7) xs) (k:=plc maps n) (xs:=rng bases) (λb _=>w_plc h b) (by rw [wK]; omega)
 rw [e,W_some,zB,W_some,zB,zB,hl,vP]
 refine ⟨⟨by omega,by omega⟩,?_⟩
 refine wX (λi s=>s.xss.length = i /\ ∀ xs ∈ s.xss,xs ≠ [] /\ Un n xs) ⟨rfl,λx hx=>(by cases hx)⟩ (λi x s hi hI=>?_) λs hI=>?_
 ·obtain ⟨rfl,il⟩:=zDk hi
  obtain ⟨sl,sm⟩:=hI
  rw [zB,zB,zB,zB,zB,wU (by omega),Int.toNat_natCast,zMz (by omega),W_some,W_some,W_some,W_some]
  refine (zBn _ _).imp λrest _=>?_
  rw [zB]
  refine (zC7 rest (by omega) (by omega)).imp λgoals hg=>?_
  have key:W (if (decide ((goals.length:Int) = (0:Int))) = true then ((modM rest bases).bind λa23=>some (a23 :: ([]))).bind λgoals22=>some goals22 else some goals) λs=>Un bases s /\ s ≠ []:=by
   rw [zAp]
   refine ⟨λ_=>?_,λz=>?_⟩
   ·rw [zB,zB,wF]
    refine ⟨by omega,?_⟩
    rw [W_some,W_some]
    refine ⟨⟨by simp,λx hx=>?_⟩,by simp⟩
    rw [mem_singleton.mp hx]
    exact ⟨Int.emod_nonneg _ (by omega),Int.emod_lt_of_pos _ (by omega)⟩
   ·rw [W_some]
    refine ⟨hg,λe=>z (by rw [e]; rfl)⟩
  rw [zB]
  refine key.imp λs20 ⟨u,ne⟩=>?_
  rw [zB,W_some,zB,zB,W_some]
  refine (w_row h q (by omega) u ne).imp λrow ⟨rn,ru⟩=>?_
  rw [zB]
  unfold zFp
  rw [if_pos (yS (by omega)),W_some,W_some]
  refine ⟨by show (s.xss ++ [row]).length = _; rw [length_append,sl]; rfl,λxs hx=>?_⟩
  rcases mem_append.mp (show xs ∈ s.xss ++ [row] from hx) with z | z
  ·exact sm xs z
  ·rw [mem_singleton.mp z]; exact ⟨rn,ru⟩
 ·obtain ⟨sl,sm⟩:=hI
  rw [wK] at sl
  rw [zB,zB,zB]
  refine (vT q (by decide)).imp λc3 _=>?_
  rw [W_some]
  refine (zBn _ _).imp λrest _=>?_
  have k0:=Int.emod_nonneg (rest / 3 / 64) (show n ≠ 0 by omega)
  have k1:=Int.emod_lt_of_pos (rest / 3 / 64) (show 0 < n by omega)
  have a0:=Int.emod_nonneg (rest / 3) (show n ≠ 0 by omega)
  have a1:=Int.emod_lt_of_pos (rest / 3) (show 0 < n by omega)
  have kl:(rest / 3 / 64 % n).toNat < s.xss.length:=by omega
  have ek:=List.getElem?_eq_getElem kl
  have rk:=sm _ (getElem_mem kl)
  generalize s.xss[(rest / 3 / 64 % n).toNat] = r at ek rk
  have key2:W (((modM rest (3:Int)).bind λa50=>some (decide (a50 = (0:Int)))).bind λc57=>if c57 = true then ((divM rest (3:Int)).bind λa54=>modM a54 n).bind λa55=>((((divM rest (3:Int)).bind λa51=>divM a51 (64:Int)).bind λa52=>modM a52 n).bind λb53=>atI s.xss b53).bind λb56=>some (!decide (a55 ∈ b56)) else some false) λb=>b = true->rest / 3 % n ∉ r:=by
   rw [zB,zB,wF]
   refine ⟨by decide,?_⟩
   rw [W_some,zAp]
   refine ⟨λ_=>?_,λ_=>W_some.mpr λz=>(by cases z)⟩
   rw [zB,zB,vK]
   refine ⟨⟨by decide,by decide⟩,?_⟩
   rw [wF]
   refine ⟨by omega,?_⟩
   rw [zB,zB,zB,zB,vK]
   refine ⟨⟨by decide,by decide⟩,?_⟩
   rw [vK]
   refine ⟨⟨by decide,by decide⟩,?_⟩
   rw [wF]
   refine ⟨by omega,?_⟩
   rw [wU k0,ek,W_some,W_some]
   intro z
   simpa using z
  rw [zB,zB]
  refine key2.imp λb hb=>?_
  rw [zAp]
  refine ⟨λe=>?_,λ_=>by rw [W_some,W_some]; exact ⟨by show (s.xss.length:Int) = n; omega,sm⟩⟩
  have ar:=hb e
  rw [zB,zB,zB,zB,vK]
  refine ⟨⟨by decide,by decide⟩,?_⟩
  rw [vK]
  refine ⟨⟨by decide,by decide⟩,?_⟩
  rw [wF]
  refine ⟨by omega,?_⟩
  rw [zB,zB,vK]
  refine ⟨⟨by decide,by decide⟩,?_⟩
  rw [wF]
  refine ⟨by omega,?_⟩
  unfold zGw
  have rl:=zDd rk.2 (by omega)
  rw [if_pos k0,ek]
  show W (if r.length < cap then _ else _) _
  rw [if_pos (yS (by omega)),W_some,W_some,W_some]
  refine ⟨by show ((s.xss.set _ _).length:Int) = n; rw [length_set]; omega,λxs hx=>?_⟩
  rcases List.mem_or_eq_of_mem_set (show xs ∈ s.xss.set _ _ from hx) with z | z
  ·exact sm xs z
  ·rw [z]
   exact ⟨by simp,zDc rk.2 a0 a1 ar⟩
theorem w_lsets (h:MapOk n maps bases) (c:Int) (k0:0 <= k) (k1:k <= 100):W (vZ c k maps bases) (Un n):=by
 have hl:=h.len
 have hn:=h.few
 have hp:=h.pos
 have hb:=h.bn
 have hb1:=h.b1
 unfold vZ
 rw [zB,zB,zB,zB]
 refine (zBn _ _).imp λz _=>?_
 rw [vK]
 refine ⟨⟨by omega,by omega⟩,?_⟩
 rw [W_some]
 refine (zC7 _ (by show (0:Int) <= bases; omega) (by show bases <= 60; omega)).imp λgoals hg=>?_
 have ef:((wL (maps.length:Int)).bind λxs=>xN (λ(x6:Int)=>(atI maps x6).bind λa7=>some (decide (a7 ∈ goals))) (λ(x6:Int)=>some x6) xs) = some ((rng n).filter λx=>decide (ng maps x.toNat ∈ goals)):=by
  apply W_eq
  rw [zB,vP,hl]
  refine ⟨⟨by omega,by omega⟩,?_⟩
  unfold xN
  rw [if_pos (yS (by rw [wK]; omega)),uY (p:=λx=>decide (ng maps x.toNat ∈ goals)) (g:=λx=>x) (λx hx=>?_) (λ_ _=>rfl),W_some,map_id']
  obtain ⟨x0,x1⟩:=mem_rng.mp hx
  rw [wU x0,zMz (by omega)]; rfl
 have rf:Rise n ((rng n).filter λx=>decide (ng maps x.toNat ∈ goals)):=zH6 _ (zPc n)
 rw [zB,ef,W_some]
 generalize ((rng n).filter λx=>decide (ng maps x.toNat ∈ goals)) = found at rf
 have uf:Un n found:=⟨rf.nodup,rf.2⟩
 have key:W ((((divM c (7:Int)).bind λa8=>modM a8 (2:Int)).bind λa9=>some (decide (a9 = (1:Int)))).bind λb=>if b = true then (some found.reverse).bind λfound12=>some found12 else some found) (Un n):=by
  rw [zB,zB,zB,vK]
  refine ⟨⟨by decide,by decide⟩,?_⟩
  rw [wF]
  refine ⟨by decide,?_⟩
  rw [W_some,zAp]
  refine ⟨λ_=>?_,λ_=>W_some.mpr uf⟩
  rw [zB,W_some,W_some]
  exact ⟨zGy uf.1,λx hx=>uf.2 x (mem_reverse.mp hx)⟩
 rw [zB]
 refine key.imp λs10 us=>?_
 have sl:=zDd us (by omega)
 have key2:W (((((divM c (14:Int)).bind λa13=>modM a13 (5:Int)).bind λa14=>(modM k (9:Int)).bind λb15=>some (decide (a14 = b15))).bind λc16=>if c16 = true then some (decide ((1:Int) < (maps.length:Int))) else some false).bind λb=>if b = true then ((divM c (70:Int)).bind λa20=>modM a20 (maps.length:Int)).bind λstand19=>(if (!decide (stand19 ∈ s10)) = true then (push s10 stand19).bind λfound23=>some found23 else some s10).bind λs21=>some s21 else some s10) (Un n):=by
  rw [zB,zB,zB,zB,vK]
  refine ⟨⟨by decide,by decide⟩,?_⟩
  rw [wF]
  refine ⟨by decide,?_⟩
  rw [zB,wF]
  refine ⟨by decide,?_⟩
  rw [W_some]
  refine (show W (if decide (c / 14 % 5 = k % 9) = true then some (decide ((1:Int) < (maps.length:Int))) else some false) (λ_=>True) by rw [zAp]; exact ⟨λ_=>W_some.mpr trivial,λ_=>W_some.mpr trivial⟩).imp λb _=>?_
  rw [zAp]
  refine ⟨λ_=>?_,λ_=>W_some.mpr us⟩
  rw [zB,zB,vK]
  refine ⟨⟨by decide,by decide⟩,?_⟩
  rw [wF]
  refine ⟨by omega,?_⟩
  rw [hl,zB,zAp]
  refine ⟨λz=>?_,λ_=>by rw [W_some,W_some]; exact us⟩
  rw [zB,zAl]
  refine ⟨yS (by omega),?_⟩
  rw [W_some,W_some]
  exact zDc us (Int.emod_nonneg _ (by omega)) (Int.emod_lt_of_pos _ (by omega)) (by simpa using z)
 rw [zB]
 refine key2.imp λs17 u17=>?_
 rw [W_some]
 exact u17
end
structure MkN (e:Bool) (t:List Nat) (r n:Int) (ks:List Nat) (ms:List (Str × LI)):Prop where
 nm:ms.map (·.1) = ks.map λk:Nat=>nmS (nmK e t r (k:Int))
 st:∀ p ∈ ms,Un n p.2
section
variable {e:Bool} {t:List Nat} {r n:Int} {ks:List Nat} {ms:List (Str × LI)}
theorem MkN.len (h:MkN e t r n ks ms):ms.length = ks.length:=by have:=congrArg length h.nm; rw [length_map,length_map] at this; exact this
theorem MkN.snoc (h:MkN e t r n ks ms) (k:Nat) (u:Un n s):MkN e t r n (ks ++ [k]) (ms ++ [(nmS (nmK e t r (k:Int)),s)]):=⟨by rw [map_append,map_append,h.nm]; rfl,λp hp=>by
 rcases mem_append.mp hp with z | z
 ·exact h.st p z
 ·rw [mem_singleton.mp z]; exact u⟩
theorem MkN.rev (h:MkN e t r n ks ms):MkN e t r n ks.reverse ms.reverse:=⟨by rw [List.map_reverse,List.map_reverse,h.nm],λp hp=>h.st p (mem_reverse.mp hp)⟩
theorem MkN.ok (h:MkN e t r n ks ms) (h0:0 <= n) (h1:n <= 60) (t7:t.length <= 7) (tl:Lett t) (nd:ks.Nodup) (lt:∀ k ∈ ks,k < 26) (hl:ks.length <= 6):zCw n ms /\ ms.length < 32:=by
 have ml:=h.len
 refine ⟨⟨?_,by omega,λp hp=>?_⟩,by omega⟩
 ·rw [h.nm,Nodup,pairwise_map]
  exact (Pairwise.imp_of_mem (λ{a b} ha hb q z=>q (nmK_ne (lt a ha) (lt b hb) (zMx z))) nd)
 ·have hm:p.1 ∈ ms.map (·.1):=mem_map.mpr ⟨p,hp,rfl⟩
  rw [h.nm] at hm
  obtain ⟨k,_,e1⟩:=mem_map.mp hm
  rw [<- e1]
  have l8:=(zMy (e:=e) (r:=r) (k:=(k:Int)) t7).2
  exact ⟨zPm t7 tl,by rw [zFy]; omega,zLo (h.st p hp) h0 h1⟩
end
theorem zIz (h:MapOk n maps bases) (q:Scr) (e5:zU q 5 = some c5) (nm:∀ k:Int,0 <= k->xK c5 k = some (nmS (nmK e t r k))):W (wB q maps bases) λms=>∃ k,k <= 3 /\ MkN e t r n (List.range k) ms:=by
 unfold wB
 obtain ⟨c4,e4,_⟩:=vT q (k:=4) (by decide)
 have m0:=Int.emod_nonneg c4 (show (4:Int) ≠ 0 by decide)
 have m1:=Int.emod_lt_of_pos c4 (show (0:Int) < 4 by decide)
 rw [e4,e5,zB,W_some,zB,zB,zB,zB,W_some,wF]
 refine ⟨by decide,?_⟩
 rw [vP]
 refine ⟨⟨by omega,by omega⟩,?_⟩
 refine wX (λi s=>MkN e t r n (List.range i) s) ⟨rfl,λp hp=>(by cases hp)⟩ (λi x s hi hI=>?_) λms hI=>?_
 ·obtain ⟨rfl,il⟩:=zDk hi
  have sl:=hI.len
  rw [length_range] at sl
  rw [zB,zB,zB,zB,zB,W_some,W_some]
  show W (xK c5 (i:Int)) _
  rw [nm (i:Int) (by omega),W_some,zB,zB,zB,W_some,W_some]
  refine (w_lsets h c4 (k:=(i:Int)) (by omega) (by omega)).imp λst us=>?_
  rw [W_some,zAl]
  refine ⟨yS (by omega),?_⟩
  rw [W_some,range_succ]
  exact hI.snoc i us
 ·rw [wK] at hI
  rw [W_some]
  exact ⟨_,by omega,hI⟩
structure PrtOk (n:Int) (T:List LI × List (Str × LI)):Prop where
 len:(T.1.length:Int) = n
 pos:1 <= n
 few:n <= 60
 row:∀ xs ∈ T.1,xs ≠ [] /\ zHx n xs
 marks:zCw n T.2
 mfew:T.2.length < 32
theorem w_or {w a b:Int}:(if decide (w = a) = true then some true else some (decide (w = b))) = some (decide (w = a \/ w = b)):=by
 by_cases h:w = a
 ·rw [if_pos (decide_eq_true h),decide_eq_true (.inl h)]
 ·rw [if_neg λz=>h (of_decide_eq_true z)]
  congr 1
  exact decide_eq_decide.mpr ⟨.inr,λz=>z.elim (λz=>absurd z h) id⟩
theorem zOo {α:Type} {xs ys:List α} {Q:List α->Prop} (h:xs.length + ys.length <= 1000) (q:Q (xs ++ ys)):W (catM xs ys) Q:=by
 unfold catM
 rw [if_pos (Nat.le_of_lt (yS h)),W_some]
 exact q
theorem cutL_le {α:Type} (xs:List α) (lo hi:Option Int):(cutL xs lo hi).length <= xs.length:=by
 unfold cutL
 rw [length_take,length_drop]
 omega
structure MapOk' (n:Int) (maps:LI) (bases:Int):Prop where
 len:(maps.length:Int) = n
 at_:∀ i:Nat,(i:Int) < n->0 <= ng maps i /\ ng maps i < bases
 self:∀ i:Nat,(i:Int) < bases->ng maps i = i
theorem w_two (q:Scr) (h63:q.ns.length <= 63):W (vV q) λv=>(∃ n,PrtOk n v.1) /\ ∃ n,PrtOk n v.2:=by
 unfold vV
 obtain ⟨c5,e5,_⟩:=vT q (k:=5) (by decide)
 obtain ⟨c26,e26,_⟩:=vT q (k:=26) (by decide)
 obtain ⟨c27,e27,_⟩:=vT q (k:=27) (by decide)
 obtain ⟨e,t,r,t7,tl,nm⟩:=w_name c5
 rw [zB]
 refine (w_maps q).imp λv ⟨n,h,n20⟩=>?_
 obtain ⟨maps,bases⟩:=v
 have h:MapOk n maps bases:=h
 have hn:=h.few
 have hp:=h.pos
 have hb:=h.bn
 have hb1:=h.b1
 rw [zB,zB,zB]
 refine (zI0 h q).imp λR ⟨sl,sm⟩=>?_
 rw [W_some,zB]
 refine (zIz h q e5 nm).imp λms ⟨k,k3,hm⟩=>?_
 rw [W_some,e26,e27,e5,zB,zB,zB,W_some,W_some]
 refine (zBn _ _).imp λrest _=>?_
 show W ((lrM bases).bind _) _
 rw [w_lr (by omega) (by omega),zB,W_some,zB,zB,zB,wF]
 refine ⟨by decide,?_⟩
 have a0:=Int.emod_nonneg rest (show (4:Int) ≠ 0 by decide)
 have a1:=Int.emod_lt_of_pos rest (show (0:Int) < 4 by decide)
 rw [vP]
 refine ⟨⟨by omega,by omega⟩,?_⟩
 refine wX (λi s=>MapOk' (bases + (i:Int)) s bases) ⟨by rw [wK]; omega,λj hj=>?_,λj hj=>?_⟩ (λi x s hi hI=>?_) λs11 hI=>?_
 ·unfold ng
  rw [getD_eq_getElem?_getD,zCb (by omega)]
  show 0 <= (j:Int) /\ (j:Int) < bases
  omega
 ·unfold ng
  rw [getD_eq_getElem?_getD,zCb (by omega)]; rfl
 ·obtain ⟨rfl,il⟩:=zDk hi
  have sl:=hI.len
  rw [zB,zB,zB,vK]
  refine ⟨⟨by omega,by omega⟩,?_⟩
  rw [wF]
  refine ⟨by omega,?_⟩
  have z0:=Int.emod_nonneg (rest / ((4:Int) + i)) (show bases ≠ 0 by omega)
  have z1:=Int.emod_lt_of_pos (rest / ((4:Int) + i)) (show 0 < bases by omega)
  rw [zAl]
  refine ⟨yS (by omega),?_⟩
  rw [W_some]
  refine ⟨by rw [length_append,length_singleton]; omega,λj hj=>?_,λj hj=>?_⟩
  ·rw [zJr]
   by_cases e:j < s.length
   ·rw [if_pos e]; exact hI.at_ j (by omega)
   ·rw [if_neg e,if_pos (by omega)]; exact ⟨z0,z1⟩
  ·rw [zJr,if_pos (by omega)]; exact hI.self j hj
 ·rw [wK] at hI
  have h2:MapOk (bases + ((rest % 4).toNat:Int)) s11 bases:=⟨hI.len,by omega,by omega,hb1,by omega,hI.at_,hI.self⟩
  generalize hn2:bases + ((rest % 4).toNat:Int) = n2 at h2
  have p2:=h2.pos
  have f2:=h2.few
  have l2:=h2.len
  rw [zB,zB,zB,zB,zB,W_some,W_some]
  have cl:=λ(lo hi:Option Int)=>cutL_le q.ns lo hi
  refine zOo (by have:=cl none (some 3); rw [length_singleton]; omega) ?_
  refine zOo (by rw [length_append,length_singleton]; have:=cl none (some 3); have:=cl (some 4) (some 6); omega) ?_
  refine zOo (by rw [length_append,length_append,length_singleton]; have:=cl none (some 3); have:=cl (some 4) (some 6); have:=cl (some 28) none; omega) ?_
  rw [zB]
  refine (zI0 h2 _).imp λR2 ⟨sl2,sm2⟩=>?_
  rw [zB,zB,zB,zB,vK]
  refine ⟨⟨by decide,by decide⟩,?_⟩
  rw [wF]
  refine ⟨by decide,?_⟩
  have d0:=Int.emod_nonneg (rest / 100) (show (4:Int) ≠ 0 by decide)
  have d1:=Int.emod_lt_of_pos (rest / 100) (show (0:Int) < 4 by decide)
  rw [vP]
  refine ⟨⟨by omega,by omega⟩,?_⟩
  refine wX (λ_ s=>(s.xss.length:Int) = n2 /\ ∀ xs ∈ s.xss,xs ≠ [] /\ Un n2 xs) ⟨sl2,sm2⟩ (λi x s hi hI=>?_) λs24 hI=>?_
  ·obtain ⟨rfl,il⟩:=zDk hi
   obtain ⟨xss⟩:=s
   obtain ⟨ql,qm⟩:=hI
   have ql:(xss.length:Int) = n2:=ql
   have qm:∀ xs ∈ xss,xs ≠ [] /\ Un n2 xs:=qm
   rw [zB,zB,zB,W_some,W_some]
   refine (zBn _ _).imp λmore _=>?_
   have k0:=Int.emod_nonneg (more / 64) (show n2 ≠ 0 by omega)
   have k1:=Int.emod_lt_of_pos (more / 64) (show 0 < n2 by omega)
   have b0:=Int.emod_nonneg more (show n2 ≠ 0 by omega)
   have b1:=Int.emod_lt_of_pos more (show 0 < n2 by omega)
   have kl:(more / 64 % n2).toNat < xss.length:=by omega
   have ek:=List.getElem?_eq_getElem kl
   have rk:=qm _ (getElem_mem kl)
   generalize xss[(more / 64 % n2).toNat] = rw0 at ek rk
   have rl:=zDd rk.2 (by omega)
   rw [l2,zB,zB,zB,wF]
   refine ⟨by omega,?_⟩
   rw [zB,zB,zB,vK]
   refine ⟨⟨by decide,by decide⟩,?_⟩
   rw [wF]
   refine ⟨by omega,?_⟩
   show W (atI xss _) _
   rw [wU k0,ek,W_some,W_some,zAp]
   refine ⟨λz=>?_,λ_=>by rw [W_some,W_some]; exact ⟨ql,qm⟩⟩
   have z:more % n2 ∉ rw0:=by simpa using z
   rw [zB,zB,zB,vK]
   refine ⟨⟨by decide,by decide⟩,?_⟩
   rw [wF]
   refine ⟨by omega,?_⟩
   rw [zB,wF]
   refine ⟨by omega,?_⟩
   unfold zGu
   rw [if_pos k0]
   show W ((xss[(more / 64 % n2).toNat]?).bind _) _
   rw [ek,zB,W_some,if_pos (yS (by omega)),W_some,W_some,W_some]
   refine ⟨by show ((xss.set _ _).length:Int) = n2; rw [length_set]; exact ql,λxs hx=>?_⟩
   rcases List.mem_or_eq_of_mem_set (show xs ∈ xss.set _ _ from hx) with y | y
   ·exact qm xs y
   ·rw [y]
    exact ⟨by simp,zDc rk.2 b0 b1 z⟩
  ·obtain ⟨ql,qm⟩:=hI
   rw [zB]
   refine (zIz h2 q e5 nm).imp λms2 ⟨k',k3',hm2⟩=>?_
   rw [zB,zB,zB,W_some,W_some]
   show W (xK c5 4) _
   rw [nm 4 (by decide),W_some,zB,zB,vK]
   refine ⟨⟨by decide,by decide⟩,?_⟩
   rw [wF]
   refine ⟨by decide,?_⟩
   generalize rest / 1000 % 6 = way
   have m2l:=hm2.len
   rw [length_range] at m2l
   have ml:=hm.len
   rw [length_range] at ml
   have nd4:∀ {j:Nat},j <= 3->(List.range j ++ [4]).Nodup:=λ{j} hj=>by
    rw [nodup_append]
    refine ⟨nodup_range,by simp,λa ha b hb e=>?_⟩
    have:=mem_range.mp ha
    have:=mem_singleton.mp hb
    omega
   have lt4:∀ {j:Nat},j <= 3->∀ x ∈ List.range j ++ [4],x < 26:=λ{j} hj x hx=>by
    rcases mem_append.mp hx with z | z
    ·have:=mem_range.mp z; omega
    ·have:=mem_singleton.mp z; omega
   have lt3:∀ {j:Nat},j <= 3->∀ x ∈ List.range j,x < 26:=λ{j} hj x hx=>by have:=mem_range.mp hx; omega
   have key1:W (if (decide (way = (0:Int))) = true then (push ms2 ((nmS (nmK e t r 4),([]:LI)))).bind λmarks49=>(some marks49.reverse).bind λmarks50=>some marks50 else some ms2) λs47=>∃ ks,MkN e t r n2 ks s47 /\ ks.Nodup /\ (∀ x ∈ ks,x < 26) /\ ks.length <= 4 /\ (way ≠ 0->ks = List.range k'):=by
    rw [zAp]
    refine ⟨λz=>?_,λz=>?_⟩
    ·rw [zB,zAl]
     refine ⟨yS (by omega),?_⟩
     rw [zB,W_some,W_some]
     exact ⟨_,(hm2.snoc 4 ⟨.nil,λx hx=>(by cases hx)⟩).rev,List.pairwise_reverse.mpr ((nd4 k3').imp λq e=>q e.symm),λx hx=>lt4 k3' x (mem_reverse.mp hx),by rw [List.length_reverse,length_append,length_range,length_singleton]; omega,λw=>absurd (of_decide_eq_true z) w⟩
    ·rw [W_some]
     exact ⟨_,hm2,nodup_range,lt3 k3',by rw [length_range]; omega,λ_=>rfl⟩
   rw [zB]
   refine key1.imp λs47 ⟨ks,mk,nd,lt,kl,kw⟩=>?_
   have key2:W ((if (decide (way = (1:Int))) = true then some true else some (decide (way = (2:Int)))).bind λb=>if b = true then (((((divM rest (6000:Int)).bind λa55=>some ((a55,((s11.length:Int),())))).bind λz54=>yY z54.1 z54.2.1).bind λb56=>some (nmS (nmK e t r 4),b56)).bind λa57=>push s47 a57).bind λmarks53=>some marks53 else some s47) λs51=>zCw n2 s51 /\ s51.length < 32:=by
    rw [w_or,zB,W_some,zAp]
    refine ⟨λz=>?_,λz=>?_⟩
    ·have z:=of_decide_eq_true z
     have ek:=kw (by omega)
     subst ek
     have ml:=mk.len
     rw [length_range] at ml
     rw [zB,zB,zB,zB,zB,vK]
     refine ⟨⟨by decide,by decide⟩,?_⟩
     rw [W_some,l2]
     refine (zC7 _ (by show 0 <= n2; omega) (by show n2 <= 60; omega)).imp λs us=>?_
     rw [W_some,zAl]
     refine ⟨yS (by omega),?_⟩
     rw [W_some]
     exact (mk.snoc 4 us).ok (by omega) (by omega) t7 tl (nd4 k3') (lt4 k3') (by rw [length_append,length_range,length_singleton]; omega)
    ·rw [W_some]
     exact mk.ok (by omega) (by omega) t7 tl nd lt (by omega)
   rw [zB]
   refine key2.imp λs51 ⟨m51,l51⟩=>?_
   have key3:W ((if (decide (way = (2:Int))) = true then some true else some (decide (way = (3:Int)))).bind λb=>if b = true then (((((divM rest (7000:Int)).bind λa62=>some ((a62,((((R.xss,ms).1).length:Int),())))).bind λz61=>yY z61.1 z61.2.1).bind λb63=>some (nmS (nmK e t r 4),b63)).bind λa64=>if ms.length < cap then some (TpL.mk R.xss (ms ++ [a64])) else none).bind λu60=>some u60 else some (TpL.mk R.xss ms)) λs58=>s58.a = R.xss /\ zCw n s58.b /\ s58.b.length < 32:=by
    rw [w_or,zB,W_some,zAp]
    refine ⟨λz=>?_,λz=>?_⟩
    ·rw [zB,zB,zB,zB,zB,vK]
     refine ⟨⟨by decide,by decide⟩,?_⟩
     rw [W_some]
     show W (yY (rest / 7000) (R.xss.length:Int)) _
     rw [sl]
     refine (zC7 _ (by omega) (by omega)).imp λs us=>?_
     rw [W_some,if_pos (yS (by omega)),W_some,W_some]
     exact ⟨rfl,(hm.snoc 4 us).ok (by omega) (by omega) t7 tl (nd4 k3) (lt4 k3) (by rw [length_append,length_range,length_singleton]; omega)⟩
    ·rw [W_some]
     exact ⟨rfl,hm.ok (by omega) (by omega) t7 tl nodup_range (lt3 k3) (by rw [length_range]; omega)⟩
   rw [zB]
   refine key3.imp λs58 ⟨ea,mb,lb⟩=>?_
   obtain ⟨sa,sb⟩:=s58
   have ea:sa = R.xss:=ea
   subst ea
   rw [W_some]
   exact ⟨⟨n,sl,hp,by omega,λxs hx=>⟨(sm xs hx).1,zLo (sm xs hx).2 (by omega) (by omega)⟩,mb,lb⟩,n2,ql,p2,by omega,λxs hx=>⟨(qm xs hx).1,zLo (qm xs hx).2 (by omega) (by omega)⟩,m51,l51⟩
section
variable {C:Addr} {m m':Mach C} {n n':Int} {F:List (List Ptg)} {T T':List LI × List (Str × LI)}
theorem inL_iff {α:Type} [DecidableEq α] {a:α} {bs:List α}:inL a bs = true ↔ a ∈ bs:=by unfold inL; exact decide_eq_true_iff
theorem zLl (h:PrtOk n T):W (xX C T (([]:List LI))) λm=>Gr m n /\ m.steps = T.1 /\ m.marks = T.2:=by
 have:=h.len
 have:=h.few
 unfold xX
 rw [zB,W_some,zB,zB,W_some,zOm (λx:Str × LI=>(x.1,x.2))]
 refine ⟨yS (by have:=h.mfew; omega),?_⟩
 rw [show T.2.map (λx:Str × LI=>(x.1,x.2)) = T.2 from map_id' _,zB,zB,W_some,zOm (λx:LI=>x)]
 refine ⟨yS (by omega),?_⟩
 rw [map_id',zB,zB,W_some,zOm (λx:LI=>x)]
 refine ⟨yS (by decide),?_⟩
 rw [map_id']
 exact (w_mkK C (mo:=some T.2) (fo:=some []) h.len h.pos h.few h.row h.marks ⟨by decide,λxs hx=>(by cases hx)⟩).imp λm ⟨a,b,c,_⟩=>⟨a,b,c⟩
theorem zI1 (e2:m.marks = T.2) (hm:m.marks.length < 32) (x:Int):zAu T x = some (ssort (vO m x)):=by
 have:=zH2 (m:=m) (by omega) x
 unfold yG at this
 rw [e2] at this
 exact this
theorem zOq (h:FlOk m m' n n' F):uT F n n' = some true:=by
 unfold uT
 apply W_eq
 rw [zB,if_neg (by decide),W_some,h.shp.len,if_neg (by simp),zB,zB,W_some]
 refine zGe (λ_ _=>True) trivial (λi r s hi _=>?_) λs _=>by rw [W_els,W_some]
 have rl:=h.shp.row i r hi
 have il:=zZ hi
 have fl:=h.shp.len
 rw [zB,if_neg (by decide),W_some,rl,if_neg (by simp),zB,zB,W_some]
 refine zGe (λ_ _=>True) trivial (λj o s hj _=>?_) λs _=>by rw [W_thn,W_some]; exact ⟨_,rfl,trivial⟩
 have jl:=zZ hj
 have po:tgt F (i:Int) (j:Int) = o:=by
  obtain ⟨r',q1,q2⟩:=zI4 h.shp (x:=(i:Int)) (y:=(j:Int)) ⟨by omega,by omega⟩ ⟨by omega,by omega⟩
  rw [Int.toNat_natCast,hi] at q1
  cases q1
  rw [Int.toNat_natCast,hj] at q2
  exact (Option.some.inj q2).symm
 cases o with
 | none =>
  rw [zB,if_neg (by decide),W_some,W_thn,W_some]
  exact ⟨_,rfl,trivial⟩
 | some q =>
  obtain ⟨p,w,k⟩:=q
  have p0:=(h.rs (i:Int) (j:Int) ⟨by omega,by omega⟩ ⟨by omega,by omega⟩ p (w,k) po).1
  refine ⟨Out.nx (),?_,(),rfl,trivial⟩
  rw [Option.isSome_some,if_pos rfl,if_neg (by decide)]
  show ((((if decide (p < (0:Int)) = true then (some false).bind λb=>some (.rt b) else some (.nx ())):Option (Out Unit Bool))).bind λo=>o.thn λs7=>some (.nx ())) = _
  rw [if_neg (by simp; omega)]
  rfl
theorem zQh {xs:LI} {f:Int->Option Bool} (hl:xs.length <= 1000) (h:∀ x ∈ xs,f x = some true):((xN (λ(_:Int)=>some true) f xs).bind λb=>some (!decide (false ∈ b))) = some true:=by
 have:xN (λ(_:Int)=>some true) f xs = some (xs.map λ_=>true):=by
  unfold xN
  rw [if_pos (yS hl),uY (p:=λ_=>true) (g:=λ_=>true) (λ_ _=>rfl) h,filter_eq_self.mpr λ_ _=>rfl]
 rw [this]
 show some (!decide (false ∈ xs.map λ_=>true)) = some true
 rw [decide_eq_false]
 ·rfl
 ·intro z
  obtain ⟨_,_,e⟩:=mem_map.mp z
  cases e
theorem w_holds (g:Gr m n) (g':Gr m' n') (e1:m.steps = T.1) (e2:m.marks = T.2) (hm:m.marks.length < 32) (e1':m'.steps = T'.1) (e2':m'.marks = T'.2) (hm':m'.marks.length < 32) (h:FlOk m m' n n' F) (hx:InR n x) (hy:InR n' y) (ht:tgt F x y = some (r,w)):zAv T T' F x y = some true:=by
 obtain ⟨sx,rx,lx⟩:=zC5 g hx.1 hx.2
 obtain ⟨sy,ry,ly⟩:=zC5 g' hy.1 hy.2
 have ax:atI T.1 x = some (nxt m.steps x):=by rw [wU hx.1,<- e1]; exact sx
 have ay:atI T'.1 y = some (nxt m'.steps y):=by rw [wU hy.1,<- e1']; exact sy
 have a0:((atI F x).bind λa2=>atI a2 y) = some (some (r,w)):=by rw [zLi h.shp hx hy,ht]
 unfold zAv
 apply W_eq
 rw [a0,zB,zB,W_some,W_some]
 rcases (h.rs x y hx hy r w ht).2 with ⟨_,nm,rfl,ne⟩ | ⟨s,rfl,hs,al⟩
 ·dsimp only [keyI,keyS]
  rw [if_pos (show decide (("mark":Str) = "mark") = true from decide_eq_true rfl),zI1 e2 hm x,zI1 e2' hm' y,zB,zB,W_some,zB,W_some,W_some,zB,zB,W_some,W_some,if_pos rfl,zB,zB,W_some,zB,W_some,W_some,W_some]
  rw [decide_eq_false λz=>ne ?_]
  ·rfl
  ·have:=decide_eq_decide.mp z
   rw [(ssort_perm _).mem_iff,(ssort_perm _).mem_iff] at this
   exact this
 ·dsimp only [keyI,keyS]
  have hsr:=rx s hs
  rw [if_neg (show ¬ decide (("step":Str) = "mark") = true by decide),zB,if_neg (show ¬ (!decide (("step":Str) = "step")) = true by decide),zB,zB,zB,zB,W_some,W_some]
  show W (uS s) _
  rw [show uS s = some true from rfl,W_some,W_some,if_neg (by decide),zB,W_some,zB,ax,W_some,W_some,if_neg (by simpa using hs),zB,zB,ay,W_some,<- zB]
  refine ⟨_,zQh (by omega) λt ht=>?_,rfl⟩
  obtain ⟨r',w',h1,h2⟩:=al t ht
  have:=zLi h.shp hsr (ry t ht)
  rw [h1] at this
  show ((((atI F s).bind λa23=>atI a23 t).bind λa25=>some ((a25,(r,())))).bind λz24=>wY z24.1 z24.2.1) = _
  rw [this]
  show wY (some (r',w')) r = some true
  unfold wY
  rw [Option.isSome_some,if_pos rfl]
  show some (decide (r' < r)) = some true
  rw [decide_eq_true h2]
theorem law_of (hT:vV scr = some (T,T')) (h:PrtOk n T) (h':PrtOk n' T'):W (zMn C scr) (· = true):=by
 unfold zMn
 rw [hT,zB,W_some,zB]
 show W (xX C T []) _
 refine (zLl (C:=C) h).imp λm ⟨g,e1,e2⟩=>?_
 rw [zB]
 show W (xX C T' []) _
 refine (zLl (C:=C) h').imp λm' ⟨g',e1',e2'⟩=>?_
 have p0:=g.pos; have p1:=g.few; have p0':=g'.pos; have p1':=g'.few
 have hm:m.marks.length < 32:=by rw [e2]; exact h.mfew
 have hm':m'.marks.length < 32:=by rw [e2']; exact h'.mfew
 obtain ⟨F,Q,ef,ok,eq,me⟩:=zKb g g' (by rw [e2]; exact h.marks.1) hm (by rw [e2']; exact h'.marks.1) hm'
 rw [eq,ef,zB,W_some,zB,W_some]
 dsimp only
 rw [h.len,h'.len,zOq ok,zB,zB,W_some,W_some,if_neg (by decide),zB,zB,vP]
 refine ⟨⟨by omega,by omega⟩,?_⟩
 refine zGe (λ_ _=>True) trivial (λi x s hi _=>?_) λs _=>?_
 ·have hx:InR n x:=mem_rng.mp (mem_of_getElem? hi)
  rw [zB,zB,vP]
  refine ⟨⟨by omega,by omega⟩,?_⟩
  refine zGe (λ_ _=>True) trivial (λj y s hj _=>?_) λs _=>by rw [W_thn,W_some]; exact ⟨_,rfl,trivial⟩
  have hy:InR n' y:=mem_rng.mp (mem_of_getElem? hj)
  have iff:(tgt F x y).isNone = inL (x,y) Q:=by
   rw [Bool.eq_iff_iff,Option.isNone_iff_eq_none,inL_iff,me x y]
   exact ⟨λz=>⟨hx,hy,z⟩,λz=>z.2.2⟩
  rw [zB,zB,zB,zLi ok.shp hx hy,W_some,W_some,W_some,iff,if_neg (by simp),zB,zB,zB,W_some,W_some]
  cases e:tgt F x y with
  | none =>
   rw [Option.isSome_none,if_neg (by decide),W_some,if_neg (by decide),W_some]
   exact ⟨_,rfl,trivial⟩
  | some q =>
   obtain ⟨p,w⟩:=q
   rw [Option.isSome_some,if_pos rfl,zB,w_holds g g' e1 e2 hm e1' e2' hm' ok hx hy e,W_some,W_some,if_neg (by decide),W_some]
   exact ⟨_,rfl,trivial⟩
 ·rw [W_els]
  show W (if decide (m.steps = T.1) = true then some (decide (m'.steps = T'.1)) else some false) _
  rw [if_pos (decide_eq_true e1),W_some,decide_eq_true e1']
end
theorem zPu (C:Addr) (scr:Scr) (h63:scr.ns.length <= 63):W (zMn C scr) (· = true):=by
 obtain ⟨⟨T,T'⟩,e,⟨n,h⟩,n',h'⟩:=w_two scr h63
 exact law_of e h h'
def spLaw (K:PySem.W.Frag):Sp:=λvs H Q _=>∃ (a:Addr) (ns:LI),vs = [.ref a] /\ SqL K H a (ns.map V.int) /\ ns.length <= 63 /\ ∀ H',Q (.bl true) H'
section
variable {P:Program} {w:World} {K:PySem.W.Frag} {mg:Str->Option Value} {base h:Heap} {j k:Nat} {f C:Addr} {fd:FuncData} {ps:List Str} {sp:Sp} {x y:Str} {st:Stmt}
abbrev FP (K:PySem.W.Frag) (x:Str) (st:Stmt):Prop:=∃ f fd,nsIn K mainGlobals x = some (some (.ref f)) /\ Fun K x x st f fd
abbrev MP (K:PySem.W.Frag) (C:Addr) (x y:Str) (st:Stmt):Prop:=∃ f fd,Meth K C x f /\ Fun K x y st f fd
def nbAll (K:PySem.W.Frag):List Str->Prop
 | []=>True
 | x :: r=>nsIn K mainGlobals x = some none /\ nbAll K r
theorem fP_mk (a:nsIn K mainGlobals x = some (some (.ref f))) (F:Fun K x x st f fd):FP K x st:=⟨f,fd,a,F⟩
theorem mP_mk (a:Meth K C x f) (F:Fun K x y st f fd):MP K C x y st:=⟨f,fd,a,F⟩
theorem funD_mk {dV oc kV doc pm cdv ct:Value} {od an:Option Addr} {osl:Array (Option Value)} (l:K.lookup f = some ⟨oc,od,.func (fnOf x y (vD st) (xU st) (zK st) dV kV doc pm an cdv ct),osl⟩) (c:codeIn K cdv y = true) (k:keepIn K (.ref f) = true):FunD K x y st dV f (fnOf x y (vD st) (xU st) (zK st) dV kV doc pm an cdv ct):=⟨⟨oc,od,kV,doc,pm,an,cdv,ct,osl,rfl,l,c⟩,k⟩
theorem cal_of (X:K.In h) (G:h.Ns mainGlobals mg) (p:FP K x st) (t:∀ f fd,Fun K x x st f fd->FnOk P w K mg base CX0 k f fd ps sp /\ Binds K fd ps []):Cal P w K mg base k x ps sp:=by
 obtain ⟨f,fd,a,F⟩:=p
 exact ⟨f,fd,(t f fd F).1,(t f fd F).2,F.kp,mg_of X G a⟩
theorem calM_of (c:Cls K C) (p:MP K C x y st) (t:∀ f fd,Fun K x y st f fd->FnOk P w K mg base CX0 k f fd ps sp /\ Binds K fd ps []):CalM P w K mg base k C x ps sp:=by
 obtain ⟨f,fd,a,F⟩:=p
 exact ⟨⟨f,fd,(t f fd F).1,(t f fd F).2,a⟩,c⟩
theorem Cal.m (c:Cal P w K mg base j x ps sp) (h:j <= k:=by decide):Cal P w K mg base k x ps sp:=c.mono h
theorem CalM.m (c:CalM P w K mg base j C x ps sp) (h:j <= k:=by decide):CalM P w K mg base k C x ps sp:=c.mono h
end
set_option maxHeartbeats 8000000 in
theorem all_mk {l:PySem.W.OpenLaw} {K:PySem.W.Frag} (X:K.In h) (G:h.Ns mainGlobals mg) (hfa:mg "law" = some (.ref fa))
  (h1:FP K "sources_of" zDa)
  (h2:FP K "is_stand" s_is_stand)
  (h3:FP K "check_stands" s_check_stands)
  (h4:FP K "check_steps" s_check_steps)
  (h5:FP K "is_name" s_is_name)
  (h6:FP K "check_marks" s_check_marks)
  (h7:FP K "check_fair" s_check_fair)
  (h8:FP K "copied" s_copied)
  (h9:FP K "everywhere" s_everywhere)
  (h10:FP K "unshared" s_unshared)
  (h11:FP K "sight_failing" s_sight_failing)
  (h12:FP K "sight_failings" s_sight_failings)
  (h13:FP K "failed_pairs" s_failed_pairs)
  (h14:FP K "answer_counts" s_answer_counts)
  (h15:FP K "left_without_answer" s_left_without_answer)
  (h16:FP K "failings" s_failings)
  (h17:FP K "followed" s_followed)
  (h18:FP K "_law_cell_at" s_l_cell_at)
  (h19:FP K "_law_mixed" s_l_mixed)
  (h20:FP K "_law_name_by" s_l_name_by)
  (h21:FP K "_law_some_of" s_l_some_of)
  (h22:FP K "_law_steps_by" s_l_steps_by)
  (h23:FP K "_law_sets_by" s_l_sets_by)
  (h24:FP K "_law_maps_by" s_l_maps_by)
  (h25:FP K "_law_marked_by" s_l_marked_by)
  (h26:FP K "_law_two_by" s_l_two_by)
  (h27:FP K "_law_machine" s_l_machine)
  (h28:FP K "_law_names" s_l_names)
  (h29:FP K "_law_whole" s_l_whole)
  (h30:FP K "_law_formed" s_l_formed)
  (h31:FP K "_law_earlier" s_l_earlier)
  (h32:FP K "_law_holds" s_l_holds)
  (h33:FP K "law" s_law)
  (aC:nsIn K mainGlobals "Machine" = some (some (.ref C)))
  (mk:Mk K C fI) (FI:FunD K "__init__" "Machine.__init__" sInit (.ref TD) fI fdI) (lT:K.lookup TD = some ⟨ocT,odT,.seq #[.none,.none] nT,slT⟩)
  (m0:MP K C "many" "Machine.many" s_Machine_many)
  (m1:MP K C "next_of" "Machine.next_of" s_Machine_next_of)
  (m2:MP K C "before" "Machine.before" s_Machine_before)
  (m3:MP K C "names_at" "Machine.names_at" s_Machine_names_at)
  (cC:Cls K C) (nC:findIn K (.ref C) "steps" = some none /\ findIn K (.ref C) "marks" = some none /\ findIn K (.ref C) "fair" = some none /\ findIn K (.ref C) "sources" = some none)
  (vLETTERS:nsIn K mainGlobals "LETTERS" = some (some (.str "abcdefghijklmnopqrstuvwxyz" t_LETTERS))) (vLONGEST_NAME:nsIn K mainGlobals "LONGEST_NAME" = some (some (.int 8 t_LONGEST_NAME))) (vMOST_STANDS:nsIn K mainGlobals "MOST_STANDS" = some (some (.int 60 t_MOST_STANDS))) (vSAYING_WORDS:nsIn K mainGlobals "SAYING_WORDS" = some (some (.ref a_SAYING_WORDS))) (uSAYING_WORDS:K.lookup a_SAYING_WORDS = some ⟨.type "tuple",none,.seq #[.str "all" k_SAYING_WORDS_0,.str "not" k_SAYING_WORDS_1,.str "both" k_SAYING_WORDS_2,.str "either" k_SAYING_WORDS_3,.str "somenext" k_SAYING_WORDS_4,.str "eachnext" k_SAYING_WORDS_5,.str "sometill" k_SAYING_WORDS_6,.str "eachtill" k_SAYING_WORDS_7,.str "someever" k_SAYING_WORDS_8,.str "eachever" k_SAYING_WORDS_9] n_SAYING_WORDS,sl_SAYING_WORDS⟩) (z:nbAll K ["len","range","isinstance","int","bool","list","enumerate","min","all","sorted","str","set","tuple"]) :
  ∃ fd:FuncData,(∀ (s:Shared) (v:Value),BindsTo s fd ⟨[v],[]⟩ [("_law_script",v)]) /\ ∀ base:Heap,K.In base->base.Ns mainGlobals mg->FnOk l.prog w K mg base CX0 7 fa fd ["_law_script"] (spLaw K):=by
 obtain ⟨f,fd,a,⟨oc,od,kV,dc,pm,an,cd,ct,sl,rfl,lk,ck⟩,kp⟩:=h33
 have e:=hfa.symm.trans (mg_of X G a)
 cases e
 obtain ⟨zlen,zrange,zisinstance,zint,zbool,zlist,zenumerate,zmin,zall,zsorted,zstr,zset,ztuple,_⟩:=z
 obtain ⟨nS,nM,nF,nB⟩:=nC
 have N:∀ {x:Str},nsIn K mainGlobals x = some none->mg x = none:=λe=>PySem.W.mg_none_of X G e
 have B:Bl K mg:=⟨N zlen,N zrange,N zisinstance,N zint,N zbool,N zlist,N zenumerate,ki_ii,ki_ib,ki_ll⟩
 have ymin:=N zmin
 have yall:=N zall
 have ysorted:=N zsorted
 have ystr:=N zstr
 have yset:=N zset
 have ytuple:=N ztuple
 have vLETTERS:=mg_of X G vLETTERS
 have vLONGEST_NAME:=mg_of X G vLONGEST_NAME
 have vMOST_STANDS:=mg_of X G vMOST_STANDS
 have vSAYING_WORDS:=mg_of X G vSAYING_WORDS
 have T:Cl K mg C:=⟨cC,nS,nM,nF,nB,mg_of X G aC⟩
 have bI0:Binds K fdI ["self","steps","marks","fair"] []:=λs us KX hl=>by
  obtain ⟨_,_,_,_,_,_,_,_,_,rfl,_⟩:=FI.ex
  have h2:us.length = 4:=by
   rw [length_append] at hl
   have:([]:List Value).length = 0:=rfl
   have h4:(["self","steps","marks","fair"]:List Str).length = 4:=rfl
   omega
  match us,h2 with
  | [u0,u1,u2,u3],_=>exact BindsTo.of_defaults rfl (KX _ _ lT) rfl rfl rfl
 refine ⟨fnOf "law" "law" (vD s_law) (xU s_law) (zK s_law) .none kV dc pm an cd ct,λs v=>.of_eq rfl,λbase _ _=>?_⟩
 have cal:∀ {k:Nat} {x:Str} {st:Stmt} {ps:List Str} {sp:Sp},FP K x st->(∀ f fd,Fun K x x st f fd->FnOk l.prog w K mg base CX0 k f fd ps sp /\ Binds K fd ps [])->Cal l.prog w K mg base k x ps sp:=λh t=>cal_of X G h t
 have calM:∀ {k:Nat} {x y:Str} {st:Stmt} {ps:List Str} {sp:Sp},MP K C x y st->(∀ f fd,Fun K x y st f fd->FnOk l.prog w K mg base CX0 k f fd ps sp /\ Binds K fd ps [])->CalM l.prog w K mg base k C x ps sp:=λh t=>calM_of cC h t
 have h_SAYING_WORDS:∀ H:Hp,SqT K H a_SAYING_WORDS ((["all","not","both","either","somenext","eachnext","sometill","eachtill","someever","eachever"]:List Str).map V.str):=λH=>.inr ⟨_,_,_,uSAYING_WORDS,rfl,rfl,(by show 10 <= sizeLine; decide),by repeat (first | exact Paired.nil | refine Paired.cons ⟨_,rfl⟩ ?_)⟩
 have C_is_stand:=cal h2 λ_ _ F=>⟨zIh (k:=0) F B,bi2 F⟩
 have C_check_stands:=cal h3 λ_ _ F=>⟨zDq (k:=1) F B C_is_stand.m,bi3 F⟩
 have C_check_steps:=cal h4 λ_ _ F=>⟨zEj (k:=2) F B vMOST_STANDS C_check_stands.m,bi1 F⟩
 have C_is_name:=cal h5 λ_ _ F=>⟨zKt (k:=0) F B vLETTERS vLONGEST_NAME vSAYING_WORDS h_SAYING_WORDS yall ystr,bi1 F⟩
 have C_check_marks:=cal h6 λ_ _ F=>⟨zEk (k:=2) F B C_check_stands.m C_is_name.m,bi2 F⟩
 have C_check_fair:=cal h7 λ_ _ F=>⟨zFx (k:=2) F B C_check_stands.m,bi2 F⟩
 have C_copied:=cal h8 λ_ _ F=>⟨zMt (k:=0) F B,bi1 F⟩
 have C_so:=cal h1 λ_ _ F=>⟨ok_soG F B,bi1 F⟩
 have OI:FnOk l.prog w K mg base CX0 4 fI fdI ["self","steps","marks","fair"] (zLw K C (mkK C)):=ok_inG (k:=3) FI T B C_check_steps.m C_check_marks.m C_check_fair.m C_copied.m C_so.m
 have C_Machine_many:=calM m0 λ_ _ F=>⟨zDr (k:=0) (C:=C) F B T,bi1 F⟩
 have C_Machine_next_of:=calM m1 λ_ _ F=>⟨zBx (k:=0) (C:=C) F B T ysorted,bi2 F⟩
 have C_Machine_before:=calM m2 λ_ _ F=>⟨zCi (k:=0) (C:=C) F B T,bi2 F⟩
 have C_Machine_names_at:=calM m3 λ_ _ F=>⟨zBr (k:=0) (C:=C) F B T ysorted,bi2 F⟩
 have C_everywhere:=cal h9 λ_ _ F=>⟨zFw (k:=1) (C:=C) F B C_Machine_many.m,bi1 F⟩
 have C_unshared:=cal h10 λ_ _ F=>⟨zIe (k:=0) F B ysorted yset,bi2 F⟩
 have C_sight_failing:=cal h11 λ_ _ F=>⟨zC3 (k:=1) F B C_unshared.m,bi2 F⟩
 have C_sight_failings:=cal h12 λ_ _ F=>⟨zCh (k:=2) (C:=C) F B C_Machine_names_at.m C_everywhere.m C_sight_failing.m,bi2 F⟩
 have C_failed_pairs:=cal h13 λ_ _ F=>⟨zDp (k:=0) F B,bi1 F⟩
 have C_answer_counts:=cal h14 λ_ _ F=>⟨zC4 (k:=2) (C:=C) F B C_Machine_next_of.m C_everywhere.m,bi2 F⟩
 have C_left_without_answer:=cal h15 λ_ _ F=>⟨zAn (k:=1) (C:=C) F B C_Machine_before.m,bi3 F⟩
 have C_failings:=cal h16 λ_ _ F=>⟨zIj (k:=3) (C:=C) F B C_Machine_before.m C_answer_counts.m C_failed_pairs.m C_left_without_answer.m C_sight_failings.m,bi2 F⟩
 have C_followed:=cal h17 λ_ _ F=>⟨zIi (k:=4) (C:=C) F B C_failings.m,bi2 F⟩
 have C_l_cell_at:=cal h18 λ_ _ F=>⟨zHa (k:=0) F B,bi2 F⟩
 have C_l_mixed:=cal h19 λ_ _ F=>⟨zKr (k:=0) F B,bi2 F⟩
 have C_l_name_by:=cal h20 λ_ _ F=>⟨zG6 (k:=0) F B,bi2 F⟩
 have C_l_some_of:=cal h21 λ_ _ F=>⟨zG4 (k:=0) F B,bi2 F⟩
 have C_l_steps_by:=cal h22 λ_ _ F=>⟨zFv (k:=1) F B C_l_cell_at.m C_l_mixed.m C_l_some_of.m,bi3 F⟩
 have C_l_sets_by:=cal h23 λ_ _ F=>⟨zG5 (k:=1) F B C_l_mixed.m C_l_some_of.m,bi4 F⟩
 have C_l_maps_by:=cal h24 λ_ _ F=>⟨zG7 (k:=1) F B ymin C_l_cell_at.m C_l_mixed.m,bi1 F⟩
 have C_l_marked_by:=cal h25 λ_ _ F=>⟨zEi (k:=2) F B C_l_cell_at.m C_l_name_by.m C_l_sets_by.m,bi3 F⟩
 have C_l_two_by:=cal h26 λ_ _ F=>⟨zIf (k:=3) F B C_l_cell_at.m C_l_maps_by.m C_l_marked_by.m C_l_mixed.m C_l_name_by.m C_l_some_of.m C_l_steps_by.m,bi1 F⟩
 have C_l_machine:=cal h27 λ_ _ F=>⟨zG8 (k0:=4) (C:=C) F B T mk (OI.mono (by decide)) bI0,bi2 F⟩
 have C_l_names:=cal h28 λ_ _ F=>⟨zKq (k:=0) F B ysorted,bi2 F⟩
 have C_l_whole:=cal h29 λ_ _ F=>⟨zKp (k:=0) F B,bi1 F⟩
 have C_l_formed:=cal h30 λ_ _ F=>⟨zIg (k:=1) F B ystr ytuple C_l_whole.m,bi3 F⟩
 have C_l_earlier:=cal h31 λ_ _ F=>⟨zG9 (k:=0) F B,bi2 F⟩
 have C_l_holds:=cal h32 λ_ _ F=>⟨zKs (k:=1) F B ystr C_l_earlier.m C_l_names.m C_l_whole.m,bi5 F⟩
 refine FnOk.imp (ok_law (k:=6) (C:=C) (fun_mk lk ck kp) B T C_l_formed.m C_l_holds.m C_l_machine.m C_l_two_by.m C_failings.m C_followed.m) λvs H Q E h=>?_
 obtain ⟨a,ns,rfl,hS,h63,hQ⟩:=h
 obtain ⟨b,e1,e2⟩:=zPu C ⟨ns⟩ h63
 subst e2
 exact ⟨(⟨ns⟩,()),true,H,.refl _,e1,.cons ⟨a,rfl,hS⟩ .nil,λv H' _ r=>by cases r; exact hQ H'⟩
theorem walk {l:PySem.W.OpenLaw} {YP:World->Heap->Prop} {d:DefRec} {K:Params->PySem.W.Frag} (hn:l.most = some 63) (hdf:d.params.defaults = [])
  (hY:∀ (w:World) (h:Heap),YP w h->(K w.params).In h)
  (F:∀ (w:World) (mg:Str->Option Value) (fa:Addr) (h:Heap),(K w.params).In h->h.Ns mainGlobals mg->mg d.name = some (.ref fa) ->
   ∃ fd:FuncData,(∀ (s:Shared) (u:Value),BindsTo s fd ⟨[u],[]⟩ [("_law_script",u)]) /\ ∀ base:Heap,(K w.params).In base->base.Ns mainGlobals mg->FnOk l.prog w (K w.params) mg base CX0 7 fa fd ["_law_script"] (spLaw (K w.params))) :
  PySem.W.WalkO q loose XP YP l.row.toRowW d [] (λf vs=>PySem.call f vs) :=
 L2.walk_of (n:=63) (k:=7) (x:="_law_script") (CX:=λ_=>CX0) (sp:=λw=>spLaw (K w.params)) hn (by decide) hdf ⟨rfl,by decide,by decide⟩ hY F (λ_ _ a ns hl _ hS=>⟨a,ns,rfl,hS,hl,λ_=>rfl⟩) λ_ _ _ _ _ z=>z
end Ts
namespace PySem.W.Fast
def tw14521088141982248010:=0
def tw15177664135808746028:=0
def tw13840054812396996495:=0
def tw13449109802354710673:=0
def tw687065102992368535:=0
def tw9184433787877479592:=0
def tw9448105981638615323:=0
def tw8364999338840037482:=0
def tw17166769559023826714:=0
def tw18253580908014474547:=0
def tw12022649127590492555:=0
def tw17743455123103742225:=0
def tw17843350262372138181:=0
def tw17241022688100667326:=0
def tw5816115792561072025:=0
def tw13656441691890102009:=0
def tw1750624759628660294:=0
def tw13689782951594661124:=0
def tw10632229209190412022:=0
def tw2261425266616365806:=0
def tw5420223723136108298:=0
def tw13782993056783906928:=0
def tw4441390907741228909:=0
def tw14196898356806061250:=0
def tw10506074305343809817:=0
def tw16325351745222071268:=0
def tw6231469382313616905:=0
def tw6069174611049739638:=0
def tw1764378972747297970:=0
def tw13742158660616245748:=0
def tw3480755705312447193:=0
def tw17678972442675604469:=0
def tw2728268446505233782:=0
def tw18167885533092929668:=0
def tw11447974660411513731:=0
def tw1941929135500034521:=0
def tw16656234043251434277:=0
def tw16308469879261731225:=0
def tw6538172112531531702:=0
def tw10219591123387643639:=0
end PySem.W.Fast
open PySem PySem.W PyProof.Rows
set_option maxRecDepth 100000 in
set_option maxHeartbeats 0 in
theorem PySem.Challenge.cw_treesay_k72_failings_fall_holds : PySem.Challenge.rw_treesay_k72_failings_fall.Holds := by
 w_on; o_law; k_head; (case hw=>w_witness2)
 k_fill
 refine Ts.walk (l:=PySem.Challenge.rw_treesay_k72_failings_fall) rfl rfl (fun w h Y=>by first | exact PySem.W.kIn_of Y | exact PySem.W.km_in_of Y) ?F
 case F =>
  intro w mg fa h KX G hmg
  refine' Ts.all_mk KX G hmg ?_ ?_ ?_ ?_ ?_ ?_ ?_ ?_ ?_ ?_ ?_ ?_ ?_ ?_ ?_ ?_ ?_ ?_ ?_ ?_ ?_ ?_ ?_ ?_ ?_ ?_ ?_ ?_ ?_ ?_ ?_ ?_ ?_ ?_ ?_ ?_ ?_ ?_ ?_ ?_ ?_ ?_ ?_ ?_ ?_ ?_ ?_ ?_ ?_
  all_goals first | refine' Ts.mP_mk ⟨?_,?_,?_⟩ (L2.fun_mk ?_ ?_ ?_) | refine' Ts.fP_mk ?_ (L2.fun_mk ?_ ?_ ?_) | refine' Ts.funD_mk ?_ ?_ ?_ | refine' ⟨?_,?_,?_,?_⟩ | skip
  all_goals repeat' first | refine' And.intro ?_ ?_ | exact True.intro
  all_goals first | k_is | skip
  all_goals first | k_is | skip
