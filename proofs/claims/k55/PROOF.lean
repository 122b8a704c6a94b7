import PyProof.Rows.All
import Wide.All
import OpenK.AllK
import Wide.FinOn
import Lean
import PyProof.EqAt
import PyProof.EqKinds
import PyProof.TupleCall
import PyProof.NeKinds
import PyProof.EnumStmt
import PyProof.EnumMake
import PyProof.CompFree
import PyProof.Rows.FStr
import KE.KLam
import KE.KNestM
import PySem.Challenge.RW_treesay_k55_lives_told
open PySem.W (instObj methodObj lookIn plainGet hasDictIn findIn plainGet_of isFn takerIn emptyDict specialIn keepIn kitOne kia_one callWith_K cellsFrom_some fnOf codeIn kla_obj CodeHd codeHdIn nsIn mg_of)
open List (mem_filter mem_range filterMap_cons mem_cons_self mem_cons_of_mem mem_cons mem_append mem_append_left getElem_inj mem_append_right size_toArray any_eq_false length_cons map_cons length_map append_nil nodup_cons of_mem_zip replicate length length_take getElem?_append_right getElem?_replicate getElem?_append_left getElem?_map getElem?_take_of_lt mem_of_getElem? length_append find?_cons any_cons length_nil map_nil length_drop length_set all_cons Pairwise lookup_cons all_eq_true lookup_append getD_eq_getElem?_getD toArray getElem?_cons_zero append_assoc map_append mem_map any_append take_append_drop take_add_one Sublist any_eq_true sublist_append_right take_length getElem?_range length_range nil_append range_succ filter_cons length_filter_le mem_iff_getElem? nodup_nil mem_singleton nodup_append getElem_of_mem getElem_mem Perm pairwise_cons getElem?_toArray length_eq_zero_iff map_map getElem_cons_drop set_set map_id' mem_flatten flatten_append flatten_singleton length_pos_of_mem flatten_cons)
open PySem.Heap (lt_size SameBut get?_push_of_some get?_push_size size_push get?_update_self get?_update_other)
open Array (length_toList toArray_toList getElem?_toList)
open PySem.SetTable (below insertAt probe grown)
set_option Elab.async false
set_option linter.all false
set_option maxRecDepth 100000
abbrev LI:=List Int
namespace L2
open PySem PySem.Spec PyProof.Rows
abbrev Key:=Sum Int Str
def M5:Key->Value->Bool
 |.inl k,v=>Value.isInt k v
 |.inr x,v=>Value.isStrOf x v
def VR(w:World):Key->Int
 |.inl k=>hashInt k
 |.inr x=>hashStr w x
theorem xW:∀{k:Key}{v:Value},M5 k v=true->(∃i t,k=Sum.inl i/\v=Value.int i t)\/(∃x t,k=Sum.inr x/\v=Value.str x t)
 |.inl i,v,h=>by
  obtain⟨t,e⟩:=Value.isInt_shape (k:=i) (v:=v) h
  exact .inl ⟨i,t,rfl,e⟩
 |.inr x,v,h=>by
  obtain⟨t,e⟩:=Value.isStrOf_shape (x:=x) (v:=v) h
  exact .inr ⟨x,t,rfl,e⟩
theorem zP7(i:Int)(t:Tok):M5 (.inl i) (.int i t)=true:=by simp[M5,Value.isInt]
theorem zP6(x:Str)(t:Tok):M5 (.inr x) (.str x t)=true:=by simp[M5,Value.isStrOf]
theorem Je(a b:Int):decide ((Sum.inl a:Key)=Sum.inl b)=(a==b):=by
 by_cases e:a=b
 ·subst e;simp
 ·have h:¬(Sum.inl a:Key)=Sum.inl b:=λq=>e (Sum.inl.inj q)
  rw[decide_eq_false h]
  exact(beq_eq_false_iff_ne.mpr e).symm
theorem Jf(a b:Str):decide ((Sum.inr a:Key)=Sum.inr b)=decide (a=b):=by
 by_cases e:a=b
 ·subst e;simp
 ·have h:¬(Sum.inr a:Key)=Sum.inr b:=λq=>e (Sum.inr.inj q)
  rw[decide_eq_false h,decide_eq_false e]
theorem Jg(a:Int)(b:Str):decide ((Sum.inl a:Key)=Sum.inr b)=false:=decide_eq_false (λq=>nomatch q)
theorem Jh(a:Str)(b:Int):decide ((Sum.inr a:Key)=Sum.inl b)=false:=decide_eq_false (λq=>nomatch q)
def xN(prog:Program)(w:World):PySem.KeyKind prog w Key where
 is:=M5
 hash:=VR w
 inj:=λv a b ha hb=>by
  rcases xW ha with⟨i,t,rfl,rfl⟩|⟨x,t,rfl,rfl⟩
  ·rcases xW hb with⟨j,u,rfl,e⟩|⟨y,u,rfl,e⟩
   ·injection e with e1 _;rw[e1]
   ·exact nomatch e
  ·rcases xW hb with⟨j,u,rfl,e⟩|⟨y,u,rfl,e⟩
   ·exact nomatch e
   ·injection e with e1 _;rw[e1]
 byValue:=λk v h=>by
  rcases xW h with⟨i,t,rfl,rfl⟩|⟨x,t,rfl,rfl⟩<;>rfl
 pyHash:=λhv h=>by
  rcases xW hv with⟨i,t,rfl,rfl⟩|⟨x,t,rfl,rfl⟩
  ·exact wpAny_pyHash_int h
  ·exact wpAny_pyHash_str h
 eqBool:=λhu hv h=>by
  rcases xW hu with⟨i,t,rfl,rfl⟩|⟨x,t,rfl,rfl⟩
  ·rcases xW hv with⟨j,u,rfl,rfl⟩|⟨y,u,rfl,rfl⟩
   ·rw[Je] at h;exact wpAny_eqBool_int h
   ·rw[Jg] at h;exact SeqAt.EqAt.int_str i t y u _ _ _ _ h
  ·rcases xW hv with⟨j,u,rfl,rfl⟩|⟨y,u,rfl,rfl⟩
   ·rw[Jh] at h;exact SeqAt.EqAt.str_int x t j u _ _ _ _ h
   ·rw[Jf] at h;exact wpAny_eqBool_str h
 «strs»:=λk x t v h=>by
  rcases xW h with⟨i,u,rfl,e⟩|⟨y,u,rfl,e⟩
  ·exact nomatch e
  ·injection e with e1 _
   subst e1
   cases v<;>rfl
theorem zKt(prog:Program)(w:World)(i:Int)(t:Tok):(xN prog w).is (.inl i) (.int i t)=true:=zP7 i t
theorem zKs(prog:Program)(w:World)(x:Str)(t:Tok):(xN prog w).is (.inr x) (.str x t)=true:=zP6 x t
inductive V where
 |non|bl (b:Bool)|int (i:Int)|str (x:Str)|BL (b:Array UInt8)|flt (b:UInt64)|ref (a:Addr)|ty (n:String)
 deriving DecidableEq
def RelV:V->Value->Prop
 |.non,u=>u=Value.none
 |.bl b,u=>u=Value.bool b
 |.int i,u=>∃t,u=Value.int i t
 |.str x,u=>∃t,u=Value.str x t
 |.BL b,u=>∃t,u=Value.bytes b t
 |.flt b,u=>∃t,u=Value.float b t
 |.ref a,u=>u=Value.ref a
 |.ty n,u=>u=Value.type n
abbrev Vals:List V->List Value->Prop:=Paired RelV
theorem Vals.length(r:Vals xs us):xs.length=us.length:=Paired.length r
theorem Vals.get:∀{xs:List V}{us:List Value}{i:Nat}{x:V},Vals xs us->xs[i]?=some x->∃u,us[i]?=some u/\RelV x u
 |_,_,_,_,.nil,e=>by simp at e
 |_,_,0,_,.cons r _,e=>by simp at e;subst e;exact⟨_,rfl,r⟩
 |_,_,i+1,x,.cons _ t,e=>by
  obtain⟨u,h1,h2⟩:=Vals.get (i:=i) (x:=x) t (by simpa using e)
  exact⟨u,by simpa using h1,h2⟩
theorem Vals.set(r:RelV x u):∀{xs:List V}{us:List Value}(i:Nat),Vals xs us->Vals (xs.set i x) (us.set i u)
 |_,_,_,.nil=>.nil
 |_,_,0,.cons _ t=>.cons r t
 |_,_,i+1,.cons q t=>.cons q (Vals.set r i t)
theorem Vals.append:∀{xs ys:List V}{us ws:List Value},Vals xs us->Vals ys ws->Vals (xs++ys) (us++ws)
 |_,_,_,_,.nil,s=>s
 |_,_,_,_,.cons r t,s=>.cons r (Vals.append t s)
theorem Vals.take:∀{xs:List V}{us:List Value}(n:Nat),Vals xs us->Vals (xs.take n) (us.take n)
 |_,_,0,_=>.nil
 |_,_,_+1,.nil=>.nil
 |_,_,n+1,.cons r t=>.cons r (Vals.take n t)
theorem Vals.drop:∀{xs:List V}{us:List Value}(n:Nat),Vals xs us->Vals (xs.drop n) (us.drop n)
 |_,_,0,r=>r
 |_,_,_+1,.nil=>.nil
 |_,_,n+1,.cons _ t=>Vals.drop n t
theorem Vals.none_of:∀{xs:List V}{us:List Value}{i:Nat},Vals xs us->xs[i]?=none->us[i]?=none:=λ{xs us i} r e=>by
 have h1:=r.length
 have h2:xs.length<=i:=List.getElem?_eq_none_iff.mp e
 exact List.getElem?_eq_none_iff.mpr (by omega)
def iz:Option V->Option Value->Prop
 |some v,some u=>RelV v u
 |none,none=>True
 |_,_=>False
def KV{κ:Type}:List (κ×V)->List (κ×Value)->Prop:=Paired λ(p:κ×V) (q:κ×Value)=>p.1=q.1/\RelV p.2 q.2
def kV:Key->V
 |.inl i=>.int i
 |.inr x=>.str x
inductive HO where
 |lst (xs:List V)
 |tup (xs:List V)
 |dK (kvs:List (Key×V))|dT (kvs:List (List Key×V))
 |set (S:Int->Bool) (n:Nat)
 |ins (C dx:Addr) (fs:List (Str×V))
 |own (x:Addr)
 |xd (fs:List (Str×V))
 |met (f x:Addr)
 |rng (lo hi:Int)
 |lC (o:Obj) (u:HO)
 |Ji (ps:Array Value)
 |ext (φ:Heap->Prop)
 |tab (pos:Pos) (qual:Str)
abbrev Hp:=Addr->Option HO
def upd(H:Hp)(a:Addr)(o:HO):Hp:=λb=>if b=a then some o else H b
theorem zW:upd H a o a=some o:=by unfold upd;rw[if_pos rfl]
theorem zP(h:b≠a):upd H a o b=H b:=by unfold upd;rw[if_neg h]
theorem Cq:upd (upd H a o) a u=upd H a u:=by
 funext b;unfold upd;split<;>rfl
theorem O7{H:Hp}{a b:Addr}{o u:HO}(h:H a=some o)(h':H b=some u)(d:o≠u):a≠b:=by
 intro e;subst e;rw[h] at h';exact d (Option.some.inj h')
theorem zV{H:Hp}{a b:Addr}{o:HO}(h:H a=some o)(h':H b=none):a≠b:=by
 intro e;subst e;rw[h] at h';cases h'
section
variable(P:Program)(w:World)
def aR(H:Hp)(h:Heap)(a:Addr):HO->Prop
 |.lst xs=>xs.length<=sizeLine/\∃(its:List Value)(n:Nat),Vals xs its/\h.get? a=some { cls:=.type "list",data:=.seq its.toArray n }
 |.tup xs=>xs.length<=sizeLine/\∃its:List Value,Vals xs its/\IsTup h a its.toArray
 |.dK kvs=>kvs.length<=sizeLine/\(a==sysModules)=false/\∃vs,KV kvs vs/\h.DictOf (xN P w) a vs
 |.dT kvs=>kvs.length<=sizeLine/\(a==sysModules)=false/\∃xs:List (List Key×Addr×Value),
   Paired (λ(p:List Key×V) (q:List Key×Addr×Value)=>p.1=q.1/\H q.2.1=some (.tup (p.1.map kV))/\RelV p.2 q.2.2) kvs xs /\
   ∃o es ep,h.get? a=some o/\o.ExactDict/\o.data=.dict es ep/\es.toList=xs.map (entryOfKey (tupleKind (xN P w)))/\(xs.map (·.1)).Nodup
 |.set S n=>h.SetOf (intKind P w) a S n
 |.ins C dx fs=>H dx=some (.own a)/\fs.length<=1000/\dx≠a/\h.get? a=some (instObj C dx) /\
   ∃mA,h.Ns1 dx mA/\(∀f,iz (fs.lookup f) (mA f))/\PySem.Within mA (fs.map (·.1))
 |.own _=>∃o,h.get? a=some o
 |.xd fs=>∃mA,h.Ns1 a mA/\∀f,iz (fs.lookup f) (mA f)
 |.rng lo hi=>∃t u v,h.get? a=some { cls:=.type "range",data:=.fields #[.int lo t,.int hi u,.int 1 v] }
 |.lC o u=>h.get? a=some o/\aR H h a u
 |.Ji ps=>h.get? a=some { cls:=.none,data:=.fields ps }
 |.met f x=>h.get? a=some (methodObj (.ref f) (.ref x))
 |.ext φ=>φ h/\(∃o,h.get? a=some o)/\∀h1 h2:Heap,φ h1->(∀o,h1.get? a=some o->h2.get? a=some o)->φ h2
 |.tab pos qual=>∃ps:Array Value,h.get? a=some { cls:=.none,data:=.fields ps }/\TriplesOk ps.toList/\(codeAmong pos ps.toList=none\/∃c,codeAmong pos ps.toList=some (.ref c)/\H c=some (.own a)/\h.CodeRec (.ref c) qual)
def gn(H:Hp)(h:Heap):Prop:=∀a o,H a=some o->aR P w H h a o
end
section
variable{P:Program}{w:World}{H H':Hp}{h h':Heap}{a:Addr}{o:HO}
theorem aR.lt(x:aR P w H h a o):a<h.objs.size:=by
 cases o with
 |lst xs=>obtain⟨_,_,_,_,e⟩:=x;exact lt_size e
 |tup xs=>obtain⟨_,_,_,p⟩:=x;exact p.lt
 |dK kvs=>obtain⟨_,_,_,_,o,_,_,e,_⟩:=x;exact lt_size e
 |dT kvs=>obtain⟨_,_,_,_,o,_,_,e,_⟩:=x;exact lt_size e
 |set S n=>obtain⟨o,_,_,_,e,_⟩:=x;exact lt_size e
 |ins C dx fs=>obtain⟨_,_,_,e,_⟩:=x;exact lt_size e
 |own y=>obtain⟨_,e⟩:=x;exact lt_size e
 |xd fs=>obtain⟨_,⟨_,_,_,e,_⟩,_⟩:=x;exact lt_size e
 |rng lo hi=>obtain⟨_,_,_,e⟩:=x;exact lt_size e
 |lC ob u=>obtain⟨e,_⟩:=x;exact lt_size e
 |Ji ps=>exact lt_size (show h.get? a=some _ from x)
 |met f y=>exact lt_size (show h.get? a=some _ from x)
 |ext φ=>obtain⟨_,⟨_,e⟩,_⟩:=x;exact lt_size e
 |tab pos q=>obtain⟨_,e,_⟩:=x;exact lt_size e
theorem Paired.Jj{α β:Type}{F G:α->β->Prop}:∀{l₁:List α}{l₂:List β},Paired F l₁ l₂->(∀a b,F a b->G a b)->Paired G l₁ l₂
 |_,_,.nil,_=>.nil
 |_,_,.cons r t,f=>.cons (f _ _ r) (Paired.Jj t f)
theorem aR.stay(x:aR P w H h a o)(k:∀b u,(b=a\/H b=some (.own a))->h.get? b=some u->h'.get? b=some u)(ho:∀b,H b=some (.own a)->H' b=some (.own a))(ht:∀b xs,H b=some (.tup xs)->H' b=some (.tup xs)):aR P w H' h' a o:=by
 induction o with
 |lst xs=>obtain⟨z,its,n,r,e⟩:=x;exact⟨z,its,n,r,k _ _ (.inl rfl) e⟩
 |tup xs=>obtain⟨z,its,r,ob,e,c⟩:=x;exact⟨z,its,r,ob,k _ _ (.inl rfl) e,c⟩
 |dK kvs=>obtain⟨z,y,vs,r,ob,es,ep,e,c⟩:=x;exact⟨z,y,vs,r,ob,es,ep,k _ _ (.inl rfl) e,c⟩
 |dT kvs =>
  obtain⟨z,y,xs,r,ob,es,ep,e,c⟩:=x
  exact⟨z,y,xs,Paired.Jj r λp q z=>⟨z.1,ht _ _ z.2.1,z.2.2⟩,ob,es,ep,k _ _ (.inl rfl) e,c⟩
 |set S n=>obtain⟨ob,es,ep,t,e,c⟩:=x;exact⟨ob,es,ep,t,k _ _ (.inl rfl) e,c⟩
 |ins C dx fs =>
  obtain⟨d,z,ne,e,mA,⟨od,es,ep,e2,c⟩,r⟩:=x
  exact⟨ho _ d,z,ne,k _ _ (.inl rfl) e,mA,⟨od,es,ep,k _ _ (.inr d) e2,c⟩,r⟩
 |own y=>obtain⟨ob,e⟩:=x;exact⟨ob,k _ _ (.inl rfl) e⟩
 |xd fs=>obtain⟨mA,⟨od,es,ep,e,c⟩,r⟩:=x;exact⟨mA,⟨od,es,ep,k _ _ (.inl rfl) e,c⟩,r⟩
 |rng lo hi=>obtain⟨t,u,v,e⟩:=x;exact⟨t,u,v,k _ _ (.inl rfl) e⟩
 |lC ob u ih=>obtain⟨e,q⟩:=x;exact⟨k _ _ (.inl rfl) e,ih q⟩
 |Ji ps =>
  have e:h.get? a=some { cls:=.none,data:=.fields ps }:=x
  show h'.get? a=some { cls:=.none,data:=.fields ps }
  exact k a _ (.inl rfl) e
 |met f y =>
  have e:h.get? a=some (methodObj (.ref f) (.ref y)):=x
  show h'.get? a=some (methodObj (.ref f) (.ref y))
  exact k a _ (.inl rfl) e
 |ext φ=>obtain⟨p,⟨o,e⟩,st⟩:=x;exact⟨st _ _ p λo q=>k _ _ (.inl rfl) q,⟨o,k _ _ (.inl rfl) e⟩,st⟩
 |tab pos q =>
  obtain⟨ps,e,t,z⟩:=x
  refine⟨ps,k _ _ (.inl rfl) e,t,?_⟩
  rcases z with z|⟨c,z1,z2,z3⟩
  ·exact .inl z
  ·obtain⟨c',oc,vs,tq,e1,e2,e3,e4⟩:=z3
   cases e1
   exact .inr ⟨c,z1,ho _ z2,c,oc,vs,tq,rfl,k _ _ (.inr z2) e2,e3,e4⟩
theorem gn.lt(x:gn P w H h)(e:H a=some o):a<h.objs.size:=(x a o e).lt
theorem gn.fresh(x:gn P w H h)(e:h.objs.size<=a):H a=none:=by
 cases q:H a with
 |none=>rfl
 |some u=>exact absurd (Nat.lt_of_lt_of_le (x.lt q) e) (Nat.lt_irrefl _)
theorem gn.kept(x:gn P w H h)(k:∀b u,h.get? b=some u->h'.get? b=some u):gn P w H h':=λa o e =>
 (x a o e).stay (λb u _ q=>k b u q) (λ_ q=>q) λ_ _ q=>q
theorem gn.laid(x:gn P w H h)(k:∀b u,h.get? b=some u->h'.get? b=some u)(hp:h.objs.size<=a)(new:aR P w (upd H a o) h' a o):gn P w (upd H a o) h':=λb u e=>by
 have hn:=x.fresh hp
 by_cases hb:b=a
 ·subst hb;rw[zW] at e;cases e;exact new
 ·rw[zP hb] at e
  exact(x b u e).stay (λc v _ q=>k c v q) (λc q=>by rw[zP (zV q hn)];exact q) λc xs q=>by rw[zP (zV q hn)];exact q
end
def Rd(H:Hp)(a:Addr)(u:HO):Prop:=H a=some u\/∃o,H a=some (.lC o u)
theorem Rd.ok(r:Rd H a u)(x:gn P w H h):aR P w H h a u:=by
 rcases r with r|⟨o,r⟩
 ·exact x a u r
 ·obtain⟨_,q⟩:=x a _ r
  exact q
def O8:Option HO->Prop
 |some (.lst _)=>True
 |some (.dK _)=>True
 |some (.dT _)=>True
 |some (.set _ _)=>True
 |some (.ins _ _ _)=>True
 |some (.ext _)=>True
 |_=>False
section
variable{P:Program}{w:World}{H:Hp}{h h':Heap}{x e:Addr}{o':HO}
theorem gn.write(ok:gn P w H h)(mu:O8 (H x))(he:e=x\/H e=some (.own x))(k:∀b u,b≠e->h.get? b=some u->h'.get? b=some u)(heo:∃u,h'.get? e=some u)(new:aR P w (upd H x o') h' x o'):gn P w (upd H x o') h':=λb u q=>by
 have O9:∀c y,H c=some (.own y)->c≠x:=λc y r z=>by subst z;rw[r] at mu;exact mu
 have V0:∀c xs,H c=some (.tup xs)->c≠x:=λc xs r z=>by subst z;rw[r] at mu;exact mu
 by_cases hb:b=x
 ·subst hb;rw[zW] at q;cases q;exact new
 ·rw[zP hb] at q
  by_cases hbe:b=e
  ·have q':H b=some (.own x):=by
    rcases he with z|z
    ·exact absurd (hbe.trans z) hb
    ·rw[hbe];exact z
   rw[q] at q';cases q'
   obtain⟨v,hv⟩:=heo
   exact⟨v,by rw[hbe];exact hv⟩
  ·refine(ok b u q).stay (λc v hc r=>k c v ?_ r) (λc r=>by rw[zP (O9 c b r)];exact r) λc xs r=>by rw[zP (V0 c xs r)];exact r
   rcases hc with rfl|hc
   ·exact hbe
   ·rintro rfl
    rcases he with z|z
    ·exact O9 c b hc z
    ·rw[hc] at z;cases z;exact hb rfl
end
structure Un(fs ex:List Addr)(H H':Hp)(h h':Heap):Prop where
 keep:∀b o,h.get? b=some o->H b=none->b∉fs->b∉ex->h'.get? b=some o
 slot:∀b o,h.get? b=some o->H b=none->b∈fs->b∉ex->∃sl,h'.get? b=some { o with slots:=sl }
 free:∀b o,h.get? b=some o->H b=none->b∉ex->H' b=none
 there:∀b o,h.get? b=some o->b∉ex->∃o',h'.get? b=some o'
 tups:∀b xs,H b=some (.tup xs)->H' b=some (.tup xs)
 lD:∀b o u,H b=some (.lC o u)->H' b=some (.lC o u)
 m7:∀b ps,H b=some (.Ji ps)->∃more,H' b=some (.Ji (ps++more))
section
variable{fs fs' ex ex':List Addr}{H H1 H2:Hp}{h h1 h2 h':Heap}{a x e:Addr}{o:HO}
theorem Un.any(u:Un fs ex H H1 h h1)(q:h.get? b=some ob)(n:H b=none)(hx:b∉ex):∃sl,h1.get? b=some { ob with slots:=sl }:=by
 by_cases hb:b∈fs
 ·exact u.slot b ob q n hb hx
 ·exact⟨ob.slots,u.keep b ob q n hb hx⟩
theorem Un.kept(k:∀b u,h.get? b=some u->h'.get? b=some u):Un fs ex H H h h' :=
 ⟨λb ob q _ _ _=>k b ob q,λb ob q _ _ _=>⟨ob.slots,k b ob q⟩,λ_ _ _ n _=>n,λb ob q _=>⟨ob,k b ob q⟩,λ_ _ q=>q,λ_ _ _ q=>q,λ_ ps q=>⟨#[],by rw[q];simp⟩⟩
theorem Un.refl:Un fs ex H H h h:=Un.kept λ_ _ q=>q
theorem Un.laid(k:∀b u,h.get? b=some u->h'.get? b=some u)(hp:h.objs.size<=a)(hn:H a=none):Un fs ex H (upd H a o) h h' where
 keep:=λb u q _ _ _=>k b u q
 slot:=λb u q _ _ _=>⟨u.slots,k b u q⟩
 free:=λb u q n _=>by rw[zP (Nat.ne_of_lt (Nat.lt_of_lt_of_le (lt_size q) hp))];exact n
 there:=λb u q _=>⟨u,k b u q⟩
 tups:=λb xs q=>by rw[zP (zV q hn)];exact q
 lD:=λb u xs q=>by rw[zP (zV q hn)];exact q
 m7:=λb ps q=>⟨#[],by rw[zP (zV q hn),q];simp⟩
theorem Un.write(mu:O8 (H x))(he:e=x\/H e=some (.own x))(k:∀b u,b≠e->h.get? b=some u->h'.get? b=some u)(heo:∃u,h'.get? e=some u):Un fs ex H (upd H x o) h h':=by
 have hx:∀b,H b=none->b≠x:=λb n z=>by subst z;rw[n] at mu;exact mu
 have hb:∀b,H b=none->b≠e:=λb n z=>by
  subst z
  rcases he with r|r
  ·exact hx b n r
  ·rw[n] at r;cases r
 have hm:∀b u,H b=some u->¬O8 (some u)->b≠x:=λb u q nm z=>by subst z;rw[q] at mu;exact nm mu
 refine⟨λb u q n _ _=>k b u (hb b n) q,λb u q n _ _=>⟨u.slots,k b u (hb b n) q⟩,λb u q n _=>by rw[zP (hx b n)];exact n,λb u q _=>?_,
  λb xs q=>by rw[zP (hm b _ q λz=>z)];exact q,λb u xs q=>by rw[zP (hm b _ q λz=>z)];exact q,λb ps q=>⟨#[],by rw[zP (hm b _ q λz=>z),q];simp⟩⟩
 by_cases hbe:b=e
 ·subst hbe;exact heo
 ·exact⟨u,k b u hbe q⟩
end
def TX(h:Heap)(H:Hp):List Addr:=(List.range h.objs.size).filter λa=>(H a).isSome
def m8(h:Heap)(H:Hp):Heap:=PySem.W.hideAll h (TX h H)
theorem zQf(h:Heap)(H:Hp):(m8 h H).objs.size=h.objs.size:=PySem.W.hideAll_size _ _
theorem zTg{h:Heap}(e:h.get? b=some o)(n:H b=none):(m8 h H).get? b=some o :=
 PySem.W.hideAll_get _ e λhm=>by
  have q:(H b).isSome=true:=(mem_filter.mp hm).2
  rw[n] at q;simp at q
theorem Cr(e:(m8 h H).get? b=some o):h.get? b=some o/\H b=none:=by
 have e':h.get? b=some o:=PySem.W.of_hideAll (TX h H) e
 refine⟨e',?_⟩
 cases q:H b with
 |none=>rfl
 |some x =>
  have hm:b∈TX h H:=mem_filter.mpr ⟨mem_range.mpr (lt_size e'),by simp[q]⟩
  have z:(m8 h H).get? b=none:=PySem.W.hideAll_none (TX h H) hm
  rw[z] at e;cases e
def Cu(g h:Heap)(L:Addr):List (Addr×Obj):=(List.range h.objs.size).filterMap λa=>if a=L\/(g.get? a).isSome=true then none else(h.get? a).map λo=>(a,o)
def rest(g h:Heap)(L d:Addr):List (Addr×Obj):=(Cu g h L).filter λp=>decide (p.1≠d)
structure Mod(K:PySem.W.Frag)(mg:Str->Option Value)(base:Heap):Prop where
 O_:K.In base
 glob:base.Ns mainGlobals mg
 blt:∃mb,base.Ns builtinsNs mb/\∀x:Str,x ≠ "__name__"->mb x=bootBuiltins x
 nolimit:base.NoLimit
structure Cx where
 prog:Program
 w:World
 K:PySem.W.Frag
 mg:Str->Option Value
 base:Heap
 A:Around
 N:List Str
 s₀:Shared
 H₀:Hp
 env:Env
 outer:List Env
 stack:List Env
 ex:List Addr
 fn:Str->Bool
 calm:Bool
 pn:List (Addr×Obj)
 xe:Value->Shared->Prop
def frs(l:List Env):List Addr:=l.filterMap (·.frame)
abbrev Cx.fs(X:Cx):List Addr:=frs X.outer
def Pa(sc:Scope)(x:Str):Prop:=sc.names.lookup x=some .local\/sc.names.lookup x=some .cell\/sc.names.lookup x=some .free
def Loc(sc:Scope)(x:Str):Prop:=sc.names.lookup x=some .local\/sc.names.lookup x=some .cell
def Look(env:Env)(h:Heap)(m:Str->Option Value)(x:Str)(u:Value):Prop :=
 (env.kindOf x=some .local/\m x=some u)\/((env.kindOf x=some .cell\/env.kindOf x=some .free)/\∃c,env.cells.lookup x=some c/\h.IsCell c (some u))
structure Cx.Ok(X:Cx):Prop where
 mod:Mod X.K X.mg X.base
 kind:X.env.scope.kind=.function
 glob:X.env.globals=mainGlobals
 blt:X.env.builtins=builtinsNs
 above:X.s₀.heap.objs.size<=X.env.locals
 inj:∀x y c,X.env.cells.lookup x=some c->X.env.cells.lookup y=some c->x=y
 has:∀x,(X.env.kindOf x=some .cell\/X.env.kindOf x=some .free)->∃c,X.env.cells.lookup x=some c
 cab:∀x c,X.fn x=true->X.env.cells.lookup x=some c->X.s₀.heap.objs.size<=c
 hd:X.calm=true->X.A.handled=none
 frames:X.A.frames=some X.stack
 stk:X.stack=X.outer\/(X.stack=X.env::X.outer/\X.env.frame=some X.env.locals)
 TY:∀b∈X.ex,b≠X.env.locals/\∀x c,X.env.cells.lookup x=some c->c≠b
 bs:∀b o,X.base.get? b=some o->X.s₀.heap.get? b=some o/\X.H₀ b=none
 Cv:X.base.objs.size<=X.s₀.heap.objs.size
 xu:∀b o,X.base.get? b=some o->b∉X.ex
 yc:∀b∈X.ex,b∉X.fs
 kI:X.s₀.heap.FunFrames X.base X.outer
 Jk:∀b∈X.fs,X.H₀ b=none
structure Inv(X:Cx)(pins:List (Addr×Obj))(σ:List (Option V))(H:Hp)(s:Shared):Prop where
 ok:X.Ok
 os:s.os=X.s₀.os
 bare:AllBare s.gens
 base:Un X.fs X.ex X.H₀ H X.s₀.heap s.heap
 loc:∃m,s.heap.Ns X.env.locals m/\∀(i:Nat)(x:Str)(v:V),X.N[i]?=some x->σ[i]?=some (some v)->Pa X.env.scope x->∃u,RelV v u/\Look X.env s.heap m x u
 cell:∀x c,X.env.cells.lookup x=some c->∃v,s.heap.IsCell c v
 free:H X.env.locals=none
 gq:∀x c,X.env.cells.lookup x=some c->H c=none
 pin:∀p∈X.pn++pins,s.heap.get? p.1=some p.2/\H p.1=none/\p.1≠X.env.locals/\p.1∉X.fs/\∀v,p.2.data≠.cell v
 hok:gn X.prog X.w H s.heap
 len:σ.length=X.N.length
section
variable{X:Cx}{pins:List (Addr×Obj)}{σ:List (Option V)}{H H':Hp}{s:Shared}{h':Heap}
theorem Cx.Ok.V1(ok:X.Ok)(e:X.base.get? b=some o):b∉X.fs:=λhb=>by
 have:=(ok.kI.mem hb).1
 rw[e] at this;cases this
theorem Inv.bs(I:Inv X pins σ H s):∀b o,X.base.get? b=some o->s.heap.get? b=some o/\H b=none:=λb o e =>
 ⟨I.base.keep b o (I.ok.bs b o e).1 (I.ok.bs b o e).2 (I.ok.V1 e) (I.ok.xu b o e),I.base.free b o (I.ok.bs b o e).1 (I.ok.bs b o e).2 (I.ok.xu b o e)⟩
theorem Inv.bk(I:Inv X pins σ H s):∀b o,X.base.get? b=some o->s.heap.get? b=some o:=λb o e=>(I.bs b o e).1
theorem Inv.mod(I:Inv X pins σ H s):Mod X.K X.mg X.base:=I.ok.mod
theorem Inv.kJ(I:Inv X pins σ H s):X.K.In s.heap:=I.ok.mod.O_.keeps I.bk
theorem Inv.nolimit(I:Inv X pins σ H s):s.heap.NoLimit:=I.ok.mod.nolimit.keeps I.bk
theorem Inv.lt(I:Inv X pins σ H s):X.env.locals<s.heap.objs.size:=let⟨_,hn,_⟩:=I.loc;hn.lt
theorem Inv.sz(I:Inv X pins σ H s):X.s₀.heap.objs.size<=s.heap.objs.size:=Nat.le_trans I.ok.above (Nat.le_of_lt I.lt)
theorem Inv.Jl(I:Inv X pins σ H s)(h:s.heap.objs.size<=a):a∉X.fs:=λhb=>by
 obtain⟨_,o,ho,_⟩:=I.ok.kI.mem hb
 exact absurd (Nat.lt_of_lt_of_le (lt_size ho) (Nat.le_trans I.sz h)) (Nat.lt_irrefl _)
theorem Inv.Jm(I:Inv X pins σ H s):∀x c,X.env.cells.lookup x=some c->c≠X.env.locals:=λx c e z=>by
 obtain⟨v,o,ho,hd⟩:=I.cell x c e
 obtain⟨m,⟨o',es,ep,ho',hd',_⟩,_⟩:=I.loc
 rw[z,ho'] at ho;cases ho;rw[hd'] at hd;cases hd
theorem Inv.kI(I:Inv X pins σ H s):s.heap.FunFrames X.base X.outer:=by
 have all:∀(l:List Env),(∀b∈frs l,b∈X.fs)->X.s₀.heap.FunFrames X.base l->s.heap.FunFrames X.base l:=by
  intro l
  induction l with
  |nil=>intro _ _;trivial
  |cons env r ih =>
   intro hs hl
   obtain⟨hk,⟨L,o,hf,hn,ho,hd⟩,hr⟩:=hl
   have hL:L∈X.fs:=hs L (by unfold frs;rw[filterMap_cons,hf];exact mem_cons_self)
   obtain⟨sl,e⟩:=I.base.slot L o ho (I.ok.Jk L hL) hL λz=>I.ok.yc L z hL
   exact⟨hk,⟨L,_,hf,hn,e,hd⟩,ih (λb hb=>hs b (by unfold frs;rw[filterMap_cons,hf];exact mem_cons_of_mem _ hb)) hr⟩
 exact all X.outer (λ_ hb=>hb) I.ok.kI
theorem Inv.stack(I:Inv X pins σ H s):s.heap.FunFrames X.base X.stack:=by
 rcases I.ok.stk with e|⟨e,hf⟩
 ·rw[e];exact I.kI
 ·rw[e]
  obtain⟨m,hn,_⟩:=I.loc
  refine .cons (by rw[I.ok.kind];decide) hf hn ?_ I.kI
  exact Heap.get?_none_of_le (Nat.le_trans I.ok.Cv I.ok.above)
theorem Inv.oh(I:Inv X pins σ H s):∀b∈frs X.stack,b∈X.env.locals::X.fs:=λb hb=>by
 rcases I.ok.stk with e|⟨e,hf⟩
 ·rw[e] at hb;exact mem_cons_of_mem _ hb
 ·rw[e] at hb
  unfold frs at hb
  rw[filterMap_cons,hf] at hb
  exact hb
theorem Inv.rQ(I:Inv X pins σ H s):∀b∈frs X.stack,H b=none:=λb hb=>by
 rcases mem_cons.mp (I.oh b hb) with e|hb
 ·rw[e];exact I.free
 ·obtain⟨_,o,ho,_⟩:=I.ok.kI.mem hb
  exact I.base.free b o ho (I.ok.Jk b hb) λz=>I.ok.yc b z hb
theorem Inv.step{g':Array GenState}{t':Nat}{d':Drawn}{ch:List Addr}(I:Inv X pins σ H s)(hch:∀b∈ch,(b∈X.ex\/X.s₀.heap.objs.size<=b)/\b≠X.env.locals/\(∀x c,X.env.cells.lookup x=some c->c≠b)/\∀p∈X.pn++pins,p.1≠b)(keep:∀b o,b≠X.env.locals->b∉X.fs->b∉ch->s.heap.get? b=some o->H b=none->h'.get? b=some o)(slot:∀b o,b≠X.env.locals->b∈X.fs->b∉ch->s.heap.get? b=some o->H b=none->∃sl,h'.get? b=some { o with slots:=sl })(free:∀b o,b∉ch->s.heap.get? b=some o->H b=none->H' b=none)(there:∀b o,b∉ch->s.heap.get? b=some o->∃o',h'.get? b=some o')(tups:∀b xs,H b=some (.tup xs)->H' b=some (.tup xs))(lD:∀b o u,H b=some (.lC o u)->H' b=some (.lC o u))(m7:∀b ps,H b=some (.Ji ps)->∃more,H' b=some (.Ji (ps++more)))(ns:∀m,s.heap.Ns X.env.locals m->h'.Ns X.env.locals m)(hok:gn X.prog X.w H' h')(hg:AllBare g') :
  Inv X pins σ H' { s with heap:=h',gens:=g',drawn:=d',toks:=t' }:=by
 have Z_:∀b o,X.s₀.heap.get? b=some o->b≠X.env.locals:=λb o e=>Nat.ne_of_lt (Nat.lt_of_lt_of_le (lt_size e) I.ok.above)
 have T3:∀b o,X.s₀.heap.get? b=some o->b∉X.ex->b∉ch:=λb o e hx hb=>by
  rcases(hch b hb).1 with z|z
  ·exact hx z
  ·exact absurd (Nat.lt_of_lt_of_le (lt_size e) z) (Nat.lt_irrefl _)
 have cellK:∀x c,X.env.cells.lookup x=some c->∀v,s.heap.IsCell c v->h'.IsCell c v:=λx c e v ⟨o,ho,hd⟩=>by
  have Pb:c∉ch:=λz=>(hch c z).2.2.1 x c e rfl
  by_cases hc:c∈X.fs
  ·obtain⟨sl,q⟩:=slot c o (I.Jm x c e) hc Pb ho (I.gq x c e)
   exact⟨_,q,hd⟩
  ·exact⟨o,keep c o (I.Jm x c e) hc Pb ho (I.gq x c e),hd⟩
 refine⟨I.ok,I.os,hg,⟨λb o e n hb hx=>?_,λb o e n hb hx=>?_,λb o e n hx=>?_,λb o e hx=>?_,λb xs e=>tups b xs (I.base.tups b xs e),λb o xs e=>lD b o xs (I.base.lD b o xs e),λb ps e=>?_⟩,?_,λx c e=>?_,?_,λx c e=>?_,λp hp=>?_,hok,I.len⟩
 ·exact keep b o (Z_ b o e) hb (T3 b o e hx) (I.base.keep b o e n hb hx) (I.base.free b o e n hx)
 ·obtain⟨sl,e1⟩:=I.base.slot b o e n hb hx
  obtain⟨sl',e2⟩:=slot b _ (Z_ b o e) hb (T3 b o e hx) e1 (I.base.free b o e n hx)
  exact⟨sl',e2⟩
 ·obtain⟨o',e1⟩:=I.base.there b o e hx
  exact free b o' (T3 b o e hx) e1 (I.base.free b o e n hx)
 ·obtain⟨o',e1⟩:=I.base.there b o e hx
  exact there b o' (T3 b o e hx) e1
 ·obtain⟨m1,e1⟩:=I.base.m7 b ps e
  obtain⟨m2,e2⟩:=m7 b _ e1
  exact⟨m1++m2,by rw[e2,Array.append_assoc]⟩
 ·obtain⟨m,hn,hl⟩:=I.loc
  refine⟨m,ns m hn,λi x v e1 e2 e3=>?_⟩
  obtain⟨u,r,l⟩:=hl i x v e1 e2 e3
  refine⟨u,r,?_⟩
  rcases l with l|⟨k,c,e,z⟩
  ·exact .inl l
  ·exact .inr ⟨k,c,e,cellK x c e _ z⟩
 ·obtain⟨v,z⟩:=I.cell x c e
  exact⟨v,cellK x c e v z⟩
 ·obtain⟨m,⟨o,_,_,ho,_⟩,_⟩:=I.loc
  exact free _ o (λz=>(hch _ z).2.1 rfl) ho I.free
 ·obtain⟨v,o,ho,hd⟩:=I.cell x c e
  exact free c o (λz=>(hch c z).2.2.1 x c e rfl) ho (I.gq x c e)
 ·obtain⟨e,n,ne,nf,d⟩:=I.pin p hp
  have Pb:p.1∉ch:=λz=>(hch p.1 z).2.2.2 p hp rfl
  exact⟨keep p.1 p.2 ne nf Pb e n,free p.1 p.2 Pb e n,ne,nf,d⟩
theorem Inv.un(I:Inv X pins σ H s)(u:Un X.fs [] H H' s.heap h')(hok:gn X.prog X.w H' h'):Inv X pins σ H' { s with heap:=h',toks:=t' }:=by
 obtain⟨m,⟨o,es,ep,ho,r⟩,_⟩:=id I.loc
 obtain⟨sl,hL⟩:=u.any ho I.free (by simp)
 exact I.step (g':=s.gens) (d':=s.drawn) (ch:=[]) (λ_ z=>nomatch z) (λb o _ hb _ e n=>u.keep b o e n hb (by simp)) (λb o _ hb _ e n=>u.slot b o e n hb (by simp)) (λb o _ e n=>u.free b o e n (by simp)) (λb o _ e=>u.there b o e (by simp)) u.tups u.lD u.m7 (λm' hm=>by
  obtain⟨o',es',ep',ho',r'⟩:=hm
  rw[ho] at ho';cases ho'
  exact⟨_,es',ep',hL,r'⟩) hok I.bare
theorem Inv.call(I:Inv X pins σ H s)(u:Un (frs X.stack) ch H H' s.heap h')(hok:gn X.prog X.w H' h')(hg:AllBare g')(hch:∀b∈ch,(b∈X.ex\/X.s₀.heap.objs.size<=b)/\b≠X.env.locals/\(∀x c,X.env.cells.lookup x=some c->c≠b)/\∀p∈X.pn++pins,p.1≠b) :
  Inv X pins σ H' { s with heap:=h',gens:=g',drawn:=d',toks:=t' }:=by
 obtain⟨m,⟨o,es,ep,ho,r⟩,_⟩:=id I.loc
 obtain⟨sl,hL⟩:=u.any ho I.free λz=>(hch _ z).2.1 rfl
 exact I.step (ch:=ch) hch (λb o hL hb hc e n=>u.keep b o e n (λz=>(mem_cons.mp (I.oh b z)).elim hL hb) hc) (λb o _ _ hc e n=>u.any e n hc) (λb o hc e n=>u.free b o e n hc) (λb o hc e=>u.there b o e hc) u.tups u.lD u.m7 (λm' hm=>by
  obtain⟨o',es',ep',ho',r'⟩:=hm
  rw[ho] at ho';cases ho'
  exact⟨_,es',ep',hL,r'⟩) hok hg
theorem Inv.turned(I:Inv X pins σ H s)(k:∀b o,b≠it->s.heap.get? b=some o->h'.get? b=some o)(hn:H it=none)(hL:it≠X.env.locals)(h1:it∈X.ex\/X.s₀.heap.objs.size<=it)(h2:∀x c,X.env.cells.lookup x=some c->c≠it)(h3:∀p∈X.pn++pins,p.1≠it):Inv X pins σ H { s with heap:=h',toks:=t' }:=by
 have nit:∀b u,H b=some u->b≠it:=λb u e z=>by rw[z,hn] at e;cases e
 refine I.step (g':=s.gens) (d':=s.drawn) (ch:=[it]) (λb hb=>?_) (λb o _ _ hc e _=>k b o (λz=>hc (by simp[z])) e) (λb o _ _ hc e _=>⟨o.slots,k b o (λz=>hc (by simp[z])) e⟩) (λ_ _ _ _ n=>n)
  (λb o hc e=>⟨o,k b o (λz=>hc (by simp[z])) e⟩) (λ_ _ e=>e) (λ_ _ _ e=>e) (λb ps e=>⟨#[],by rw[e];simp⟩) (λm hm=>?_) (λb u e=>?_) I.bare
 ·have e:b=it:=by simpa using hb
  subst e
  exact⟨h1,hL,h2,h3⟩
 ·obtain⟨o,es,ep,ho,r⟩:=hm
  exact⟨o,es,ep,k _ o (Ne.symm hL) ho,r⟩
 ·refine(I.hok b u e).stay (λc v hc q=>k c v ?_ q) (λ_ q=>q) λ_ _ q=>q
  rcases hc with z|z
  ·rw[z];exact nit b u e
  ·exact nit c _ z
theorem Inv.tok(I:Inv X pins σ H s)(t:Nat):Inv X pins σ H { s with toks:=t }:=I.un (h':=s.heap) (t':=t) Un.refl I.hok
theorem Inv.kept(I:Inv X pins σ H s)(k:∀b u,s.heap.get? b=some u->h'.get? b=some u):Inv X pins σ H { s with heap:=h',toks:=t' }:=I.un (Un.kept k) (I.hok.kept k)
theorem Inv.laid(I:Inv X pins σ H s)(k:∀b u,s.heap.get? b=some u->h'.get? b=some u)(hp:s.heap.objs.size<=a)(new:aR X.prog X.w (upd H a o) h' a o) :
  Inv X pins σ (upd H a o) { s with heap:=h',toks:=t' }:=I.un (Un.laid k hp (I.hok.fresh hp)) (I.hok.laid k hp new)
theorem Inv.write(I:Inv X pins σ H s)(mu:O8 (H x))(he:e=x\/H e=some (.own x))(k:∀b u,b≠e->s.heap.get? b=some u->h'.get? b=some u)(heo:∃u,h'.get? e=some u)(new:aR X.prog X.w (upd H x o) h' x o):Inv X pins σ (upd H x o) { s with heap:=h',toks:=t' }:=I.un (Un.write mu he k heo) (I.hok.write mu he k heo new)
theorem Inv.ju(I:Inv X pins σ H s)(h:∀p∈G7,s.heap.get? p.1=some p.2/\H p.1=none/\p.1≠X.env.locals/\p.1∉X.fs/\∀v,p.2.data≠.cell v):Inv X G7 σ H s :=
 ⟨I.ok,I.os,I.bare,I.base,I.loc,I.cell,I.free,I.gq,λp hp=>(mem_append.mp hp).elim (λz=>I.pin p (mem_append_left _ z)) (h p),I.hok,I.len⟩
theorem zLu{N:List Str}(hN:N.Nodup){i j:Nat}{x:Str}(a:N[i]?=some x)(b:N[j]?=some x):i=j:=by
 obtain⟨h1,e1⟩:=List.getElem?_eq_some_iff.mp a
 obtain⟨h2,e2⟩:=List.getElem?_eq_some_iff.mp b
 exact(getElem_inj hN).mp (e1.trans e2.symm)
theorem zIl{Q:Unit->Shared->Prop}(I:Inv X pins σ H s)(hN:X.N.Nodup)(hi:X.N[i]?=some x)(hx:Loc X.env.scope x)(r:RelV v u)(h:∀s',Inv X pins (σ.set i (some v)) H s'->(∃a,SameBut a s.heap s'.heap/\(a=X.env.locals\/X.env.cells.lookup x=some a))->Q () s')(hf:X.fn x=true\/X.env.scope.names.lookup x=some .local:=by first|exact .inl rfl|exact .inr rfl|assumption):wpAny M A (storeName X.env x u) Q E s:=by
 obtain⟨m,hn,hl⟩:=id I.loc
 have hcls:(X.env.scope.kind==.class||(X.env.scope.kind==.module&&X.env.locals != X.env.globals))=false:=by rw[I.ok.kind];rfl
 have Pg:i<σ.length:=by rw[I.len];exact(List.getElem?_eq_some_iff.mp hi).1
 have Jm:=I.Jm
 have tracked:∀{a:Addr}{h':Heap},(∃o,s.heap.get? a=some o/\H a=none)->SameBut a s.heap h'->gn X.prog X.w H h':=λ{a h'} ha hs b ob e=>by
  obtain⟨_,_,hfree⟩:=ha
  refine(I.hok b ob e).stay (λc w' hc q=>(hs.2 c ?_).trans q) (λ_ q=>q) λ_ _ q=>q
  rintro rfl
  rcases hc with rfl|hc
  ·rw[hfree] at e;cases e
  ·rw[hfree] at hc;cases hc
 rcases hx with hk|hk
 ·refine wpAny_storeName_local hk hn (λh' hn' hs=>?_) hcls
  obtain⟨oL,_,_,hoL,_⟩:=id hn
  refine h _ ⟨I.ok,I.os,I.bare,⟨λb o e n hb hx=>?_,λb o e n hb hx=>?_,I.base.free,λb o e hx=>?_,I.base.tups,I.base.lD,I.base.m7⟩,⟨_,hn',λj y v' e1 e2 e3=>?_⟩,λy c e=>?_,I.free,I.gq,λp hp=>?_,tracked ⟨oL,hoL,I.free⟩ hs,by simpa using I.len⟩ ⟨_,hs,.inl rfl⟩
  ·exact(hs.2 b (Nat.ne_of_lt (Nat.lt_of_lt_of_le (lt_size e) I.ok.above))).trans (I.base.keep b o e n hb hx)
  ·obtain⟨sl,e1⟩:=I.base.slot b o e n hb hx
   exact⟨sl,(hs.2 b (Nat.ne_of_lt (Nat.lt_of_lt_of_le (lt_size e) I.ok.above))).trans e1⟩
  ·obtain⟨o',e1⟩:=I.base.there b o e hx
   exact⟨o',(hs.2 b (Nat.ne_of_lt (Nat.lt_of_lt_of_le (lt_size e) I.ok.above))).trans e1⟩
  ·by_cases hj:j=i
   ·subst hj
    rw[hi] at e1;cases e1
    rw[List.getElem?_set_self Pg] at e2
    cases e2
    exact⟨u,r,.inl ⟨hk,by simp⟩⟩
   ·rw[List.getElem?_set_ne (Ne.symm hj)] at e2
    obtain⟨u',r',q⟩:=hl j y v' e1 e2 e3
    refine⟨u',r',?_⟩
    rcases q with⟨k,e⟩|⟨k,c,e,z⟩
    ·refine .inl ⟨k,?_⟩
     have:y≠x:=λe=>hj (zLu hN e1 (e▸hi))
     simp[this,e]
    ·exact .inr ⟨k,c,e,z.sameBut hs (Jm y c e)⟩
  ·obtain⟨w',z⟩:=I.cell y c e
   exact⟨w',z.sameBut hs (Jm y c e)⟩
  ·obtain⟨e,n,ne,nf,d⟩:=I.pin p hp
   exact⟨(hs.2 p.1 ne).trans e,n,ne,nf,d⟩
 ·have hfn:X.fn x=true:=by
   rcases hf with z|z
   ·exact z
   ·rw[z] at hk;cases hk
  obtain⟨c,hc⟩:=I.ok.has x (.inl hk)
  obtain⟨w',z⟩:=I.cell x c hc
  refine wpAny_storeName_cell I.ok.kind hk hc z (λh' hc' hs=>?_)
  obtain⟨oc,hoc,V2⟩:=id z
  refine h { s with heap:=h' } ⟨I.ok,I.os,I.bare,⟨λb o e n hb hx=>?_,λb o e n hb hx=>?_,I.base.free,λb o e hx=>?_,I.base.tups,I.base.lD,I.base.m7⟩,⟨m,hn.sameBut hs (Ne.symm (Jm x c hc)),λj y v' e1 e2 e3=>?_⟩,λy c' e=>?_,I.free,I.gq,λp hp=>?_,tracked ⟨oc,hoc,I.gq x c hc⟩ hs,by simpa using I.len⟩ ⟨c,hs,.inr hc⟩
  ·exact(hs.2 b (Nat.ne_of_lt (Nat.lt_of_lt_of_le (lt_size e) (I.ok.cab x c hfn hc)))).trans (I.base.keep b o e n hb hx)
  ·obtain⟨sl,e1⟩:=I.base.slot b o e n hb hx
   exact⟨sl,(hs.2 b (Nat.ne_of_lt (Nat.lt_of_lt_of_le (lt_size e) (I.ok.cab x c hfn hc)))).trans e1⟩
  ·obtain⟨o',e1⟩:=I.base.there b o e hx
   exact⟨o',(hs.2 b (Nat.ne_of_lt (Nat.lt_of_lt_of_le (lt_size e) (I.ok.cab x c hfn hc)))).trans e1⟩
  ·by_cases hj:j=i
   ·subst hj
    rw[hi] at e1;cases e1
    rw[List.getElem?_set_self Pg] at e2
    cases e2
    exact⟨u,r,.inr ⟨.inl hk,c,hc,hc'⟩⟩
   ·rw[List.getElem?_set_ne (Ne.symm hj)] at e2
    obtain⟨u',r',q⟩:=hl j y v' e1 e2 e3
    refine⟨u',r',?_⟩
    rcases q with q|⟨k,c',e,z'⟩
    ·exact .inl q
    ·refine .inr ⟨k,c',e,z'.sameBut hs ?_⟩
     rintro rfl
     exact hj (zLu hN e1 (I.ok.inj _ _ _ e hc▸hi))
  ·by_cases hcc:c'=c
   ·subst hcc;exact⟨_,hc'⟩
   ·obtain⟨w2,z2⟩:=I.cell y c' e
    exact⟨w2,z2.sameBut hs hcc⟩
  ·obtain⟨e,n,ne,nf,d⟩:=I.pin p hp
   refine⟨(hs.2 p.1 ?_).trans e,n,ne,nf,d⟩
   intro q
   rw[q,hoc] at e
   have q':oc=p.2:=Option.some.inj e
   exact d w' (by rw[<-q'];exact V2)
theorem V3{Q:Unit->Shared->Prop}(I:Inv X pins σ H s)(hN:X.N.Nodup)(hi:X.N[i]?=some x)(hx:Loc X.env.scope x)(r:RelV v u)(h:∀s',Inv X pins (σ.set i (some v)) H s'->Q () s')(hf:X.fn x=true\/X.env.scope.names.lookup x=some .local:=by first|exact .inl rfl|exact .inr rfl|assumption):wpAny M A (storeName X.env x u) Q E s :=
 zIl I hN hi hx r (λs' I' _=>h s' I') hf
theorem Inv.call'{s':Shared}(I:Inv X pins σ H s)(ho:s'.os=s.os)(u:Un (frs X.stack) ch H H' s.heap s'.heap)(hok:gn X.prog X.w H' s'.heap)(hg:AllBare s'.gens)(hch:∀b∈ch,(b∈X.ex\/X.s₀.heap.objs.size<=b)/\b≠X.env.locals/\(∀x c,X.env.cells.lookup x=some c->c≠b)/\∀p∈X.pn++pins,p.1≠b):Inv X pins σ H' s':=by
 obtain⟨h',g',d',t',o'⟩:=s'
 have e:o'=s.os:=ho
 subst e
 exact I.call (g':=g') (t':=t') (d':=d') u hok hg hch
end
abbrev XK:=Value->Option Addr->Hp->Prop
abbrev St:=List (Option V)
abbrev VK:=V->Hp->Prop
abbrev TE:=St->Hp->VK->Prop
abbrev TT:=St->Hp->(Bool->Hp->Prop)->Prop
abbrev TA:=St->Hp->(List V->Hp->Prop)->Prop
structure Ends where
 nx:St->Hp->Prop
 rt:VK
 bk:St->Hp->Prop:=λ_ _=>False
 ct:St->Hp->Prop:=λ_ _=>False
abbrev TS:=Ends->St->Hp->Prop
def EP(X:Cx)(pins:List (Addr×Obj))(σ:St)(Q:VK)(u:Value)(s':Shared):Prop:=∃v H',Inv X pins σ H' s'/\RelV v u/\Q v H'
def TP(X:Cx)(pins:List (Addr×Obj))(σ:St)(Q:Bool->Hp->Prop)(b:Bool)(s':Shared):Prop:=∃H',Inv X pins σ H' s'/\Q b H'
def AP(X:Cx)(pins:List (Addr×Obj))(σ:St)(Q:List V->Hp->Prop)(us:List Value)(s':Shared):Prop:=∃vs H',Inv X pins σ H' s'/\Vals vs us/\Q vs H'
def SP(X:Cx)(pins:List (Addr×Obj))(D:Ends)(f:Flow)(s':Shared):Prop :=
 match f with
 |.next=>∃σ' H',Inv X pins σ' H' s'/\D.nx σ' H'
 |.brk=>∃σ' H',Inv X pins σ' H' s'/\D.bk σ' H'
 |.cont=>∃σ' H',Inv X pins σ' H' s'/\D.ct σ' H'
 |.ret u=>∃v σ' H',Inv X pins σ' H' s'/\RelV v u/\D.rt v H'
def PE(X:Cx)(e:Expr)(t:TE):Prop :=
 ∀(pins:List (Addr×Obj))(s:Shared)(σ:St)(H:Hp)(Q:VK),Inv X pins σ H s->t σ H Q->wpAny (model X.prog X.w) X.A (eval e X.env) (EP X pins σ Q) X.xe s
def PT(X:Cx)(e:Expr)(t:TT):Prop :=
 ∀(pins:List (Addr×Obj))(s:Shared)(σ:St)(H:Hp)(Q:Bool->Hp->Prop),Inv X pins σ H s->t σ H Q->wpAny (model X.prog X.w) X.A (isTrue e X.env (eval e X.env)) (TP X pins σ Q) X.xe s
def PW(X:Cx)(e:Expr)(t:TT):Prop :=
 ∀(whole:Sem Value)(pins:List (Addr×Obj))(s:Shared)(σ:St)(H:Hp)(Q:Bool->Hp->Prop),Inv X pins σ H s->t σ H Q->wpAny (model X.prog X.w) X.A (isTrue e X.env whole) (TP X pins σ Q) X.xe s
theorem PW.pt(h:PW X e t):PT X e t:=h _
def PA(X:Cx)(es:List Expr)(t:TA):Prop :=
 ∀(pos:Pos)(pins:List (Addr×Obj))(s:Shared)(σ:St)(H:Hp)(Q:List V->Hp->Prop),Inv X pins σ H s->t σ H Q->wpAny (model X.prog X.w) X.A (spliced (backTo pos (starEach es X.env))) (AP X pins σ Q) X.xe s
def PS(X:Cx)(st:Stmt)(t:TS):Prop :=
 ∀(pins:List (Addr×Obj))(s:Shared)(σ:St)(H:Hp)(D:Ends),Inv X pins σ H s->t D σ H->wpAny (model X.prog X.w) X.A (exec st X.env) (SP X pins D) X.xe s
def pI(X:Cx)(st:List Stmt)(t:TS):Prop :=
 ∀(pins:List (Addr×Obj))(s:Shared)(σ:St)(H:Hp)(D:Ends),Inv X pins σ H s->t D σ H->wpAny (model X.prog X.w) X.A (execs st X.env) (SP X pins D) X.xe s
theorem aJ{α:Type}{t:Sem α}{Q Q':α->Shared->Prop}(h:wpAny M A t Q E s)(hQ:∀a s,Q a s->Q' a s):wpAny M A t Q' E s:=wpAny_mono h hQ λ_ _ x=>x
section
variable{X:Cx}
def dh(i:Nat):TE:=λσ H Q=>∃v,σ[i]?=some (some v)/\Q v H
def tC(v:V):TE:=λ_ H Q=>Q v H
theorem Jo(hN:X.N[i]?=some x)(hv:Pa X.env.scope x)(hd:(x==("__debug__":Str))=false:=by decide)(hcd:(x==("__classdict__":Str))=false:=by decide):PE X (.Name x pos) (dh i):=by
 intro pins s σ H Q I h
 obtain⟨v,e,h⟩:=h
 obtain⟨m,hn,hl⟩:=I.loc
 obtain⟨u,r,l⟩:=hl i x v hN e hv
 have fin:EP X pins σ Q u s:=⟨v,H,I,r,h⟩
 rcases l with⟨hk,hm⟩|⟨hk,c,hc,hcell⟩
 ·exact wpAny_Name (wpAny_loadName_local I.ok.kind hk hn hm fin) hd
 ·rcases hk with hk|hk
  ·exact wpAny_Name (wpAny_loadName_cell I.ok.kind hk hc hcell fin) hd
  ·exact wpAny_Name (wpAny_loadName_free I.ok.kind hk hc hcell fin hcd) hd
theorem zI{i j pos}:PE X (.Constant (.int i) j pos) (tC (.int i)):=λ_ _ _ H _ I h=>wpAny_Constant_int ⟨.int i,H,I.tok _,⟨_,rfl⟩,h⟩
theorem wS{b j pos}:PE X (.Constant (.bool b) j pos) (tC (.bl b)):=λ_ _ _ H _ I h=>Constant_bool ⟨.bl b,H,I,rfl,h⟩
theorem Ph{j pos}:PE X (.Constant .none j pos) (tC .non):=λ_ _ _ H _ I h=>Constant_none ⟨.non,H,I,rfl,h⟩
theorem vD{x j pos}:PE X (.Constant (.str x) j pos) (tC (.str x)):=λ_ _ _ H _ I h=>Calls.Constant_str ⟨.str x,H,I.tok _,⟨_,rfl⟩,h⟩
def Gl(X:Cx)(x:Str):Prop:=X.env.kindOf x=some .globalImplicit
theorem V4{Q:Value->Shared->Prop}(I:Inv X pins σ H s)(hg:Gl X x)(hm:X.mg x=some u)(h:Q u s)(hd:(x==("__debug__":Str))=false:=by decide):wpAny (model X.prog X.w) X.A (eval (.Name x pos) X.env) Q E s :=
 Calls.Name_function_global I.ok.kind hg (Calls.loadGlobal_global (by rw[I.ok.glob];exact I.mod.glob.keeps I.bk) hm h) hd
theorem yg{Q:Value->Shared->Prop}(I:Inv X pins σ H s)(hg:Gl X x)(hm:X.mg x=none)(hv:bootBuiltins x=some u)(h:Q u s)(hn:x ≠ "__name__":=by decide)(hd:(x==("__debug__":Str))=false:=by decide):wpAny (model X.prog X.w) X.A (eval (.Name x pos) X.env) Q E s:=by
 obtain⟨mb,h1,h2⟩:=I.mod.blt
 exact Calls.Name_function_global I.ok.kind hg (Calls.loadGlobal_builtin (by rw[I.ok.glob];exact I.mod.glob.keeps I.bk) hm (by rw[I.ok.blt];exact h1.keeps I.bk) ((h2 x hn).trans hv) h) hd
theorem T4(hg:Gl X x)(hm:X.mg x=some u)(r:RelV v u)(hd:(x==("__debug__":Str))=false:=by decide):PE X (.Name x pos) (tC v) :=
 λ_ _ _ H _ I h=>V4 I hg hm ⟨v,H,I,r,h⟩ hd
theorem Cw(hg:Gl X x)(hm:X.mg x=none)(hv:bootBuiltins x=some u)(r:RelV v u)(hn:x ≠ "__name__":=by decide)(hd:(x==("__debug__":Str))=false:=by decide):PE X (.Name x pos) (tC v) :=
 λ_ _ _ H _ I h=>yg I hg hm hv ⟨v,H,I,r,h⟩ hn hd
variable{a b:Expr}{ta tb:TE}{pos:Pos}
def PC(X:Cx)(op:CmpOp)(a b:Expr)(t:TE):Prop :=
 ∀(pins:List (Addr×Obj))(s:Shared)(σ:St)(H:Hp)(Q:VK),Inv X pins σ H s->t σ H Q ->
  wpAny (model X.prog X.w) X.A (eval a X.env) (λv s₁=>wpAny (model X.prog X.w) X.A (eval b X.env) (λu s₂=>wpAny (model X.prog X.w) X.A (compareOp op v u) (EP X pins σ Q) X.xe s₂) X.xe s₁) X.xe s
theorem zLv(b:Expr)(h:op≠.In)(h2:op≠.NotIn):behindInMarks op b=false:=by
 have e1:(op==CmpOp.In)=false:=by cases op<;>first|rfl|exact absurd rfl h
 have e2:(op==CmpOp.NotIn)=false:=by cases op<;>first|rfl|exact absurd rfl h2
 cases b<;>simp[behindInMarks,e1,e2]
def Pj(ta:TE):TE:=λσ H Q=>ta σ H λx H1=>Q (.bl (decide (x=.non))) H1
def G8(ta:TE):TE:=λσ H Q=>ta σ H λx H1=>Q (.bl (!decide (x=.non))) H1
theorem RelV.pO(r:RelV x v):(v==Value.none)=decide (x=.non):=by
 cases x with
 |non=>cases r;rfl
 |bl _=>cases r;rfl
 |int _=>obtain⟨t,rfl⟩:=r;rfl
 |str _=>obtain⟨t,rfl⟩:=r;rfl
 |BL _=>obtain⟨t,rfl⟩:=r;rfl
 |flt _=>obtain⟨t,rfl⟩:=r;rfl
 |ref _=>cases r;rfl
 |ty _=>cases r;rfl
theorem Cy{j pos'}(ha:PE X a ta):PC X .Is a (.Constant .none j pos') (Pj ta):=by
 intro pins s σ H Q I h
 refine aJ (ha pins s σ H _ I h) λv s1 ⟨x,H1,I1,r1,q1⟩=>?_
 exact Constant_none (is_none_gen ⟨.bl _,H1,I1,by rw[r1.pO];rfl,q1⟩)
theorem zPd{j pos'}(ha:PE X a ta):PC X .IsNot a (.Constant .none j pos') (G8 ta):=by
 intro pins s σ H Q I h
 refine aJ (ha pins s σ H _ I h) λv s1 ⟨x,H1,I1,r1,q1⟩=>?_
 exact Constant_none (isnot_none_gen ⟨.bl _,H1,I1,by rw[r1.pO];rfl,q1⟩)
def tB(t:TE):TT:=λσ H Q=>t σ H λx H1=>∃c,x=.bl c/\Q c H1
theorem Jp(h:PC X op a b t)(h1:behindInMarks op b=false:=by first|exact zLv _ (by decide) (by decide)|rfl):PE X (.Compare a [op] [b] pos) t:=λpins s σ H Q I hw=>wpAny_Compare1 (h pins s σ H Q I hw) h1
theorem rR(h:PC X op a b t)(h1:behindInMarks op b=false:=by first|exact zLv _ (by decide) (by decide)|rfl):PT X (.Compare a [op] [b] pos) (tB t):=by
 intro pins s σ H Q I hw
 refine wpAny_isTrue_Compare1 (aJ (h pins s σ H _ I hw) λv s1 h1=>aJ h1 λu s2 h2=>aJ h2 λc s3 ⟨x,H1,I1,r1,q1⟩=>?_) h1
 obtain⟨d,rfl,q⟩:=q1
 cases r1
 exact wpAny_truthy_bool ⟨H1,I1,q⟩
theorem wN(h:PE X e t)(he:∀whole,isTrue e X.env whole=(do let v <-whole;standAt e.pos;holding [v] (truthy v)):=by intro _;rfl):PT X e (tB t):=by
 intro pins s σ H Q I hw
 refine isTrue_plain (aJ (h pins s σ H _ I hw) λv s1 ⟨x,H1,I1,r1,q1⟩=>?_) (he _)
 obtain⟨d,rfl,q⟩:=q1
 cases r1
 exact wpAny_truthy_bool ⟨H1,I1,q⟩
variable{tA T5:TT}{rest:List Expr}
def Pk(t u:TT):TT:=λσ H Q=>t σ H λc H1=>if c=true then u σ H1 Q else Q false H1
def tOr(t u:TT):TT:=λσ H Q=>t σ H λc H1=>if c=true then Q true H1 else u σ H1 Q
def Pn(t:TT):TT:=λσ H Q=>t σ H λc H1=>Q (!c) H1
theorem pw_and1(ha:PT X a tA):PW X (.BoolOp .And [a] pos) tA:=by
 intro wh pins s σ H Q I h
 refine isTrue_and (aJ (ha pins s σ H Q I h) λc s1 e=>?_)
 cases c with
 |true=>exact isTrue_and_nil e
 |false=>exact e
theorem pw_or1(ha:PT X a tA):PW X (.BoolOp .Or [a] pos) tA:=by
 intro wh pins s σ H Q I h
 refine isTrue_or (aJ (ha pins s σ H Q I h) λc s1 e=>?_)
 cases c with
 |false=>exact isTrue_or_nil e
 |true=>exact e
theorem pw_and(ha:PT X a tA)(hb:PW X (.BoolOp .And (b::rest) pos) T5):PW X (.BoolOp .And (a::b::rest) pos) (Pk tA T5):=by
 intro wh pins s σ H Q I h
 refine isTrue_and (aJ (ha pins s σ H _ I h) λc s1 ⟨H1,I1,q1⟩=>?_)
 cases c with
 |true=>exact hb wh pins s1 σ H1 Q I1 q1
 |false=>exact⟨H1,I1,q1⟩
theorem pw_or(ha:PT X a tA)(hb:PW X (.BoolOp .Or (b::rest) pos) T5):PW X (.BoolOp .Or (a::b::rest) pos) (tOr tA T5):=by
 intro wh pins s σ H Q I h
 refine isTrue_or (aJ (ha pins s σ H _ I h) λc s1 ⟨H1,I1,q1⟩=>?_)
 cases c with
 |true=>exact⟨H1,I1,q1⟩
 |false=>exact hb wh pins s1 σ H1 Q I1 q1
theorem wW(ha:PT X a tA):PT X (.UnaryOp .Not a pos) (Pn tA):=by
 intro pins s σ H Q I h
 exact isTrue_not (ha pins s σ H (λc H1=>Q (!c) H1) I h)
def G9(ta tb:TE):TE:=λσ H Q=>ta σ H λx H1=>∃c,x=.bl c/\if c=true then tb σ H1 Q else Q (.bl false) H1
def Pq(ta tb:TE):TE:=λσ H Q=>ta σ H λx H1=>∃c,x=.bl c/\if c=true then Q (.bl true) H1 else tb σ H1 Q
def G_(ta:TE):TE:=λσ H Q=>ta σ H λx H1=>∃c,x=.bl c/\Q (.bl (!c)) H1
theorem M6{op}(h:PE X a t):PE X (.BoolOp op [a] pos) t:=λpins s σ H Q I hw=>BoolOp_one (h pins s σ H Q I hw)
theorem M7(ha:PE X a ta)(hb:PE X (.BoolOp .And (b::rest) pos) tb):PE X (.BoolOp .And (a::b::rest) pos) (G9 ta tb):=by
 intro pins s σ H Q I h
 refine BoolOp_and (aJ (ha pins s σ H _ I h) λv s1 ⟨x,H1,I1,r1,q1⟩=>?_)
 obtain⟨c,rfl,q1⟩:=q1
 cases r1
 refine wpAny_truthy_bool ?_
 cases c with
 |true=>exact hb pins s1 σ H1 Q I1 q1
 |false=>exact⟨.bl false,H1,I1,rfl,q1⟩
theorem Pr(ha:PE X a ta)(hb:PE X (.BoolOp .Or (b::rest) pos) tb):PE X (.BoolOp .Or (a::b::rest) pos) (Pq ta tb):=by
 intro pins s σ H Q I h
 refine BoolOp_or (aJ (ha pins s σ H _ I h) λv s1 ⟨x,H1,I1,r1,q1⟩=>?_)
 obtain⟨c,rfl,q1⟩:=q1
 cases r1
 refine wpAny_truthy_bool ?_
 cases c with
 |false=>exact hb pins s1 σ H1 Q I1 q1
 |true=>exact⟨.bl true,H1,I1,rfl,q1⟩
theorem zUg(ha:PE X a ta):PE X (.UnaryOp .Not a pos) (G_ ta):=by
 intro pins s σ H Q I h
 refine UnaryOp_ (aJ (ha pins s σ H _ I h) λv s1 ⟨x,H1,I1,r1,q1⟩=>?_)
 obtain⟨c,rfl,q1⟩:=q1
 cases r1
 exact not_of (wpAny_truthy_bool ⟨.bl (!c),H1,I1,rfl,q1⟩)
def tIf(t:TT)(ta tb:TE):TE:=λσ H Q=>t σ H λc H1=>if c=true then ta σ H1 Q else tb σ H1 Q
theorem zLq(hc:PT X c tA)(ha:PE X a ta)(hb:PE X b tb):PE X (.IfExp c a b pos) (tIf tA ta tb):=by
 intro pins s σ H Q I h
 refine wpAny_IfExp (aJ (hc pins s σ H _ I h) λd s1 ⟨H1,I1,q1⟩=>?_)
 cases d with
 |true=>exact ha pins s1 σ H1 Q I1 q1
 |false=>exact hb pins s1 σ H1 Q I1 q1
end
def aV(K:PySem.W.Frag)(H:Hp)(a:Addr)(xs:List V):Prop :=
 Rd H a (.lst xs) \/
  ∃(o:Obj)(its:Array Value)(n:Nat),K.lookup a=some o/\o.cls=.type "list" /\ o.dict=none/\o.data=.seq its n/\its.size<=sizeLine/\Vals xs its.toList
def ou(K:PySem.W.Frag)(H:Hp)(a:Addr)(xs:List V):Prop :=
 Rd H a (.tup xs) \/
  ∃(o:Obj)(its:Array Value)(n:Nat),K.lookup a=some o/\o.cls=.type "tuple" /\ o.data=.seq its n/\its.size<=sizeLine/\Vals xs its.toList
def V5:Value->Option V
 |.none=>some .non
 |.bool b=>some (.bl b)
 |.int i _=>some (.int i)
 |.str x _=>some (.str x)
 |.bytes b _=>some (.BL b)
 |.float b _=>some (.flt b)
 |.ref a=>some (.ref a)
 |.type n=>some (.ty n)
 |_=>none
theorem RelV.abs(r:RelV x u):V5 u=some x:=by
 cases x with
 |non=>cases r;rfl
 |bl _=>cases r;rfl
 |int _=>obtain⟨t,rfl⟩:=r;rfl
 |str _=>obtain⟨t,rfl⟩:=r;rfl
 |BL _=>obtain⟨t,rfl⟩:=r;rfl
 |flt _=>obtain⟨t,rfl⟩:=r;rfl
 |ref _=>cases r;rfl
 |ty _=>cases r;rfl
theorem RelV.inj(r:RelV x u)(q:RelV y u):x=y:=Option.some.inj (r.abs.symm.trans q.abs)
theorem Vals.inj:∀{xs ys:List V}{us:List Value},Vals xs us->Vals ys us->xs=ys
 |_,_,_,.nil,.nil=>rfl
 |_,_,_,.cons r t,.cons r' t'=>by rw[r.inj r',Vals.inj t t']
section
variable{X:Cx}{pins:List (Addr×Obj)}{σ:St}{H:Hp}{s:Shared}{a:Addr}{xs ys:List V}
theorem aV.of{K:PySem.W.Frag}(h:H a=some (.lst xs)):aV K H a xs:=.inl (.inl h)
theorem ou.of{K:PySem.W.Frag}(h:H a=some (.tup xs)):ou K H a xs:=.inl (.inl h)
theorem Inv.list(I:Inv X pins σ H s)(h:aV X.K H a xs):∃its:List Value,Vals xs its/\PlainL s.heap a its.toArray/\xs.length<=sizeLine:=by
 rcases h with h|⟨o,its,n,hk,hc,hd,hs,hz,r⟩
 ·obtain⟨z,its,n,r,e⟩:=h.ok I.hok
  exact⟨its,r,⟨_,n,e,rfl,rfl,rfl⟩,z⟩
 ·refine⟨its.toList,r,⟨o,n,I.kJ a o hk,hc,hd,by simpa using hs⟩,?_⟩
  have e:=r.length
  simp only[length_toList] at e
  omega
theorem Inv.tuple(I:Inv X pins σ H s)(h:ou X.K H a xs):∃its:List Value,Vals xs its/\IsTup s.heap a its.toArray/\xs.length<=sizeLine:=by
 rcases h with h|⟨o,its,n,hk,hc,hs,hz,r⟩
 ·obtain⟨z,its,r,p⟩:=h.ok I.hok
  exact⟨its,r,p,z⟩
 ·refine⟨its.toList,r,⟨o,I.kJ a o hk,hc,n,by simpa using hs⟩,?_⟩
  have e:=r.length
  simp only[length_toList] at e
  omega
theorem Inv.pP(I:Inv X pins σ H s)(h:aV X.K H a xs)(h':aV X.K H a ys):xs=ys:=by
 obtain⟨its,r,⟨o,n,e,_,_,d⟩,_⟩:=I.list h
 obtain⟨its',r',⟨o',n',e',_,_,d'⟩,_⟩:=I.list h'
 rw[e] at e';cases e'
 rw[d] at d'
 injection d' with d1 _
 have:its=its':=by simpa using congrArg Array.toList d1
 subst this
 exact r.inj r'
end
abbrev Cx.wish(X:Cx)(E:Value->Shared->Prop):Cx:={ X with xe:=E }
abbrev Cx.yh(X:Cx):Cx:=X.wish λ_ _=>False
theorem Cx.Ok.wish{X:Cx}(ok:X.Ok)(E:Value->Shared->Prop):(X.wish E).Ok :=
 ⟨ok.mod,ok.kind,ok.glob,ok.blt,ok.above,ok.inj,ok.has,ok.cab,ok.hd,ok.frames,ok.stk,ok.TY,ok.bs,ok.Cv,ok.xu,ok.yc,ok.kI,ok.Jk⟩
theorem Cx.Ok.gw{X:Cx}(ok:(X.wish E).Ok):X.Ok :=
 ⟨ok.mod,ok.kind,ok.glob,ok.blt,ok.above,ok.inj,ok.has,ok.cab,ok.hd,ok.frames,ok.stk,ok.TY,ok.bs,ok.Cv,ok.xu,ok.yc,ok.kI,ok.Jk⟩
section
variable{X:Cx}{pins:List (Addr×Obj)}{σ:St}{H:Hp}{s:Shared}{E:Value->Shared->Prop}
theorem Inv.wish(I:Inv X pins σ H s)(E:Value->Shared->Prop):Inv (X.wish E) pins σ H s:=⟨I.ok.wish E,I.os,I.bare,I.base,I.loc,I.cell,I.free,I.gq,I.pin,I.hok,I.len⟩
theorem Inv.gw(I:Inv (X.wish E) pins σ H s):Inv X pins σ H s:=⟨I.ok.gw,I.os,I.bare,I.base,I.loc,I.cell,I.free,I.gq,I.pin,I.hok,I.len⟩
theorem SP.gw(h:SP (X.wish E) pins D f s'):SP X pins D f s':=by
 cases f with
 |next=>obtain⟨σ',H',I,q⟩:=h;exact⟨σ',H',I.gw,q⟩
 |brk=>obtain⟨σ',H',I,q⟩:=h;exact⟨σ',H',I.gw,q⟩
 |cont=>obtain⟨σ',H',I,q⟩:=h;exact⟨σ',H',I.gw,q⟩
 |ret u=>obtain⟨v,σ',H',I,r,q⟩:=h;exact⟨v,σ',H',I.gw,r,q⟩
theorem pI.yh{st:List Stmt}{t:TS}(h:pI X.yh st t):pI X st t:=λpins s σ H D I hw =>
 wpAny_mono (h pins s σ H D (I.wish _) hw) (λ_ _ q=>q.gw) λ_ _ z=>False.elim z
end
section
variable{X:Cx}{st:Stmt}{rest:List Stmt}{t u:TS}{e:Expr}{te:TE}{pos:Pos}
def Pu:TS:=λD σ H=>D.nx σ H
def kO(t u:TS):TS:=λD σ H=>t { D with nx:=u D } σ H
theorem zF:pI X [] Pu:=λ_ _ σ H _ I h=>wpAny_execs_nil ⟨σ,H,I,h⟩
theorem zA(h1:PS X st t)(h2:pI X rest u):pI X (st::rest) (kO t u):=by
 intro pins s σ H D I h
 refine wpAny_execs_cons (aJ (h1 pins s σ H { D with nx:=u D } I h) λf s1 q=>?_)
 cases f with
 |next =>
  obtain⟨σ',H',I',q⟩:=q
  exact h2 pins s1 σ' H' D I' q
 |ret v=>exact q
 |brk=>exact q
 |cont=>exact q
theorem Px(h1:PS X st t):pI X [st] t:=by
 intro pins s σ H D I h
 refine wpAny_execs_cons (aJ (h1 pins s σ H D I h) λf s1 q=>?_)
 cases f with
 |next=>exact wpAny_execs_nil q
 |ret v=>exact q
 |brk=>exact q
 |cont=>exact q
theorem Inv.quiet(I:Inv X pins σ H s):interactive X.env=false:=by simp[interactive,I.ok.kind]
def Hf(te:TE):TS:=λD σ H=>te σ H λ_ H1=>D.nx σ H1
theorem yY(he:PE X e te)(hs:swapsWith e none pos.line X.env=pure false:=by rfl):PS X (.Expr e pos) (Hf te):=by
 intro pins s σ H D I h
 exact wpAny_Expr_any (aJ (he pins s σ H _ I h) λv s1 ⟨x,H1,I1,r1,q1⟩=>⟨σ,H1,I1,q1⟩) I.quiet hs
def yj(te:TE):TS:=λD σ H=>te σ H D.rt
theorem zS(he:PE X e te):PS X (.Return (some e) pos) (yj te):=by
 intro pins s σ H D I h
 exact wpAny_Return_some (aJ (he pins s σ H _ I h) λv s1 ⟨x,H1,I1,r1,q1⟩=>⟨x,σ,H1,I1,r1,q1⟩)
def yp(c:TT)(t u:TS):TS:=λD σ H=>c σ H λb H1=>if b=true then t D σ H1 else u D σ H1
theorem yT(hc:PT X c tc)(ha:pI X a t)(hb:pI X b u):PS X (.If c a b pos) (yp tc t u):=by
 intro pins s σ H D I h
 refine wpAny_If (aJ (hc pins s σ H _ I h) λd s1 ⟨H1,I1,q1⟩=>?_)
 cases d with
 |true=>exact ha pins s1 σ H1 D I1 q1
 |false=>exact hb pins s1 σ H1 D I1 q1
def zT9:TS:=λ_ _ _=>False
theorem uW:pI X sts zT9:=λ_ _ _ _ _ _ h=>h.elim
end
abbrev TG:=V->St->Hp->(St->Hp->Prop)->Prop
abbrev M8:=List V->St->Hp->(St->Hp->Prop)->Prop
def PG(X:Cx)(target:Expr)(t:TG):Prop :=
 ∀(pins:List (Addr×Obj))(s:Shared)(σ:St)(H:Hp)(v:V)(u:Value)(Q:St->Hp->Prop),Inv X pins σ H s->RelV v u->t v σ H Q ->
  wpAny (model X.prog X.w) X.A (assign target X.env u) (λ_ s'=>∃σ' H',Inv X pins σ' H' s'/\Q σ' H') X.xe s
def Py(X:Cx)(ts:List Expr)(t:M8):Prop :=
 ∀(pins:List (Addr×Obj))(s:Shared)(σ:St)(H:Hp)(vs:List V)(us:List Value)(Q:St->Hp->Prop),Inv X pins σ H s->Vals vs us->t vs σ H Q ->
  wpAny (model X.prog X.w) X.A (assignInOrder ((assignEach ts X.env).map (·.2)) us) (λ_ s'=>∃σ' H',Inv X pins σ' H' s'/\Q σ' H') X.xe s
abbrev Jq:=V->V->V->Hp->(Hp->Prop)->Prop
def Jr(X:Cx)(t:Jq):Prop :=
 ∀(pins:List (Addr×Obj))(s:Shared)(σ:St)(H:Hp)(o i v:V)(ov iv u:Value)(Q:Hp->Prop),Inv X pins σ H s->RelV o ov->RelV i iv->RelV v u->t o i v H Q ->
  wpAny (model X.prog X.w) X.A (setItem ov iv u) (λ_ s'=>∃H',Inv X pins σ H' s'/\Q H') X.xe s
abbrev T6:=V->V->Hp->VK->Prop
def T7(X:Cx)(op:Operator)(t:T6):Prop :=
 ∀(pins:List (Addr×Obj))(s:Shared)(σ:St)(H:Hp)(x y:V)(v u:Value)(Q:VK),Inv X pins σ H s->RelV x v->RelV y u->t x y H Q ->
  wpAny (model X.prog X.w) X.A (inplaceOp op v u) (EP X pins σ Q) X.xe s
section
variable{X:Cx}{pos:Pos}
def qH(i:Nat):TG:=λv σ H Q=>Q (σ.set i (some v)) H
theorem yM(hN:X.N.Nodup)(hi:X.N[i]?=some x)(hx:Loc X.env.scope x)(hf:X.fn x=true\/X.env.scope.names.lookup x=some .local:=by first|exact .inl rfl|exact .inr rfl|assumption):PG X (.Name x pos) (qH i):=by
 intro pins s σ H v u Q I r h
 exact wpAny_assign_Name (V3 I hN hi hx r (λs' I'=>⟨_,H,I',h⟩) hf)
def Pz:M8:=λvs σ H Q=>vs=[]/\Q σ H
def yq(t:TG)(u:M8):M8:=λvs σ H Q=>∃v r,vs=v::r/\t v σ H λσ' H'=>u r σ' H' Q
theorem M9:Py X [] Pz:=by
 intro pins s σ H vs us Q I r h
 obtain⟨e,h⟩:=h
 subst e
 cases r
 exact assignInOrder_nil ⟨σ,H,I,h⟩
theorem wR(h1:PG X e t)(h2:Py X es u)(hs:(assignEach (e::es) X.env).map (·.2)=assign e X.env::(assignEach es X.env).map (·.2):=by rfl):Py X (e::es) (yq t u):=by
 intro pins s σ H vs us Q I r h
 obtain⟨v,vr,e1,h⟩:=h
 subst e1
 cases r with
 |cons r rr =>
  rw[hs]
  refine assignInOrder_cons (aJ (h1 pins s σ H _ _ _ I r h) λ_ s1 ⟨σ1,H1,I1,q1⟩=>?_)
  exact h2 pins s1 σ1 H1 _ _ Q I1 rr q1
def Js(K:PySem.W.Frag)(n:Nat)(t:M8):TG:=λv σ H Q=>∃a xs,v=.ref a/\ou K H a xs/\xs.length=n/\t xs σ H Q
theorem PB(hc:X.calm=true)(h:Py X es t)(hn:(assignEach es X.env).length=n:=by rfl)(hst:(assignEach es X.env).findIdx? (·.1)=none:=by rfl):PG X (.Tuple es k pos) (Js X.K n t):=by
 intro pins s σ H v u Q I r hw
 obtain⟨a,xs,e1,hq,hl,hw⟩:=hw
 subst e1
 cases r
 obtain⟨its,rv,ht,hz⟩:=I.tuple hq
 refine assign_Tuple_tuple (I.ok.hd hc) ht (by simp[hn,<-hl,rv.length]) hst λh' hx=>?_
 have I1:Inv X pins σ H { s with heap:=h' }:=I.kept (t':=s.toks) λb o e=>hx b o (Nat.ne_of_lt (lt_size e)) e
 exact h pins _ σ H xs _ Q I1 (by simpa using rv) hw
def PJ(to ti:TE)(t:Jq):TG:=λv σ H Q=>to σ H λo H1=>ti σ H1 λi H2=>t o i v H2 λH3=>Q σ H3
theorem PK(ho:PE X o to)(hi:PE X i ti)(hs:Jr X t)(ha:∀v,assign (.Subscript o i pos) X.env v=(do
   let ov <-holding [v] (eval o X.env)
   let iv <-holding [v,ov] (eval i X.env)
   standAt pos
   holding [v,ov,iv] (setItem ov iv v)
   release [v,ov,iv] []):=by intro _;rfl):PG X (.Subscript o i pos) (PJ to ti t):=by
 intro pins s σ H v u Q I r h
 rw[ha]
 refine wpAny_bind (wpAny_holding (aJ (ho pins s σ H _ I h) λov s1 ⟨x,H1,I1,r1,q1⟩=>?_))
 refine wpAny_bind (wpAny_holding (aJ (hi pins s1 σ H1 _ I1 q1) λiv s2 ⟨y,H2,I2,r2,q2⟩=>?_))
 refine wpAny_bind (wpAny_standAt (wpAny_bind (wpAny_holding (aJ (hs pins s2 σ H2 x y v ov iv u _ I2 r1 r2 r q2) λ_ s3 ⟨H3,I3,q3⟩=>?_))))
 exact wpAny_release ⟨σ,H3,I3,q3⟩
def lE(te:TE)(g:TG):TS:=λD σ H=>te σ H λx H1=>g x σ H1 D.nx
theorem PL(he:PE X e te)(hg:PG X tg g)(hs:swapsWithSole [tg] e pos.line X.env=pure false:=by rfl)(hw:swappedStores [tg] e X.env=pure none:=by rfl)(h1:(assignEach [tg] X.env).map (·.2)=[assign tg X.env]:=by rfl):PS X (.Assign [tg] e pos) (lE te g):=by
 intro pins s σ H D I h
 refine wpAny_Assign_stores (aJ (he pins s σ H _ I h) λv s1 ⟨x,H1,I1,r1,q1⟩=>?_) hs hw
 rw[h1]
 exact aJ (hg pins s1 σ H1 x v _ I1 r1 q1) λ_ s2 q=>q
theorem V6(hN:X.N.Nodup)(hi:X.N[i]?=some x)(hx:Loc X.env.scope x)(he:PE X e te)(hs:swapsWith e (some (.Name x pos')) pos.line X.env=pure false:=by rfl)(hf:X.fn x=true\/X.env.scope.names.lookup x=some .local:=by first|exact .inl rfl|exact .inr rfl|assumption) :
  PS X (.Assign [.Name x pos'] e pos) (lE te (qH i)):=by
 intro pins s σ H D I h
 refine wpAny_Assign_Name (aJ (he pins s σ H _ I h) λv s1 ⟨y,H1,I1,r1,q1⟩=>?_) hs
 exact V3 I1 hN hi hx r1 (λs2 I2=>⟨_,H1,I2,q1⟩) hf
def PN(i:Nat)(te:TE)(ti:T6):TS:=λD σ H=>∃x,σ[i]?=some (some x)/\te σ H λy H1=>ti x y H1 λz H2=>D.nx (σ.set i (some z)) H2
theorem V7(hN:X.N.Nodup)(hi:X.N[i]?=some x)(hx:Loc X.env.scope x)(he:PE X e te)(ho:T7 X op ti)(hf:X.fn x=true\/X.env.scope.names.lookup x=some .local:=by first|exact .inl rfl|exact .inr rfl|assumption) :
  PS X (.AugAssign (.Name x pos') op e pos) (PN i te ti):=by
 intro pins s σ H D I h
 obtain⟨v,e1,h⟩:=h
 obtain⟨m,hn,hl⟩:=I.loc
 have vis:Pa X.env.scope x:=by rcases hx with k|k;exact .inl k;exact .inr (.inl k)
 obtain⟨u,r,l⟩:=hl i x v hi e1 vis
 refine wpAny_AugAssign_Name ?_
 have go:wpAny (model X.prog X.w) X.A (eval e X.env) (λw s₂=>wpAny (model X.prog X.w) X.A (inplaceOp op u w) (λr s₃=>wpAny (model X.prog X.w) X.A (storeName X.env x r) (λ_=>SP X pins D .next) X.xe s₃) X.xe s₂) X.xe s:=by
  refine aJ (he pins s σ H _ I h) λw s1 ⟨y,H1,I1,r1,q1⟩=>?_
  refine aJ (ho pins s1 σ H1 v y u w _ I1 r r1 q1) λz s2 ⟨zv,H2,I2,r2,q2⟩=>?_
  exact V3 I2 hN hi hx r2 (λs3 I3=>⟨_,H2,I3,q2⟩) hf
 rcases l with⟨hk,hm⟩|⟨hk,c,hc,hcell⟩
 ·exact wpAny_loadName_local I.ok.kind hk hn hm go
 ·rcases hk with hk|hk
  ·exact wpAny_loadName_cell I.ok.kind hk hc hcell go
  ·rcases hx with k|k
   ·have:X.env.scope.names.lookup x=some .free:=hk
    rw[k] at this;cases this
   ·have:X.env.scope.names.lookup x=some .free:=hk
    rw[k] at this;cases this
def Hg(to ti te:TE)(Jt:V->V->Hp->VK->Prop)(V8:T6)(Ju:Jq):TS:=λD σ H=>to σ H λo H1=>ti σ H1 λi H2=>Jt o i H2 λx H3=>te σ H3 λy H4=>V8 x y H4 λz H5=>Ju o i z H5 λH6=>D.nx σ H6
def PX(X:Cx)(t:V->V->Hp->VK->Prop):Prop :=
 ∀(pins:List (Addr×Obj))(s:Shared)(σ:St)(H:Hp)(o i:V)(ov iv:Value)(Q:VK),Inv X pins σ H s->RelV o ov->RelV i iv->t o i H Q ->
  wpAny (model X.prog X.w) X.A (getItem ov iv) (EP X pins σ Q) X.xe s
theorem Cz(ho:PE X o to)(hi:PE X i ti)(hg:PX X Jt)(he:PE X e te)(hp:T7 X op V8)(hs:Jr X Ju)(ha:∀ov iv new,augStore i ov iv new=(do holding [new,ov,iv] (setItem ov iv new);release [new,ov,iv] [];pure .next):=by intros;rfl):PS X (.AugAssign (.Subscript o i tpos) op e pos) (Hg to ti te Jt V8 Ju):=by
 intro pins s σ H D I h
 refine wpAny_AugAssign_SubscriptAny (aJ (ho pins s σ H _ I h) λov s1 ⟨x1,H1,I1,r1,q1⟩=>?_) ha
 refine aJ (hi pins s1 σ H1 _ I1 q1) λiv s2 ⟨x2,H2,I2,r2,q2⟩=>?_
 refine aJ (hg pins s2 σ H2 x1 x2 ov iv _ I2 r1 r2 q2) λold s3 ⟨x3,H3,I3,r3,q3⟩=>?_
 refine aJ (he pins s3 σ H3 _ I3 q3) λv s4 ⟨x4,H4,I4,r4,q4⟩=>?_
 refine aJ (hp pins s4 σ H4 x3 x4 old v _ I4 r3 r4 q4) λnew s5 ⟨x5,H5,I5,r5,q5⟩=>?_
 exact aJ (hs pins s5 σ H5 x1 x2 x5 ov iv new _ I5 r1 r2 r5 q5) λ_ s6 ⟨H6,I6,q6⟩=>⟨σ,H6,I6,q6⟩
def T8(f:Int->Int->Int):T6:=λx y H Q=>∃i j,x=.int i/\y=.int j/\Q (.int (f i j)) H
theorem zUo:T7 X .Add (T8 λi j=>i+j):=by
 intro pins s σ H x y v u Q I r1 r2 h
 obtain⟨i,j,e1,e2,q⟩:=h
 subst e1;subst e2
 obtain⟨t,rfl⟩:=r1
 obtain⟨t',rfl⟩:=r2
 exact iadd_int ⟨.int _,H,I.tok _,⟨_,rfl⟩,q⟩
end
section
variable{X:Cx}{pos:Pos}
def zT8(c:TT)(tb:TS):TS:=λD σ H=>∃W:Nat->St->Hp->Prop,(∃m,W m σ H)/\∀m σ H,W m σ H ->
 c σ H λb H1=>if b=true then∃N:St->Hp->Prop,(∀σ' H',N σ' H'->∃m',m'<m/\W m' σ' H')/\tb { D with nx:=N,ct:=N,bk:=D.nx } σ H1 else D.nx σ H1
theorem zLn(hp:PassesOwn (model X.prog X.w) X.A X.env X.xe)(hc:PT X c tc)(hb:pI X body tb):PS X (.While c body [] pos) (zT8 tc tb):=by
 intro pins s σ H D I h
 obtain⟨W,⟨m0,w0⟩,turn⟩:=h
 refine wpAny_While (codeAny_whileLoop (λn s'=>∃σ' H',Inv X pins σ' H' s'/\W n σ' H') ?_ m0 ⟨σ,H,I,w0⟩)
 rintro n s1 ⟨σ1,H1,I1,w1⟩
 refine wpAny_passesOwn hp (aJ (hc pins s1 σ1 H1 _ I1 (turn n σ1 H1 w1)) λb s2 ⟨H2,I2,q2⟩=>?_)
 cases b with
 |true =>
  obtain⟨N,hN,q2⟩:=q2
  rw[if_pos rfl]
  refine wpAny_passesOwn hp (aJ (hb pins s2 σ1 H2 _ I2 q2) λf s3 q3=>?_)
  cases f with
  |next =>
   obtain⟨σ3,H3,I3,n3⟩:=q3
   obtain⟨m',hm,w3⟩:=hN σ3 H3 n3
   exact⟨m',hm,σ3,H3,I3,w3⟩
  |cont =>
   obtain⟨σ3,H3,I3,n3⟩:=q3
   obtain⟨m',hm,w3⟩:=hN σ3 H3 n3
   exact⟨m',hm,σ3,H3,I3,w3⟩
  |brk=>exact q3
  |ret v=>exact q3
 |false =>
  rw[if_neg Bool.false_ne_true]
  exact wpAny_execs_nil ⟨σ1,H2,I2,q2⟩
end
structure It where
 go:Nat->Hp->Prop
 M_:Nat->Hp->V->Hp->Prop
 stop:Nat->Hp->Prop
def kW(X:Cx)(pins:List (Addr×Obj))(H:Hp)(b:Addr):Prop :=
 H b=none/\b≠X.env.locals/\b∉X.fs/\(b∈X.ex\/X.s₀.heap.objs.size<=b)/\(∀x c,X.env.cells.lookup x=some c->c≠b)/\∀p∈X.pn++pins,p.1≠b
theorem Inv.oA(I:Inv X pins σ H s)(hb:s.heap.objs.size<=b)(hn:H' b=none):kW X pins H' b:=by
 refine⟨hn,Nat.ne_of_gt (Nat.lt_of_lt_of_le I.lt hb),I.Jl hb,.inr (Nat.le_trans I.sz hb),λx c e z=>?_,λp hp z=>?_⟩
 ·obtain⟨v,q⟩:=I.cell x c e
  exact absurd (Nat.lt_of_lt_of_le q.lt (by rw[z];exact hb)) (Nat.lt_irrefl _)
 ·exact absurd (Nat.lt_of_lt_of_le (lt_size (I.pin p hp).1) (by rw[z];exact hb)) (Nat.lt_irrefl _)
structure Turn(P:Program)(w:World)(K:PySem.W.Frag)(tg:Expr)(J:It)(fp:List Addr)(it:Addr)(tn:Nat->Heap->Prop):Prop where
 mem:it∈fp
 obj:∀i h,tn i h->∀b∈fp,∃o,h.get? b=some o/\∀v,o.data≠.cell v
 keep:∀i h h',tn i h->(∀b∈fp,∀o,h.get? b=some o->h'.get? b=some o)->tn i h'
 item:∀(X:Cx),X.prog=P->X.w=w->X.K=K->X.calm=true->∀(i:Nat)(pins:List (Addr×Obj))(s:Shared)(σ:St)(H:Hp)(E:Value->Shared->Prop),Inv X pins σ H s->(∀b∈fp,kW X pins H b)->tn i s.heap->J.go i H ->
  wpAny (model P w) X.A (pyNext (.ref it)) (λr s1=>∃u,r=some u /\
   wpAny (model P w) X.A (letOwnedTupleGo tg (.ref it) u) (λ_ s2=>∃x H',Inv X pins σ H' s2/\RelV x u/\J.M_ i H x H'/\tn (i+1) s2.heap/\∀b∈fp,H' b=none) E s1) E s
 done:∀(X:Cx),X.prog=P->X.w=w->X.K=K->X.calm=true->∀(i:Nat)(pins:List (Addr×Obj))(s:Shared)(σ:St)(H:Hp)(E:Value->Shared->Prop),Inv X pins σ H s->(∀b∈fp,kW X pins H b)->tn i s.heap->J.stop i H ->
  wpAny (model P w) X.A (pyNext (.ref it)) (λr s1=>r=none/\Inv X pins σ H s1) E s
 self:∀(A:Around)(i:Nat)(s:Shared)(Q:Value->Shared->Prop)(E:Value->Shared->Prop),tn i s.heap->Q (.ref it) s->wpAny (model P w) A (pyIter (.ref it)) Q E s
abbrev TI:=St->Hp->(It->Hp->Prop)->Prop
def PIE(X:Cx)(pins:List (Addr×Obj))(σ:St)(tg:Expr)(R:It->Hp->Prop)(itv:Value)(s2:Shared):Prop :=
 ∃(it:Addr)(fp:List Addr)(tn:Nat->Heap->Prop)(J:It)(H':Hp),itv=.ref it/\Inv X pins σ H' s2/\Turn X.prog X.w X.K tg J fp it tn/\tn 0 s2.heap/\(∀b∈fp,kW X pins H' b)/\R J H'
def PI(X:Cx)(tg iter:Expr)(wi:TI):Prop :=
 ∀(pins:List (Addr×Obj))(s:Shared)(σ:St)(H:Hp)(R:It->Hp->Prop),Inv X pins σ H s->wi σ H R ->
  wpAny (model X.prog X.w) X.A (eval iter X.env) (λv s1=>wpAny (model X.prog X.w) X.A (pyIter v) (PIE X pins σ tg R) X.xe s1) X.xe s
theorem P0{s:Shared}{Q:Unit->Shared->Prop}(ho:s.heap.get? it=some o)(hc:o.cls=.type n)(hd:o.data=.fields vs)(hn:["enumerate","zip","dict_itemiterator","dict_reverseitemiterator","odict_iterator","itertools.zip_longest","itertools.pairwise"].contains n=false)(hQ:Q () s):wpAny M A (letOwnedTupleGo tg (.ref it) u) Q E s:=by
 unfold letOwnedTupleGo
 cases tg<;>first
  |exact wpAny_pure hQ
  | (cases u<;>first
    |exact wpAny_pure hQ
    | (refine wpAny_bind (wpAny_load ho ?_)
       rw[hc,hd]
       show wpAny M A (if(["enumerate","zip","dict_itemiterator","dict_reverseitemiterator","odict_iterator","itertools.zip_longest","itertools.pairwise"].contains n&&vs[0]?==some (rawInt _))=true then _ else _) Q E s
       rw[if_neg (by intro h;rw[hn,Bool.false_and] at h;cases h)]
       exact wpAny_pure hQ))
def Nb(K:PySem.W.Frag)(a:Addr):It :=
 ⟨λi H=>∃xs x,aV K H a xs/\xs[i]?=some x,λi H x H'=>H'=H/\∀xs,aV K H a xs->xs[i]?=some x,λi H=>∃xs,aV K H a xs/\xs.length<=i⟩
def V9(lo:Int)(n:Nat):It:=⟨λi _=>i<n,λi H x H'=>H'=H/\x=.int (lo+i),λi _=>n<=i⟩
theorem zN9{P:Program}{w:World}{K:PySem.W.Frag}{tg:Expr}(a it:Addr):Turn P w K tg (Nb K a) [it] it (λi h=>h.IsListIter it a i) where
 mem:=by simp
 obj:=λi h st b hb=>by
  have e:b=it:=by simpa using hb
  subst e
  obtain⟨o,e,c,d⟩:=st
  exact⟨o,e,λv z=>by rw[d] at z;cases z⟩
 keep:=λi h h' st k=>st.at λo e=>k it (by simp) o e
 item:=by
  intro X hP hw hK hc i pins s σ H E I hf st hg
  subst hP hw hK
  obtain⟨xs,x,hq,hx⟩:=hg
  obtain⟨its,rv,p,hz⟩:=I.list hq
  obtain⟨u,hu,ru⟩:=rv.get hx
  obtain⟨f0,f1,f2,f3,f4,f5⟩:=hf it (by simp)
  refine wpAny_pyNext_list_item st p.isList (x:=u) (by simpa using hu) λh' st' sb=>?_
  have I1:Inv X pins σ H { s with heap:=h' }:=I.turned (t':=s.toks) (λb o hb e=>(sb.2 b hb).trans e) f0 f1 f3 f4 f5
  obtain⟨o,e,c,d⟩:=id st'
  exact⟨u,rfl,P0 (s:={ s with heap:=h' }) e c d (by decide) ⟨x,H,I1,ru,⟨rfl,λys hy=>by rw[I.pP hy hq];exact hx⟩,st',λb hb=>(hf b hb).1⟩⟩
 done:=by
  intro X hP hw hK hc i pins s σ H E I hf st hg
  subst hP hw hK
  obtain⟨xs,hq,hx⟩:=hg
  obtain⟨its,rv,p,hz⟩:=I.list hq
  obtain⟨f0,f1,f2,f3,f4,f5⟩:=hf it (by simp)
  have hl:=rv.length
  exact wpAny_pyNext_list_end (I.ok.hd hc) st p.isList (by simp;omega) λh' eb=>⟨rfl,I.turned (t':=s.toks) (λb o hb e=>eb b o hb e) f0 f1 f3 f4 f5⟩
 self:=λ_ _ _ _ _ st h=>wpAny_pyIter_listiter st h
theorem zMt{P:Program}{w:World}{K:PySem.W.Frag}{tg:Expr}(it:Addr)(lo:Int)(n:Nat):Turn P w K tg (V9 lo n) [it] it (λi h=>IsRangeIter h it (lo+(i:Nat)*1) ((n:Int)-(i:Nat)) 1) where
 mem:=by simp
 obj:=λi h st b hb=>by
  have e:b=it:=by simpa using hb
  subst e
  exact⟨_,st,λv z=>by
   have z':Data.fields _=Data.cell v:=z
   cases z'⟩
 keep:=λi h h' st k=>k it (by simp) _ st
 item:=by
  intro X hP hw hK hc i pins s σ H E I hf st hg
  subst hP hw hK
  obtain⟨f0,f1,f2,f3,f4,f5⟩:=hf it (by simp)
  have W:=Walks.range (prog:=X.prog) (w:=X.w) (I.ok.hd hc) it lo 1 n
  refine W.item i s _ _ hg st λv h' tk hv st' kk=>?_
  obtain⟨t,rfl⟩:=hv
  have I1:Inv X pins σ H { s with heap:=h',toks:=tk }:=I.turned (λb o hb e=>kk b o (by simpa using hb) e) f0 f1 f3 f4 f5
  refine⟨_,rfl,P0 (s:={ s with heap:=h',toks:=tk }) (n:="range_iterator") st' rfl rfl (by decide) ⟨.int (lo+i),H,I1,⟨t,?_⟩,⟨rfl,rfl⟩,st',λb hb=>(hf b hb).1⟩⟩
  rw[Int.mul_one]
 done:=by
  intro X hP hw hK hc i pins s σ H E I hf st hg
  subst hP hw hK
  obtain⟨f0,f1,f2,f3,f4,f5⟩:=hf it (by simp)
  exact wpAny_pyNext_range_end (I.ok.hd hc) st (by have:n<=i:=hg;omega) λh' eb=>⟨rfl,I.turned (t':=s.toks) (λb o hb e=>eb b o hb e) f0 f1 f3 f4 f5⟩
 self:=λ_ _ _ _ _ st h=>wpAny_pyIter_rangeiter st h
section
variable{X:Cx}{tg:Expr}
def yr(K:PySem.W.Frag)(tl:TE):TI:=λσ H R=>tl σ H λx H1=>∃a,x=.ref a/\(∃xs,aV K H1 a xs)/\R (Nb K a) H1
theorem V_(hl:PE X l tl):PI X tg l (yr X.K tl):=by
 intro pins s σ H R I h
 refine aJ (hl pins s σ H _ I h) λv s1 ⟨x,H1,I1,r1,q1⟩=>?_
 obtain⟨a,e,⟨xs,hq⟩,q⟩:=q1
 subst e
 cases r1
 obtain⟨its,rv,p,hz⟩:=I1.list hq
 refine wpAny_pyIter_list p.isList ?_
 refine⟨s1.heap.objs.size,[s1.heap.objs.size],_,_,H1,rfl,I1.kept (t':=s1.toks) λb o e=>get?_push_of_some _ e,zN9 a _,⟨_,get?_push_size _ rfl,rfl,rfl⟩,λb hb=>?_,q⟩
 have e:b=s1.heap.objs.size:=by simpa using hb
 subst e
 exact I1.oA (Nat.le_refl _) (I1.hok.fresh (Nat.le_refl _))
theorem zSm{pins:List (Addr×Obj)}{σ:St}{H:Hp}{s:Shared}{R:It->Hp->Prop}{E:Value->Shared->Prop}{lo hi:Int}{t u v:Tok}{tk:Nat}(I:Inv X pins σ H s)(h1:-(2^62)<=lo)(h2:lo<2^62)(h3:-(2^62)<=hi)(h4:hi<2^62)(q:R (V9 lo (hi-lo).toNat) H):wpAny (model X.prog X.w) X.A (pyIter (.ref s.heap.objs.size)) (PIE X pins σ tg R) E { s with heap:=s.heap.push { cls:=.type "range",data:=.fields #[.int lo t,.int hi u,.int 1 v] },toks:=tk }:=by
 refine wpAny_pyIter_range (IsRange.new ..) (small_one h1 h2 h3 h4) ?_
 have I1:Inv X pins σ H { s with heap:=s.heap.push { cls:=.type "range",data:=.fields #[.int lo t,.int hi u,.int 1 v] },toks:=tk }:=I.kept λb o e=>get?_push_of_some _ e
 refine⟨(s.heap.push { cls:=.type "range",data:=.fields #[.int lo t,.int hi u,.int 1 v] }).objs.size,[(s.heap.push { cls:=.type "range",data:=.fields #[.int lo t,.int hi u,.int 1 v] }).objs.size],_,_,H,rfl,
  I1.kept (t':=tk) λb o e=>get?_push_of_some _ e,zMt _ lo (hi-lo).toNat,?_,λb hb=>?_,q⟩
 ·have e1:lo+((0:Nat):Int)*1=lo:=by simp
  have e2:(((hi-lo).toNat:Nat):Int)-((0:Nat):Int)=Builtin.Range.rangeSize lo hi 1:=by rw[rangeSize_one];split<;>omega
  show IsRangeIter _ _ (lo+((0:Nat):Int)*1) ((((hi-lo).toNat:Nat):Int)-((0:Nat):Int)) 1
  rw[e1,e2]
  exact get?_push_size _ rfl
 ·have e:b=(s.heap.push { cls:=.type "range",data:=.fields #[.int lo t,.int hi u,.int 1 v] }).objs.size:=by simpa using hb
  subst e
  exact I1.oA (Nat.le_refl _) (I1.hok.fresh (Nat.le_refl _))
def Hh(ta:TA):TI:=λσ H R=>ta σ H λvs H1=>∃j:Int,vs=[.int j] /\ -(2^62)<=j/\j<2^62/\R (V9 0 j.toNat) H1
theorem yL(hg:Gl X "range")(hm:X.mg "range" = none)(ha:PA X [a] ta)(hs:starEach [a] X.env=[(false,eval a X.env)]:=by rfl):PI X tg (.Call (.Name "range" p) [a] [] pos) (Hh ta):=by
 intro pins s σ H R I h
 refine Call_ (yg I hg hm boot_range (PyProof.Rows.callWith_type1 (aJ (ha pos pins s σ H _ I h) λus s1 ⟨vs,H1,I1,r1,q1⟩=>?_) hs rfl))
 obtain⟨j,e,q1,q2,q⟩:=q1
 subst e
 cases r1 with
 |cons r rr =>
  cases rr
  obtain⟨t,rfl⟩:=r
  exact call_range_1 (zSm I1 (by omega) (by omega) q1 q2 (by simpa using q))
def Jv(wi:TI)(g:TG)(tb:TS):TS:=λD σ H=>wi σ H λJ H1=>∃W:Nat->Nat->St->Hp->Prop,(∃m,W 0 m σ H1)/\∀i m σ H,W i m σ H ->
 (J.stop i H/\D.nx σ H)\/(J.go i H/\∃N:St->Hp->Prop,(∀σ' H',N σ' H'->∃m',m'<m/\W (i+1) m' σ' H')/\∀x H',J.M_ i H x H'->g x σ H' λσ2 H2=>tb { D with nx:=N,ct:=N,bk:=D.nx } σ2 H2)
def Nf(fp:List Addr)(h:Heap):List (Addr×Obj):=fp.filterMap λb=>(h.get? b).map λo=>(b,o)
theorem P_{h:Heap}(hb:b∈fp)(e:h.get? b=some o):(b,o)∈Nf fp h:=List.mem_filterMap.mpr ⟨b,hb,by rw[e];rfl⟩
theorem zPr(hp:p∈Nf fp h):p.1∈fp/\h.get? p.1=some p.2:=by
 obtain⟨b,hb,e⟩:=List.mem_filterMap.mp hp
 cases q:h.get? b with
 |none=>rw[q] at e;cases e
 |some o =>
  rw[q] at e
  have e':(b,o)=p:=Option.some.inj e
  subst e'
  exact⟨hb,q⟩
theorem Inv.pinned(I:Inv X pins σ H s)(hf:∀b∈fp,kW X pins H b)(ho:∀b∈fp,∃o,s.heap.get? b=some o/\∀v,o.data≠.cell v):Inv X (pins++Nf fp s.heap) σ H s :=
 I.ju λp hp=>(mem_append.mp hp).elim (λz=>I.pin p (mem_append_right _ z)) λz=>by
  obtain⟨hb,e⟩:=zPr z
  obtain⟨f0,f1,f2,_⟩:=hf p.1 hb
  obtain⟨o,e',d⟩:=ho p.1 hb
  rw[e] at e';cases e'
  exact⟨e,f0,f1,f2,d⟩
theorem Inv.jw(I:Inv X (pins++pl) σ H s):Inv X pins σ H s:=I.ju λp hp=>I.pin p (mem_append_right _ (mem_append_left _ hp))
theorem yN(hp:PassesOwn (model X.prog X.w) X.A X.env X.xe)(hc:X.calm=true)(hi:PI X tg iter wi)(hg:PG X tg g)(hb:pI X body tb)(hs:∀x,foldedSetIterable iter X.env x=pure x:=by intro _;rfl):PS X (.For tg iter body [] pos) (Jv wi g tb):=by
 intro pins s σ H D I h
 refine wpAny_For (aJ (hi pins s σ H _ I h) λv s1 h1=>aJ h1 λitv s2 h2=>?_) hs
 obtain⟨it,fp,tn,J,H2,e,I2,T,st2,f2,W,⟨m0,w0⟩,turn⟩:=h2
 subst e
 have stat:∀{H':Hp},(∀b∈fp,H' b=none)->∀b∈fp,kW X pins H' b:=λhn b hb=>⟨hn b hb,(f2 b hb).2⟩
 refine codeAny_forLoop_any (λn s'=>∃i σ' H',Inv X pins σ' H' s'/\tn i s'.heap/\(∀b∈fp,H' b=none)/\W i n σ' H') ?_ m0 ⟨0,σ,H2,I2,st2,λb hb=>(f2 b hb).1,w0⟩
 rintro n s3 ⟨i,σ3,H3,I3,st3,T9,w3⟩
 rcases turn i n σ3 H3 w3 with⟨stop,qn⟩|⟨go,N,hN,step⟩
 ·refine wpAny_passesOwn hp (aJ (T.done X rfl rfl rfl hc i pins s3 σ3 H3 X.xe I3 (stat T9) st3 stop) λr s4 ⟨hr,I4⟩=>?_)
  subst hr
  exact wpAny_execs_nil ⟨σ3,H3,I4,qn⟩
 ·refine wpAny_passesOwn hp (aJ (T.item X rfl rfl rfl hc i pins s3 σ3 H3 X.xe I3 (stat T9) st3 go) λr s4 ⟨u,hr,h4⟩=>?_)
  subst hr
  refine wpAny_passesOwn hp (aJ h4 λ_ s5 ⟨x,H5,I5,r5,y5,Wb,fr5⟩=>?_)
  have I5':=I5.pinned (stat fr5) (T.obj _ _ Wb)
  refine wpAny_passesOwn hp (aJ (hg _ s5 σ3 H5 x u _ I5' r5 (step x H5 y5)) λ_ s6 ⟨σ6,H6,I6,q6⟩=>?_)
  refine wpAny_passesOwn hp (aJ (hb _ s6 σ6 H6 _ I6 q6) λf s7 q7=>?_)
  have again:∀{σ7:St}{H7:Hp},Inv X (pins++Nf fp s5.heap) σ7 H7 s7->N σ7 H7->∃m,m<n/\∃i σ' H',Inv X pins σ' H' s7/\tn i s7.heap/\(∀b∈fp,H' b=none)/\W i m σ' H':=λ{σ7 H7} I7 n7=>by
   obtain⟨m',hm,w7⟩:=hN σ7 H7 n7
   refine⟨m',hm,i+1,σ7,H7,I7.jw,T.keep _ _ _ Wb λb hb o e=>(I7.pin (b,o) (mem_append_right _ (mem_append_right _ (P_ hb e)))).1,λb hb=>?_,w7⟩
   obtain⟨o,e,d⟩:=T.obj _ _ Wb b hb
   exact(I7.pin (b,o) (mem_append_right _ (mem_append_right _ (P_ hb e)))).2.1
  cases f with
  |next=>obtain⟨σ7,H7,I7,n7⟩:=q7;exact again I7 n7
  |cont=>obtain⟨σ7,H7,I7,n7⟩:=q7;exact again I7 n7
  |brk=>obtain⟨σ7,H7,I7,q7⟩:=q7;exact⟨σ7,H7,I7.jw,q7⟩
  |ret v=>obtain⟨x7,σ7,H7,I7,r7,q7⟩:=q7;exact⟨x7,σ7,H7,I7.jw,r7,q7⟩
end
theorem zTi{K:PySem.W.Frag}{a:Addr}{xs:List V}{g:TG}{tb:TS}{D:Ends}{σ:St}{H:Hp}(Pv:Nat->St->Hp->Prop)(h0:Pv 0 σ H)(hl:∀i σ H,i<=xs.length->Pv i σ H->aV K H a xs)(hs:∀i x σ H,xs[i]?=some x->Pv i σ H->g x σ H λσ2 H2=>tb { D with nx:=Pv (i+1),ct:=Pv (i+1),bk:=D.nx } σ2 H2)(hd:∀σ H,Pv xs.length σ H->D.nx σ H) :
  ∃W:Nat->Nat->St->Hp->Prop,(∃m,W 0 m σ H)/\∀i m σ H,W i m σ H ->
   ((Nb K a).stop i H/\D.nx σ H)\/((Nb K a).go i H/\∃N:St->Hp->Prop,(∀σ' H',N σ' H'->∃m',m'<m/\W (i+1) m' σ' H')/\∀x H',(Nb K a).M_ i H x H'->g x σ H' λσ2 H2=>tb { D with nx:=N,ct:=N,bk:=D.nx } σ2 H2):=by
 refine⟨λi m σ H=>m=xs.length-i/\i<=xs.length/\Pv i σ H,⟨xs.length,by simp,Nat.zero_le _,h0⟩,?_⟩
 rintro i m σ H ⟨rfl,hi,p⟩
 have q:=hl i σ H hi p
 by_cases hlt:i<xs.length
 ·refine .inr ⟨⟨xs,xs[i],q,by simp[hlt]⟩,Pv (i+1),λσ' H' p'=>⟨xs.length-(i+1),by omega,rfl,hlt,p'⟩,λx H' y=>?_⟩
  obtain⟨e,y⟩:=y
  subst e
  exact hs i x σ _ (y xs q) p
 ·have e:i=xs.length:=by omega
  subst e
  exact .inl ⟨⟨xs,q,Nat.le_refl _⟩,hd σ H p⟩
abbrev R2:=V->V->Hp->VK->Prop
def iB(X:Cx)(f:Value->Value->Sem Value)(r:R2):Prop :=
 ∀(pins:List (Addr×Obj))(s:Shared)(σ:St)(H:Hp)(x y:V)(v u:Value)(Q:VK),Inv X pins σ H s->RelV x v->RelV y u->r x y H Q ->
  wpAny (model X.prog X.w) X.A (f v u) (EP X pins σ Q) X.xe s
def Wc(X:Cx)(f:Value->Sem Value)(r:V->Hp->VK->Prop):Prop :=
 ∀(pins:List (Addr×Obj))(s:Shared)(σ:St)(H:Hp)(x:V)(v:Value)(Q:VK),Inv X pins σ H s->RelV x v->r x H Q ->
  wpAny (model X.prog X.w) X.A (f v) (EP X pins σ Q) X.xe s
def qy(X:Cx)(f:Value)(r:List V->Hp->VK->Prop):Prop :=
 ∀(pins:List (Addr×Obj))(s:Shared)(σ:St)(H:Hp)(xs:List V)(us:List Value)(Q:VK),Inv X pins σ H s->Vals xs us->r xs H Q ->
  wpAny (model X.prog X.w) X.A (call f us) (EP X pins σ Q) X.xe s
def Wd(X:Cx)(r:V->Hp->(Bool->Hp->Prop)->Prop):Prop :=
 ∀(pins:List (Addr×Obj))(s:Shared)(σ:St)(H:Hp)(x:V)(v:Value)(Q:Bool->Hp->Prop),Inv X pins σ H s->RelV x v->r x H Q ->
  wpAny (model X.prog X.w) X.A (truthy v) (TP X pins σ Q) X.xe s
def dN(r:R2)(ta tb:TE):TE:=λσ H Q=>ta σ H λx H1=>tb σ H1 λy H2=>r x y H2 Q
def tUn(r:V->Hp->VK->Prop)(ta:TE):TE:=λσ H Q=>ta σ H λx H1=>r x H1 Q
def rI(C:Int->Int->Prop)(g:Int->Int->V):R2:=λx y H Q=>∃i j,x=.int i/\y=.int j/\C i j/\Q (g i j) H
def pJ(g:Int->Int->V):R2:=λx y H Q=>∃i j,x=.int i/\y=.int j/\Q (g i j) H
def rU(g:Int->V):V->Hp->VK->Prop:=λx H Q=>∃i,x=.int i/\Q (g i) H
section
variable{X:Cx}{a b c:Expr}{ta tb tc:TE}{pos:Pos}
theorem CG(ha:PE X a ta)(hb:PE X b tb){R:V->V->Hp->Prop}(I:Inv X pins σ H s)(h:ta σ H λx H1=>tb σ H1 λy H2=>R x y H2){f:Value->Value->Sem Value}(hf:∀v u s2 x y H2,Inv X pins σ H2 s2->RelV x v->RelV y u->R x y H2->wpAny (model X.prog X.w) X.A (f v u) Q X.xe s2) :
  wpAny (model X.prog X.w) X.A (eval a X.env) (λv s₁=>wpAny (model X.prog X.w) X.A (eval b X.env) (λu s₂=>wpAny (model X.prog X.w) X.A (f v u) Q X.xe s₂) X.xe s₁) X.xe s:=by
 refine aJ (ha pins s σ H _ I h) λv s1 ⟨x,H1,I1,r1,q1⟩=>?_
 refine aJ (hb pins s1 σ H1 _ I1 q1) λu s2 ⟨y,H2,I2,r2,q2⟩=>?_
 exact hf v u s2 x y H2 I2 r1 r2 q2
theorem zZ(ho:iB X (binaryOp op) r)(ha:PE X a ta)(hb:PE X b tb):PE X (.BinOp a op b pos) (dN r ta tb):=by
 intro pins s σ H Q I h
 exact wpAny_BinOp (CG ha hb I h λv u s2 x y H2 I2 rx ry q=>ho pins s2 σ H2 x y v u Q I2 rx ry q)
theorem CJ(ho:Wc X (unaryOp op) r)(ha:PE X a ta):PE X (.UnaryOp op a pos) (tUn r ta):=by
 intro pins s σ H Q I h
 exact UnaryOp_ (aJ (ha pins s σ H _ I h) λv s1 ⟨x,H1,I1,r1,q1⟩=>ho pins s1 σ H1 x v Q I1 r1 q1)
theorem Ng{f:Value->Value->Sem Value}{C:Int->Int->Prop}{g:Int->Int->Int}(rule:∀(i j:Int) (t u:Tok) (s:Shared) (Q:Value->Shared->Prop) (E:Value->Shared->Prop),C i j->Q (.int (g i j) s.toks) { s with toks:=s.toks+1 }->wpAny (model X.prog X.w) X.A (f (.int i t) (.int j u)) Q E s) :
  iB X f (rI C λi j=>.int (g i j)):=by
 intro pins s σ H x y v u Q I rx ry h
 obtain⟨i,j,rfl,rfl,hc,q⟩:=h
 obtain⟨t,rfl⟩:=rx
 obtain⟨t',rfl⟩:=ry
 exact rule i j t t' s _ _ hc ⟨.int (g i j),H,I.tok _,⟨_,rfl⟩,q⟩
theorem Jw{f:Value->Value->Sem Value}{g:Int->Int->Int}(rule:∀(i j:Int) (t u:Tok) (s:Shared) (Q:Value->Shared->Prop) (E:Value->Shared->Prop),Q (.int (g i j) s.toks) { s with toks:=s.toks+1 }->wpAny (model X.prog X.w) X.A (f (.int i t) (.int j u)) Q E s) :
  iB X f (pJ λi j=>.int (g i j)):=by
 intro pins s σ H x y v u Q I rx ry h
 obtain⟨i,j,rfl,rfl,q⟩:=h
 obtain⟨t,rfl⟩:=rx
 obtain⟨t',rfl⟩:=ry
 exact rule i j t t' s _ _ ⟨.int (g i j),H,I.tok _,⟨_,rfl⟩,q⟩
theorem CK{f:Value->Value->Sem Value}{g:Int->Int->Bool}(rule:∀(i j:Int) (t u:Tok) (s:Shared) (Q:Value->Shared->Prop) (E:Value->Shared->Prop),Q (.bool (g i j)) s->wpAny (model X.prog X.w) X.A (f (.int i t) (.int j u)) Q E s) :
  iB X f (pJ λi j=>.bl (g i j)):=by
 intro pins s σ H x y v u Q I rx ry h
 obtain⟨i,j,rfl,rfl,q⟩:=h
 obtain⟨t,rfl⟩:=rx
 obtain⟨t',rfl⟩:=ry
 exact rule i j t t' s _ _ ⟨.bl (g i j),H,I,rfl,q⟩
def Qa(i j:Int):Prop:=0<j/\j<1073741824
def CN(i j:Int):Prop:=0<=j/\j<=1000000/\i.natAbs<2^64
def CP(i j:Int):Prop:=(-(2^64)<i/\i<2^64)\/(-(2^64)<j/\j<2^64)
theorem CP.ok(h:CP i j):IntMulOk i j:=by
 rcases h with⟨h1,h2⟩|⟨h1,h2⟩
 ·exact .of_left (intBits_le_64 h1 h2)
 ·exact .of_right (intBits_le_64 h1 h2)
theorem zMs(k:Nat):(0:Int)<=2^k:=by
 rw[two_pow_cast]
 exact Int.natCast_nonneg _
theorem xL:iB X (binaryOp .Add) (pJ λi j=>.int (i+j)):=Jw λ_ _ _ _ _ _ _ q=>add_int q
theorem T_:iB X (binaryOp .Sub) (pJ λi j=>.int (i-j)):=Jw λ_ _ _ _ _ _ _ q=>sub_int q
theorem Jx:iB X (binaryOp .Mult) (rI CP λi j=>.int (i*j)):=Ng λ_ _ _ _ _ _ _ hc q=>mul_int q hc.ok
theorem uY:iB X (binaryOp .FloorDiv) (rI Qa λi j=>.int (i/j)):=Ng λi j _ _ _ _ _ hc q=>by
 have h1:(0:Int)<j:=hc.1
 have h2:j<1073741824:=hc.2
 exact floordiv_int (by omega) (by rw[Int.fdiv_eq_ediv_of_nonneg i (by omega)];exact q) (.inl (PyProof.noPylong_small (by omega)))
theorem wI:iB X (binaryOp .Mod) (rI (λ_ j=>0<j) λi j=>.int (i%j)):=Ng λi j _ _ _ _ _ hc q=>by
 have h1:(0:Int)<j:=hc
 exact mod_int' (by omega) (by rw[Int.fmod_eq_emod_of_nonneg i (by omega)];exact q)
theorem Wf:iB X (binaryOp .Pow) (rI CN λi j=>.int (i^j.toNat)):=Ng λ_ _ _ _ _ _ _ hc q=>pow_int_small hc.1 hc.2.1 hc.2.2 q
theorem Jy:iB X (binaryOp .LShift) (rI CN λi j=>.int (i*2^j.toNat)):=Ng λ_ _ _ _ _ _ _ hc q=>lshift_int_small hc.1 hc.2.1 hc.2.2 q
theorem Ua:iB X (binaryOp .RShift) (rI (λ_ j=>0<=j) λi j=>.int (i/2^j.toNat)):=Ng λi j _ _ _ _ _ hc q =>
 rshift_int hc (by rw[Int.fdiv_eq_ediv_of_nonneg i (zMs _)];exact q)
theorem Qc:iB X (binaryOp .BitAnd) (pJ λi j=>.int (Builtin.bitAnd i j)):=Jw λ_ _ _ _ _ _ _ q=>and_int q
theorem unI{f:Value->Sem Value}{g:Int->Int}(rule:∀(i:Int) (t:Tok) (s:Shared) (Q:Value->Shared->Prop) (E:Value->Shared->Prop),Q (.int (g i) s.toks) { s with toks:=s.toks+1 }->wpAny (model X.prog X.w) X.A (f (.int i t)) Q E s) :
  Wc X f (rU λi=>.int (g i)):=by
 intro pins s σ H x v Q I rx h
 obtain⟨i,rfl,q⟩:=h
 obtain⟨t,rfl⟩:=rx
 exact rule i t s _ _ ⟨.int (g i),H,I.tok _,⟨_,rfl⟩,q⟩
theorem CQ:Wc X (unaryOp .USub) (rU λi=>.int (-i)):=unI λ_ _ _ _ _ q=>neg_int q
end
section
variable{X:Cx}{a b c:Expr}{ta tb tc:TE}{pos:Pos}
theorem Jz(I:Inv X pins σ H s)(q:Q (.bl k) H)(e:k=k'):EP X pins σ Q (.bool k') s:=by
 subst e
 exact⟨.bl k,H,I,rfl,q⟩
theorem v7:iB X (compareOp .Lt) (pJ λi j=>.bl (decide (i<j))):=CK λ_ _ _ _ _ _ _ q=>lt_int q
theorem Qd:iB X (compareOp .LtE) (pJ λi j=>.bl (decide (i<=j))):=CK λ_ _ _ _ _ _ _ q=>le_int q
theorem Ub:iB X (compareOp .Gt) (pJ λi j=>.bl (decide (j<i))):=CK λ_ _ _ _ _ _ _ q=>gt_int q
theorem Hj:iB X (compareOp .GtE) (pJ λi j=>.bl (decide (j<=i))):=CK λ_ _ _ _ _ _ _ q=>ge_int q
theorem zPh:iB X (compareOp .In) (λx y H Q=>∃i j,x=.str i/\y=.str j/\Q (.bl (!(Builtin.Str.occurrences j i 0 j.length 1).isEmpty)) H):=by
 intro pins s σ H x y v u Q I rx ry h
 obtain⟨i,j,rfl,rfl,q⟩:=h
 obtain⟨t,rfl⟩:=rx
 obtain⟨t',rfl⟩:=ry
 exact in_str (Jz I q rfl)
theorem yJ(b:Expr)(h:op≠.In:=by decide)(h2:op≠.NotIn:=by decide):behindInMarks op b=false:=by
 have e1:(op==CmpOp.In)=false:=by cases op<;>first|rfl|exact absurd rfl h
 have e2:(op==CmpOp.NotIn)=false:=by cases op<;>first|rfl|exact absurd rfl h2
 cases b<;>simp[behindInMarks,e1,e2]
theorem Qe(ho:iB X (compareOp op) r)(ha:PE X a ta)(hb:PE X b tb)(hm:behindInMarks op b=false):PE X (.Compare a [op] [b] pos) (dN r ta tb):=by
 intro pins s σ H Q I h
 exact wpAny_Compare1 (CG ha hb I h λv u s2 x y H2 I2 rx ry q=>ho pins s2 σ H2 x y v u Q I2 rx ry q) hm
def yt(t:TE):TT:=λσ H Q=>t σ H λx H'=>∃k,x=.bl k/\Q k H'
theorem zX(ho:iB X (compareOp op) r)(ha:PE X a ta)(hb:PE X b tb)(hm:behindInMarks op b=false):PT X (.Compare a [op] [b] pos) (yt (dN r ta tb)):=by
 intro pins s σ H Q I h
 refine wpAny_isTrue_Compare1 (aJ (ha pins s σ H _ I h) λv s1 ⟨x,H1,I1,r1,q1⟩=>aJ (hb pins s1 σ H1 _ I1 q1) λu s2 ⟨y,H2,I2,r2,q2⟩ =>
  aJ (ho pins s2 σ H2 x y v u _ I2 r1 r2 q2) λc s3 ⟨z,H3,I3,r3,k,e,q3⟩=>?_) hm
 subst e
 cases r3
 exact wpAny_truthy_bool ⟨H3,I3,q3⟩
def Wg(r r':R2)(ta tb tc:TE):TE:=λσ H Q=>ta σ H λx H1=>tb σ H1 λy H2=>r x y H2 λz H3=>∃k,z=.bl k /\
 (if k=true then tc σ H3 λw' H4=>r' y w' H4 Q else Q (.bl false) H3)
theorem Wh(ho:iB X (compareOp op) r)(ho':iB X (compareOp op') r')(ha:PE X a ta)(hb:PE X b tb)(hc:PE X c tc)(hm:lastMarks [op,op'] [b,c]=false:=by with_unfolding_all rfl):PE X (.Compare a [op,op'] [b,c] pos) (Wg r r' ta tb tc):=by
 intro pins s σ H Q I h
 refine Compare_chain (aJ (ha pins s σ H _ I h) λv s1 ⟨x,H1,I1,r1,q1⟩=>chain_link (aJ (hb pins s1 σ H1 _ I1 q1) λu s2 ⟨y,H2,I2,r2,q2⟩ =>
  aJ (ho pins s2 σ H2 x y v u _ I2 r1 r2 q2) λd s3 ⟨z,H3,I3,r3,k,e,q3⟩=>?_)) hm
 subst e
 cases r3
 refine wpAny_truthy_bool ?_
 cases k with
 |false=>exact ite_ff ⟨.bl false,H3,I3,rfl,q3⟩
 |true=>exact ite_tt (chain_last (aJ (hc pins s3 σ H3 _ I3 q3) λw' s4 ⟨z',H4,I4,r4,q4⟩=>ho' pins s4 σ H4 y z' u w' Q I4 r2 r4 q4))
theorem zSp(ho:iB X (compareOp op) r)(ho':iB X (compareOp op') r')(ha:PE X a ta)(hb:PE X b tb)(hc:PE X c tc)(hm:lastMarks [op,op'] [b,c]=false:=by with_unfolding_all rfl):PT X (.Compare a [op,op'] [b,c] pos) (yt (Wg r r' ta tb tc)):=by
 intro pins s σ H Q I h
 refine isTrue_chain (aJ (ha pins s σ H _ I h) λv s1 ⟨x,H1,I1,r1,q1⟩=>test_link (aJ (hb pins s1 σ H1 _ I1 q1) λu s2 ⟨y,H2,I2,r2,q2⟩ =>
  aJ (ho pins s2 σ H2 x y v u _ I2 r1 r2 q2) λd s3 ⟨z,H3,I3,r3,k,e,q3⟩=>?_)) hm
 subst e
 cases r3
 refine wpAny_truthy_bool ?_
 cases k with
 |false =>
  obtain⟨k',e',q'⟩:=q3
  cases e'
  exact ite_ff ⟨H3,I3,q'⟩
 |true =>
  refine ite_tt (test_last (aJ (hc pins s3 σ H3 _ I3 q3) λw' s4 ⟨z',H4,I4,r4,q4⟩=>aJ (ho' pins s4 σ H4 y z' u w' _ I4 r2 r4 q4) λd' s5 ⟨z2,H5,I5,r5,k2,e2,q5⟩=>?_))
  subst e2
  cases r5
  exact wpAny_truthy_bool ⟨H5,I5,q5⟩
def CT(K:PySem.W.Frag)(x:V)(H:Hp)(k:Bool):Prop :=
 match x with
 |.non=>k=false
 |.bl b=>k=b
 |.int i=>k=(i != 0)
 |.str y=>y.length<=sizeLine/\k=((y.length:Int) != 0)
 |.BL y=>y.size<=sizeLine/\k=((y.size:Int) != 0)
 |.ref p=>(∃xs,aV K H p xs/\k=!xs.isEmpty)\/(∃xs,ou K H p xs/\k=!xs.isEmpty)\/∃kvs,H p=some (.dK kvs)/\k=!kvs.isEmpty
 |_=>False
theorem zNg{κ:Type}{kvs:List (κ×V)}{vs:List (κ×Value)}(r:KV kvs vs):(!vs.isEmpty)=!kvs.isEmpty:=by
 cases r<;>rfl
theorem zGg(r:Vals xs its):(!its.toArray.isEmpty)=!xs.isEmpty:=by
 cases r<;>simp
theorem Hl:(sizeLine:Nat)<2^63:=by rw[sizeLine_eq];decide
theorem JB:Wd X (λx H Q=>∃k,CT X.K x H k/\Q k H):=by
 intro pins s σ H x v Q I rx h
 obtain⟨k,e,q⟩:=h
 have hl:=Hl
 have hs:sizeLine=16777216:=sizeLine_eq
 cases x with
 |non =>
  cases rx
  have e':k=false:=e
  subst e'
  exact truthy_none ⟨H,I,q⟩
 |bl b =>
  cases rx
  have e':k=b:=e
  subst e'
  exact wpAny_truthy_bool ⟨H,I,q⟩
 |int i =>
  obtain⟨t,rfl⟩:=rx
  have e':k=(i != 0):=e
  subst e'
  exact PySem.P.truthy_int ⟨H,I,q⟩
 |str y =>
  obtain⟨t,rfl⟩:=rx
  obtain⟨hy,e'⟩:y.length<=sizeLine/\k=((y.length:Int) != 0):=e
  subst e'
  exact PySem.P.truthy_str (by omega) ⟨H,I.tok _,q⟩
 |BL y =>
  obtain⟨t,rfl⟩:=rx
  obtain⟨hy,e'⟩:y.size<=sizeLine/\k=((y.size:Int) != 0):=e
  subst e'
  exact PySem.W.truthy_bytes (by omega) ⟨H,I.tok _,q⟩
 |ref p =>
  cases rx
  have e':(∃xs,aV X.K H p xs/\k=!xs.isEmpty)\/(∃xs,ou X.K H p xs/\k=!xs.isEmpty)\/∃kvs,H p=some (.dK kvs)/\k=!kvs.isEmpty:=e
  rcases e' with⟨xs,hx,e'⟩|⟨xs,hx,e'⟩|⟨kvs,hx,e'⟩
  ·subst e'
   obtain⟨its,r,pl,hz⟩:=I.list hx
   have hlen:=r.length
   exact wpAny_truthy_list pl.isList (by simp only[size_toArray];omega) ⟨H,I.tok _,by rw[zGg r];exact q⟩
  ·subst e'
   obtain⟨its,r,pl,hz⟩:=I.tuple hx
   have hlen:=r.length
   exact truthy_tuple pl (by simp only[size_toArray];omega) ⟨H,I.tok _,by rw[zGg r];exact q⟩
  ·subst e'
   obtain⟨hz,hS,vs,r,m⟩:kvs.length<=sizeLine/\(p==sysModules)=false/\∃vs,KV kvs vs/\s.heap.DictOf (xN X.prog X.w) p vs:=I.hok p _ hx
   have hlen:kvs.length=vs.length:=Paired.length r
   exact wpAny_truthy_dict hS m (by omega) ⟨H,I.tok _,by rw[zNg r];exact q⟩
 |_=>exact(show False from e).elim
theorem zSo(ha:PE X a ta)(he:∀whole,isTrue a X.env whole=(do let v <-whole;standAt a.pos;holding [v] (truthy v))) :
  PT X a (λσ H Q=>ta σ H λx H'=>∃k,CT X.K x H' k/\Q k H'):=by
 intro pins s σ H Q I h
 exact isTrue_plain (aJ (ha pins s σ H _ I h) λv s1 ⟨x,H1,I1,r1,q1⟩=>JB pins s1 σ H1 x v Q I1 r1 q1) (he _)
theorem zM0:iB X (binaryOp .Add) (λx y H Q=>∃i j,x=.str i/\y=.str j/\i.length+j.length<=sizeLine/\Q (.str (i++j)) H):=by
 intro pins s σ H x y v u Q I rx ry h
 obtain⟨i,j,rfl,rfl,hz,q⟩:=h
 obtain⟨t,rfl⟩:=rx
 obtain⟨t',rfl⟩:=ry
 exact add_str (λt' tk=>⟨.str (i++j),H,I.tok _,⟨_,rfl⟩,q⟩) hz
def zMl(b:Expr):Prop:=∀o i,subscripted b false o i=operate [o,i] (getItem o i)
theorem zKl(ha:PE X a ta)(hb:PE X b tb)(hs:zMl b) :
  PE X (.Subscript a b pos) (dN (λx y H Q=>∃z i c,x=.str z/\y=.int i/\0<=i/\i<2^63/\i<z.length/\z.cps[i.toNat]?=some c/\Q (.str ⟨#[c]⟩) H) ta tb):=by
 intro pins s σ H Q I h
 refine Subscript_ (CG ha hb I h λv u s2 x y H2 I2 rx ry q=>?_)
 obtain⟨z,i,c,rfl,rfl,h0,h63,h1,hc,q⟩:=q
 obtain⟨t,rfl⟩:=rx
 obtain⟨t',rfl⟩:=ry
 have e:seqIndex? i z.length=some i.toNat:=PySem.StrLaws.seqIndex_nonneg h0 h1
 exact tail_any (typeIs_str s2 z t) slot_str_getitem.lookup (getItem_str (c:=c) (by
  have e1:decide (i < -(2^63:Int))=false:=decide_eq_false (by omega)
  have e2:decide (i ≥ 2^63)=false:=decide_eq_false (by omega)
  rw[e1,e2]<;>rfl) (by rw[e];exact hc) ⟨.str ⟨#[c]⟩,H2,I2.tok _,⟨_,rfl⟩,q⟩) (hs _ _)
theorem CV(r:Vals [x] us):∃u,us=[u]/\RelV x u:=by
 cases r with
 |cons r1 r2=>cases r2;exact⟨_,rfl,r1⟩
theorem vals2(r:Vals [x,y] us):∃u w',us=[u,w']/\RelV x u/\RelV y w':=by
 cases r with
 |cons r1 r2 =>
  cases r2 with
  |cons r3 r4=>cases r4;exact⟨_,_,rfl,r1,r3⟩
theorem zRd(hc:X.calm=true):qy X (.builtin "max") (λxs H Q=>∃i j,xs=[.int i,.int j]/\Q (.int (if j > i then j else i)) H):=by
 intro pins s σ H xs us Q I r h
 obtain⟨i,j,rfl,q⟩:=h
 obtain⟨u,w',rfl,⟨t,rfl⟩,⟨t',rfl⟩⟩:=vals2 r
 refine max_two_ints (I.ok.hd hc) λh' tk k=>⟨_,H,I.kept k,?_,q⟩
 by_cases hj:j > i
 ·rw[if_pos hj,if_pos hj];exact⟨_,rfl⟩
 ·rw[if_neg hj,if_neg hj];exact⟨_,rfl⟩
theorem zRf:qy X (.type "int") (λxs H Q=>(∃i,xs=[.int i]/\Q (.int i) H)\/∃k,xs=[.bl k]/\Q (.int (if k then 1 else 0)) H):=by
 intro pins s σ H xs us Q I r h
 rcases h with⟨i,rfl,q⟩|⟨k,rfl,q⟩
 ·obtain⟨u,rfl,t,rfl⟩:=CV r
  exact call_int_int ⟨.int i,H,I,⟨_,rfl⟩,q⟩
 ·obtain⟨u,rfl,r1⟩:=CV r
  cases r1
  exact call_int_bool ⟨.int (if k then 1 else 0),H,I.tok _,⟨_,rfl⟩,q⟩
def Wi(K:PySem.W.Frag)(x:V)(H:Hp)(n:Nat):Prop :=
 match x with
 |.str y=>y.length<=sizeLine/\n=y.length
 |.BL y=>y.size<=sizeLine/\n=y.size
 |.ref p=>(∃xs,aV K H p xs/\n=xs.length)\/∃xs,ou K H p xs/\n=xs.length
 |_=>False
theorem zTv:qy X (.builtin "len") (λxs H Q=>∃x n,xs=[x]/\Wi X.K x H n/\Q (.int n) H):=by
 intro pins s σ H xs us Q I r h
 obtain⟨x,n,rfl,e,q⟩:=h
 obtain⟨u,rfl,rx⟩:=CV r
 have hl:=Hl
 have hs:sizeLine=16777216:=sizeLine_eq
 cases x with
 |str y =>
  obtain⟨t,rfl⟩:=rx
  obtain⟨hy,e'⟩:y.length<=sizeLine/\n=y.length:=e
  subst e'
  exact len_str (by omega) ⟨.int _,H,I.tok _,⟨_,rfl⟩,q⟩
 |BL y =>
  obtain⟨t,rfl⟩:=rx
  obtain⟨hy,e'⟩:y.size<=sizeLine/\n=y.size:=e
  subst e'
  exact PySem.W.len_bytes (by omega) ⟨.int _,H,I.tok _,⟨_,rfl⟩,q⟩
 |ref p =>
  cases rx
  have e':(∃xs,aV X.K H p xs/\n=xs.length)\/∃xs,ou X.K H p xs/\n=xs.length:=e
  rcases e' with⟨xs,hx,e'⟩|⟨xs,hx,e'⟩
  ·subst e'
   obtain⟨its,r',pl,hz⟩:=I.list hx
   have hlen:=r'.length
   exact Calls.call_len_list pl.isList (by simp only[size_toArray];omega) ⟨.int xs.length,H,I.tok _,⟨_,by simp only[size_toArray];rw[hlen]⟩,q⟩
  ·subst e'
   obtain⟨its,r',pl,hz⟩:=I.tuple hx
   have hlen:=r'.length
   exact len_tuple pl (by simp only[size_toArray];omega) ⟨.int xs.length,H,I.tok _,⟨_,by simp only[size_toArray];rw[hlen]⟩,q⟩
 |_=>exact(show False from e).elim
end
structure qI(h:Heap)(x dx C:Addr)(mA:Str->Option Value):Prop where
 obj:h.get? x=some (instObj C dx)
 ns:h.Ns1 dx mA
 ne:dx≠x
theorem zP0{h:Heap}(n:h.Ns1 dx mA):∃od,h.get? dx=some od/\∀name,lookIn name od=some (mA name):=by
 obtain⟨o,es,ep,ho,hd,hk,_,hm⟩:=n
 refine⟨o,ho,λname=>?_⟩
 have e:=hm name
 unfold nsFind findBy at e
 rw[<-Array.find?_toList] at e
 unfold lookIn
 rw[hd]
 dsimp only
 split
 ·rename_i y q
  rw[q] at e
  exact congrArg some e
 ·rename_i q
  rw[q] at e
  have a:es.toList.any (·.refKey)=false:=by
   rw[any_eq_false]
   intro y hy
   obtain⟨z,t,hkey⟩:=hk y (Array.mem_toList_iff.mp hy)
   simp[DictEntry.refKey,hkey]
  have a':¬es.toList.any (·.refKey)=true:=by rw[a];exact Bool.false_ne_true
  rw[if_neg a']
  exact congrArg some e
theorem qI.look(I:qI h x dx C mA):∃od,PySem.W.InstAt h x (instObj C dx) C (some od)/\∀name,lookIn name od=some (mA name) :=
 let⟨od,ho,hl⟩:=zP0 I.ns
 ⟨od,⟨I.obj,rfl,rfl,ho⟩,hl⟩
section
variable{prog:Program}{w:World}{A:Around}{E:Value->Shared->Prop}{s:Shared}{K:PySem.W.Frag}{x dx C f:Addr}{mA:Str->Option Value}{name:Str}{v:Value}
theorem get_map{Q:Value->Shared->Prop}(X:K.In s.heap)(I:qI s.heap x dx C mA)(hg:plainGet K C name=true)(hh:hasDictIn K C=true)(ha:findIn K (.ref C) name=some none)(hv:mA name=some v)(hv':PySem.W.handedIn v=true)(h:Q v { s with toks:=s.toks+1 }) :
  wpAny (model prog w) A (getAttr (.ref x) name expr) Q E s:=by
 obtain⟨od,J,hl⟩:=I.look
 exact PySem.W.get_value X J (plainGet_of hg).1 (PySem.W.findObj_own hh ha rfl (by rw[hl,hv])) hv' h
theorem zTh{Q:Value×List Value->Shared->Prop}(X:K.In s.heap)(I:qI s.heap x dx C mA)(hg:plainGet K C name=true)(hf:findIn K (.ref C) name=some (some (.ref f)))(ht:isFn K (.ref f)=true)(hv:mA name=none)(h:Q (.ref f,[.ref x]) s) :
  wpAny (model prog w) A (getMethod (.ref x) name pl) Q E s:=by
 obtain⟨od,J,hl⟩:=I.look
 exact PySem.W.method_fn X J (plainGet_of hg).1 (plainGet_of hg).2 hf (beq_iff_eq.mp ht) (by show(lookIn name od).map (·.isSome)=some false;rw[hl,hv];rfl) h
theorem CW{Q:Unit->Shared->Prop}(X:K.In s.heap)(I:qI s.heap x dx C mA)(hs:findIn K (.ref C) "__setattr__" = some (some (.builtin "object.__setattr__")))(hp:PySem.W.plainOver K C=true)(ht:takerIn K C name=some none)(hh:hasDictIn K C=true)(hw:PySem.Within mA ns)(hsz:ns.length<=sizeLine)(h:∀h',qI h' x dx C (λy=>if y=name then some v else mA y)->SameBut dx s.heap h'->Q () { s with heap:=h',toks:=s.toks+2 }) :
  wpAny (model prog w) A (setAttr (.ref x) name v) Q E s:=by
 obtain⟨od,J,hl⟩:=I.look
 refine PySem.W.set_plain X J hs (PySem.W.osa_open (s:={ s with toks:=s.toks+1 }) (r:=none) X J hp ht λb=>?_)
 obtain⟨cd,hc,hd'⟩:=PySem.W.any_some hh
 have hx:s.heap.get? x=some ⟨.ref C,some dx,.plain,#[]⟩:=I.obj
 refine wpAny_bind (wpAny_pure (wpAny_bind (wpAny_bind (wpAny_loadPart hx (wpAny_bind (PySem.W.Looks.here (s:={ s with toks:=s.toks+1 }) (PySem.W.looks_clsIn X hc) ?_))))))
 rw[hd']
 refine wpAny_pure (a:=some dx) (wpAny_bind (wpAny_pure (wpAny_bind ?_)))
 refine wpAny_nsSet1 (s:={ s with toks:=s.toks+1 }) I.ns λh' hn2 hs2=>?_
 obtain⟨oD,esD,epD,hoD,hdD,hcD⟩:=hn2.count (PySem.Within.cons name v hw)
 refine wpAny_bind (wpAny_lookBehind hoD (by rw[hdD];exact pastItsLine_dict (Nat.le_trans hcD (by rw[length_cons];omega))) ?_)
 exact wpAny_pure (h _ ⟨(hs2.2 _ (Ne.symm I.ne)).trans I.obj,hn2,I.ne⟩ hs2)
theorem zS7(X:K.In s.heap)(hm:PySem.W.makesIn K C=true)(hi:findIn K (.ref C) "__init__" = some (some (.ref f)))(hf:PySem.W.typeIn K (.ref f)=some (.type "function"))(h:codeAny (model prog w) (A.under (.builtin "type.__call__" ⟨.ref C::vs,kw⟩)) (.call (.ref f) ⟨.ref (s.heap.objs.size+1)::vs,kw⟩) (PySem.W.InitBack (s.heap.objs.size+1) R)
   { s with heap:=(s.heap.push emptyDict).push (instObj C s.heap.objs.size) }) :
  codeAny (model prog w) A (.call (.ref C) ⟨vs,kw⟩) R s:=by
 obtain⟨hh,g,d,t,os⟩:=s
 exact PySem.W.make_core (PySem.W.makes_of X hm) (PySem.W.looks_findIn X hi) (λself=>PySem.W.bind_fn X self hf) (.inl rfl) h
end
def aA(f:Str)(v:V):List (Str×V)->List (Str×V)
 |[]=>[(f,v)]
 | (g,x)::r=>if g=f then(g,v)::r else(g,x)::aA f v r
theorem yI(f g:Str)(v:V):∀fs:List (Str×V),(aA f v fs).lookup g=if g=f then some v else fs.lookup g
 |[]=>by
  show List.lookup g [(f,v)]=_
  by_cases h:g=f
  ·have hb:(g==f)=true:=beq_iff_eq.mpr h
   simp only[List.lookup,hb,if_pos h]
  ·have hb:(g==f)=false:=beq_eq_false_iff_ne.mpr h
   simp only[List.lookup,hb,if_neg h]
 | (k,x)::r=>by
  have ih:=yI f g v r
  rw[show aA f v ((k,x)::r)=(if k=f then(k,v)::r else(k,x)::aA f v r) from rfl]
  by_cases hk:k=f
  ·rw[if_pos hk]
   by_cases h:g=k
   ·have hb:(g==k)=true:=beq_iff_eq.mpr h
    simp only[List.lookup,hb,if_pos (h.trans hk)]
   ·have hb:(g==k)=false:=beq_eq_false_iff_ne.mpr h
    simp only[List.lookup,hb,if_neg (λe:g=f=>h (e.trans hk.symm))]
  ·rw[if_neg hk]
   by_cases h:g=k
   ·have hb:(g==k)=true:=beq_iff_eq.mpr h
    simp only[List.lookup,hb,if_neg (λe:g=f=>hk (h.symm.trans e))]
   ·have hb:(g==k)=false:=beq_eq_false_iff_ne.mpr h
    simp only[List.lookup,hb]
    exact ih
theorem Wj(f:Str)(v:V):∀fs:List (Str×V),f∈(aA f v fs).map (·.1)/\∀g,g∈fs.map (·.1)->g∈(aA f v fs).map (·.1)
 |[]=>⟨by simp[aA],λg h=>by simp at h⟩
 | (k,x)::r=>by
  obtain⟨i1,i2⟩:=Wj f v r
  rw[show aA f v ((k,x)::r)=(if k=f then(k,v)::r else(k,x)::aA f v r) from rfl]
  by_cases hk:k=f
  ·rw[if_pos hk]
   subst hk
   exact⟨by simp,λg h=>by simpa using h⟩
  ·rw[if_neg hk]
   refine⟨?_,λg h=>?_⟩
   ·rw[map_cons]
    exact mem_cons_of_mem _ i1
   ·rw[map_cons] at h ⊢
    rcases mem_cons.mp h with e|e
    ·exact mem_cons.mpr (.inl e)
    ·exact mem_cons_of_mem _ (i2 g e)
theorem zEz(f:Str)(v:V):∀fs:List (Str×V),(aA f v fs).length<=fs.length+1
 |[]=>by simp[aA]
 | (k,x)::r=>by
  have ih:=zEz f v r
  rw[show aA f v ((k,x)::r)=(if k=f then(k,v)::r else(k,x)::aA f v r) from rfl]
  by_cases hk:k=f
  ·rw[if_pos hk,length_cons,length_cons];omega
  ·rw[if_neg hk,length_cons,length_cons];omega
theorem iz.some_of(r:iz (some v) o):∃u,o=some u/\RelV v u:=by
 cases o with
 |none=>exact(show False from r).elim
 |some u=>exact⟨u,rfl,r⟩
theorem iz.none_of(r:iz none o):o=none:=by
 cases o with
 |none=>rfl
 |some u=>exact(show False from r).elim
theorem zQg(r:RelV v u):PySem.W.handedIn u=true:=by
 cases v with
 |non=>cases(show u=Value.none from r);rfl
 |bl b=>cases(show u=Value.bool b from r);rfl
 |int i=>obtain⟨t,e⟩:=(show∃t,u=Value.int i t from r);cases e;rfl
 |str x=>obtain⟨t,e⟩:=(show∃t,u=Value.str x t from r);cases e;rfl
 |BL b=>obtain⟨t,e⟩:=(show∃t,u=Value.bytes b t from r);cases e;rfl
 |flt b=>obtain⟨t,e⟩:=(show∃t,u=Value.float b t from r);cases e;rfl
 |ref a=>cases(show u=Value.ref a from r);rfl
 |ty n=>cases(show u=Value.type n from r);rfl
section
variable{P:Program}{w:World}{H H':Hp}{h h':Heap}{a C dx:Addr}{fs fs':List (Str×V)}
theorem Uc(hok:gn P w H h)(e:H a=some (.ins C dx fs)):∃mA,qI h a dx C mA/\(∀f,iz (fs.lookup f) (mA f))/\PySem.Within mA (fs.map (·.1))/\fs.length<=1000/\H dx=some (.own a):=by
 obtain⟨d,z,ne,ob,mA,n,r,q⟩:=(show aR P w H h a (.ins C dx fs) from hok a _ e)
 exact⟨mA,⟨ob,n,ne⟩,r,q,z,d⟩
end
structure Cls(K:PySem.W.Frag)(C:Addr):Prop where
 pg:plainGet K C Str.empty=true
 hd:hasDictIn K C=true
 po:PySem.W.plainOver K C=true
 sa:findIn K (.ref C) "__setattr__" = some (some (.builtin "object.__setattr__"))
theorem Cls.get{K:PySem.W.Frag}{C:Addr}(c:Cls K C)(f:Str):plainGet K C f=true:=c.pg
def aU(K:PySem.W.Frag)(C:Addr)(f:Str):Prop:=findIn K (.ref C) f=some none
theorem aU.taker{K:PySem.W.Frag}{C:Addr}{f:Str}(n:aU K C f):takerIn K C f=some none:=by
 unfold takerIn
 rw[show findIn K (.ref C) f=some none from n]
 rfl
structure Con(K:PySem.W.Frag)(C:Addr)(f:Str)(v:V)(u:Value):Prop where
 at_:findIn K (.ref C) f=some (some u)
 rel:RelV v u
 get:specialIn K u "__get__" = some none
 cp:PySem.W.copiedNames.contains f=false
structure Meth(K:PySem.W.Frag)(C:Addr)(m:Str)(f:Addr):Prop where
 at_:findIn K (.ref C) m=some (some (.ref f))
 fn:isFn K (.ref f)=true
 kp:keepIn K (.ref f)=true
section
variable{X:Cx}{pins:List (Addr×Obj)}{σ:St}{H:Hp}{s:Shared}{a C dx:Addr}{fs:List (Str×V)}{f:Str}{v:V}{A:Around}{E:Value->Shared->Prop}
theorem zNh{Q:Value->Shared->Prop}(I:Inv X pins σ H s)(e:H a=some (.ins C dx fs))(c:Cls X.K C)(n:aU X.K C f)(l:fs.lookup f=some v)(h:∀u s',Inv X pins σ H s'->RelV v u->Q u s'):wpAny (model X.prog X.w) A (getAttr (.ref a) f b) Q E s:=by
 obtain⟨mA,O,r,_,_,_⟩:=Uc I.hok e
 obtain⟨u,hu,ru⟩:=iz.some_of (v:=v) (o:=mA f) (by rw[<-l];exact r f)
 exact get_map I.kJ O (c.get f) c.hd n hu (zQg ru) (h u _ (I.tok _) ru)
theorem zGj{Q:Value×List Value->Shared->Prop}(I:Inv X pins σ H s)(e:H a=some (.ins C dx fs))(c:Cls X.K C)(k:Meth X.K C m g)(l:fs.lookup m=none)(h:Q (.ref g,[.ref a]) s):wpAny (model X.prog X.w) A (getMethod (.ref a) m pl) Q E s:=by
 obtain⟨mA,O,r,_,_,_⟩:=Uc I.hok e
 have hn:mA m=none:=iz.none_of (by rw[<-l];exact r m)
 exact zTh I.kJ O (c.get m) k.at_ k.fn hn h
theorem zMx{Q:Unit->Shared->Prop}(I:Inv X pins σ H s)(e:H a=some (.ins C dx fs))(c:Cls X.K C)(n:aU X.K C f)(hl:fs.length<1000)(ry:RelV y u)(h:∀s',Inv X pins σ (upd H a (.ins C dx (aA f y fs))) s'->Q () s'):wpAny (model X.prog X.w) A (setAttr (.ref a) f u) Q E s:=by
 obtain⟨mA,O,r,wi,_,ho⟩:=Uc I.hok e
 have hz:(fs.map (·.1)).length<=sizeLine:=by rw[length_map,sizeLine_eq];omega
 refine CW I.kJ O c.sa c.po n.taker c.hd wi hz λh' O' sb=>h _ ?_
 have hd:∃o,h'.get? dx=some o:=let⟨o,_,_,e',_⟩:=O'.ns;⟨o,e'⟩
 refine I.write (x:=a) (e:=dx) (by rw[e];exact True.intro) (.inr ho) (λb q hb z=>(sb.2 b hb).trans z) hd ?_
 refine⟨by rw[zP O.ne];exact ho,?_,O.ne,O'.obj,_,O'.ns,λg=>?_,λg hg=>?_⟩
 ·have:=zEz f y fs;omega
 ·show iz ((aA f y fs).lookup g) (if g=f then some u else mA g)
  rw[yI]
  by_cases q:g=f
  ·rw[if_pos q,if_pos q];exact ry
  ·rw[if_neg q,if_neg q];exact r g
 ·by_cases q:g=f
  ·rw[q];exact(Wj f y fs).1
  ·refine(Wj f y fs).2 g (wi g λz=>hg ?_)
   show(if g=f then some u else mA g)=none
   rw[if_neg q];exact z
theorem Inv.made(I:Inv X pins σ H s):Inv X pins σ (upd (upd H s.heap.objs.size (.own (s.heap.objs.size+1))) (s.heap.objs.size+1) (.ins C s.heap.objs.size []))
  { s with heap:=(s.heap.push emptyDict).push (instObj C s.heap.objs.size) }:=by
 have e1:(s.heap.push emptyDict).get? s.heap.objs.size=some emptyDict:=get?_push_size s.heap rfl
 have e2:((s.heap.push emptyDict).push (instObj C s.heap.objs.size)).get? (s.heap.objs.size+1)=some (instObj C s.heap.objs.size):=by
  have:=get?_push_size (s.heap.push emptyDict) (o:=instObj C s.heap.objs.size) rfl
  rwa [size_push] at this
 have e3:(s.heap.push emptyDict).Ns s.heap.objs.size (λ_=>none):=⟨emptyDict,#[],_,e1,rfl,(λe he=>absurd he (by simp)),λ_=>rfl⟩
 have I1:=I.laid (a:=s.heap.objs.size) (o:=.own (s.heap.objs.size+1)) (h':=s.heap.push emptyDict) (t':=s.toks) (λb u q=>get?_push_of_some _ q) (Nat.le_refl _) ⟨_,e1⟩
 refine I1.laid (a:=s.heap.objs.size+1) (o:=.ins C s.heap.objs.size []) (t':=s.toks) (λb u q=>get?_push_of_some _ q) (Nat.le_of_eq (size_push _ _)) ?_
 have ne:s.heap.objs.size≠s.heap.objs.size+1:=Nat.ne_of_lt (Nat.lt_succ_self _)
 refine⟨by rw[zP ne,zW],Nat.zero_le _,ne,e2,λ_=>none,(Heap.Ns1.of_empty e3).at λo q=>get?_push_of_some _ q,λ_=>True.intro,λy hy=>absurd rfl hy⟩
theorem CZ(hb:attributeBase e f env (eval e env)=eval e env)(h:wpAny (model prog w) A (eval e env) (λo s₁=>wpAny (model prog w) A (getAttr o f true) Q E s₁) E s):wpAny (model prog w) A (eval (.Attribute e f pos) env) Q E s :=
 Attribute_any_ h (by rw[arm_eval_Attribute,hb])
end
def tu(K:PySem.W.Frag)(ta:TE)(f:Str):TE:=λσ H Q=>ta σ H λx H1=>∃a C dx fs v,x=.ref a/\H1 a=some (.ins C dx fs)/\Cls K C/\aU K C f/\fs.lookup f=some v/\Q v H1
def Wm(K:PySem.W.Frag)(ta tv:TE)(f:Str):TS:=λD σ H=>tv σ H λy H1=>ta σ H1 λx H2=>∃a C dx fs,x=.ref a/\H2 a=some (.ins C dx fs)/\Cls K C/\aU K C f/\fs.length<1000 /\
 D.nx σ (upd H2 a (.ins C dx (aA f y fs)))
section
variable{X:Cx}{o e value:Expr}{f:Str}{pos pos' tpos:Pos}{ta tv:TE}
theorem zUh(he:PE X e ta)(hb:attributeBase e f X.env (eval e X.env)=eval e X.env):PE X (.Attribute e f pos) (tu X.K ta f):=by
 intro pins s σ H Q I h
 refine CZ hb (aJ (he pins s σ H _ I h) λu s1 ⟨x,H1,I1,rx,a,C,dx,fs,v,ex,ea,c,n,l,q⟩=>?_)
 subst ex
 obtain rfl:u=Value.ref a:=rx
 exact zNh I1 ea c n l λu' s2 I2 ru=>⟨v,H1,I2,ru,q⟩
theorem Ud(ha:PE X o ta)(hv:PE X value tv)(hs:swapsWith value (some (.Attribute o f pos')) pos.line X.env=pure false):PS X (.Assign [.Attribute o f pos'] value pos) (Wm X.K ta tv f):=by
 intro pins s σ H D I h
 refine plainObj_wpAny_Assign_Attribute (aJ (hv pins s σ H _ I h) λu s1 ⟨y,H1,I1,ry,q⟩=>aJ (ha pins s1 σ H1 _ I1 q) λov s2 ⟨x,H2,I2,rx,a,C,dx,fs,ex,ea,c,n,l,q2⟩=>?_) hs
 subst ex
 obtain rfl:ov=Value.ref a:=rx
 exact zMx I2 ea c n l ry λs3 I3=>⟨σ,_,I3,q2⟩
end
section
variable{X:Cx}{pins:List (Addr×Obj)}{σ:St}{H:Hp}{s:Shared}{A:Around}{E:Value->Shared->Prop}{Q:Value->Shared->Prop}{c:Value}{b:Bool}
inductive jx(K:PySem.W.Frag)(H:Hp):V->Value->Prop where
 |non:jx K H .non (.type "NoneType")
 |bl (x:Bool):jx K H (.bl x) (.type "bool")
 |int (i:Int):jx K H (.int i) (.type "int")
 |str (x:Str):jx K H (.str x) (.type "str")
 |flt (x:UInt64):jx K H (.flt x) (.type "float")
 |lst {a:Addr} {xs:List V} (e:H a=some (.lst xs)):jx K H (.ref a) (.type "list")
 |lC {a:Addr} {o:Obj} {xs:List V} (e:H a=some (.lC o (.lst xs))):jx K H (.ref a) (.type "list")
 |tup {a:Addr} {xs:List V} (e:H a=some (.tup xs)):jx K H (.ref a) (.type "tuple")
 |dK {a:Addr} {kvs:List (Key×V)} (e:H a=some (.dK kvs)):jx K H (.ref a) (.type "dict")
 |dT {a:Addr} {kvs:List (List Key×V)} (e:H a=some (.dT kvs)):jx K H (.ref a) (.type "dict")
 |ins {a C dx:Addr} {fs:List (Str×V)} (e:H a=some (.ins C dx fs)) (cl:Cls K C) (ha:findIn K (.ref C) "__class__" = some (some (.builtin "object.__class__")))
   (hn:specialIn K (.builtin "object.__class__") "__get__" = some (some (.builtin "getset_descriptor.__get__"))) (htk:PySem.W.takesIn K (.builtin "object.__class__")=some true)
   (hm:PySem.W.mroIn K C (.type "object")=some true):jx K H (.ref a) (.ref C)
theorem zQb(I:Inv X pins σ H s)(rx:RelV x u)(ty:jx X.K H x t)(e:kitOne X.K t c=some b)(h:∀tk,Q (.bool b) { s with toks:=tk }) :
  wpAny (model X.prog X.w) A (call (.builtin "isinstance") [u,c]) Q E s:=by
 cases ty with
 |non=>cases(show u=Value.none from rx);exact kia_one PySem.W.kitx_none I.kJ True.intro e (λz=>nomatch z) h
 |bl y=>cases(show u=Value.bool y from rx);exact kia_one PySem.W.kitx_bool I.kJ True.intro e (λz=>nomatch z) h
 |int i=>obtain⟨t,q⟩:=(show∃t,u=Value.int i t from rx);cases q;exact kia_one PySem.W.kitx_int I.kJ True.intro e (λz=>nomatch z) h
 |str y=>obtain⟨t,q⟩:=(show∃t,u=Value.str y t from rx);cases q;exact kia_one PySem.W.kitx_str I.kJ True.intro e (λz=>nomatch z) h
 |flt y=>obtain⟨t,q⟩:=(show∃t,u=Value.float y t from rx);cases q;exact kia_one PySem.W.kitx_float I.kJ True.intro e (λz=>nomatch z) h
 |@lst a xs ea =>
  cases(show u=Value.ref a from rx)
  obtain⟨_,_,n,_,h1⟩:=(show aR X.prog X.w H s.heap a (.lst xs) from I.hok a _ ea)
  exact kia_one PySem.W.kitx_list I.kJ ⟨_,h1,rfl⟩ e (λz=>nomatch z) h
 |@lC a ob xs ea =>
  cases(show u=Value.ref a from rx)
  obtain⟨_,_,_,n,_,h1⟩:=(show aR X.prog X.w H s.heap a (.lC ob (.lst xs)) from I.hok a _ ea)
  exact kia_one PySem.W.kitx_list I.kJ ⟨_,h1,rfl⟩ e (λz=>nomatch z) h
 |@tup a xs ea =>
  cases(show u=Value.ref a from rx)
  obtain⟨_,_,_,p⟩:=(show aR X.prog X.w H s.heap a (.tup xs) from I.hok a _ ea)
  obtain⟨o,h1,h2,_⟩:=p
  exact kia_one PySem.W.kitx_tuple I.kJ ⟨o,h1,h2⟩ e (λz=>nomatch z) h
 |@dK a kvs ea =>
  cases(show u=Value.ref a from rx)
  obtain⟨_,_,vs,_,p⟩:=(show aR X.prog X.w H s.heap a (.dK kvs) from I.hok a _ ea)
  obtain⟨o,es,ep,h1,h2,_⟩:=p
  exact kia_one PySem.W.kitx_dict I.kJ ⟨o,h1,h2.1⟩ e (λz=>nomatch z) h
 |@dT a kvs ea =>
  cases(show u=Value.ref a from rx)
  obtain⟨_,_,xs,_,o,es,ep,h1,h2,_⟩:=(show aR X.prog X.w H s.heap a (.dT kvs) from I.hok a _ ea)
  exact kia_one PySem.W.kitx_dict I.kJ ⟨o,h1,h2.1⟩ e (λz=>nomatch z) h
 |@ins a C dx fs ea cl ha hn htk hm =>
  cases(show u=Value.ref a from rx)
  obtain⟨mA,O,_⟩:=Uc I.hok ea
  obtain⟨od,J,_⟩:=O.look
  exact kia_one (PySem.W.kitx_own (cl.get _) cl.hd ha hn htk hm) I.kJ J e (λz=>nomatch z) h
end
structure bJ(k:Nat)(A:Around):Prop where
 hd:A.handled=none
 dp:A.depth+3*k+5<recursionLimit
 un:A.units+16*k+200<cLine
theorem bJ.mono(r:bJ k A)(h:j<=k):bJ j A:=⟨r.hd,by have:=r.dp;omega,by have:=r.un;omega⟩
theorem bJ.deeper(r:bJ (k+1) A)(env:Env):bJ k (A.deeper env) :=
 ⟨r.hd,by have:=r.dp;show A.depth+1+3*k+5<_;omega,by have:=r.un;show A.units+3+16*k+200<_;omega⟩
theorem zNb{A:Around}:(A.under (.builtin "type.__call__" ⟨.ref C::us,kw⟩)).depth=A.depth+1:=by
 first|rfl|simp[Around.under,Code.weight,Code.isCreation,Code.isGuard,Code.isCaller,Code.frames,Code.isFrame,guardIds]
theorem zNa{A:Around}:(A.under (.builtin "type.__call__" ⟨.ref C::us,kw⟩)).units=A.units+1:=by
 first|rfl|simp[Around.under,Code.cUnits,Code.frames,Code.isFrame]
theorem bJ.make(r:bJ (k+1) A)(C:Addr)(us:List Value)(kw:List (Str×Value)):bJ k (A.under (.builtin "type.__call__" ⟨.ref C::us,kw⟩)) :=
 ⟨r.hd,by have:=r.dp;rw[zNb];omega,by have:=r.un;rw[zNa];omega⟩
theorem bJ.depth(r:bJ k A):A.depth<recursionLimit:=by have:=r.dp;omega
theorem bJ.units(r:bJ k A):A.units+64<cLine:=by have:=r.un;omega
def bF:TA:=λ_ H Q=>Q [] H
def xG(ta:TE)(tr:TA):TA:=λσ H Q=>ta σ H λx H1=>tr σ H1 λxs H2=>Q (x::xs) H2
section
variable{X:Cx}{e:Expr}{es:List Expr}{te:TE}{t:TA}{pos:Pos}
theorem zH:PA X [] bF:=λ_ _ _ _ H Q I h=>Calls.spliced_nil ⟨[],H,I,.nil,h⟩
theorem zB(ha:PE X e te)(hr:PA X es t)(hs:starEach (e::es) X.env=(false,eval e X.env)::starEach es X.env:=by rfl):PA X (e::es) (xG te t):=by
 intro pos pins s σ H Q I h
 rw[hs]
 show wpAny _ _ (spliced ((false,eval e X.env)::backTo pos (starEach es X.env))) _ _ s
 refine Calls.spliced_cons (aJ (ha pins s σ H _ I h) λu s1 ⟨x,H1,I1,r1,q1⟩=>?_)
 exact aJ (hr pos pins s1 σ H1 _ I1 q1) λus s2 ⟨xs,H2,I2,r2,q2⟩=>⟨x::xs,H2,I2,.cons r1 r2,q2⟩
def tD(t:TA):TE:=λσ H Q=>t σ H λxs H1=>xs.length<=sizeLine/\∀p,H1 p=none->Q (.ref p) (upd H1 p (.tup xs))
def C_(t:TA):TE:=λσ H Q=>t σ H λxs H1=>xs.length<=sizeLine/\∀p,H1 p=none->Q (.ref p) (upd H1 p (.lst xs))
theorem Dd{x1}(h:PA X es t):PE X (.Tuple es x1 pos) (tD t):=by
 intro pins s σ H Q I hq
 refine wpAny_Tuple_spliced (aJ (h pos pins s σ H _ I hq) λus s1 ⟨xs,H1,I1,r,z,q⟩=>⟨by rw[<-r.length];exact z,?_⟩)
 have hf:H1 s1.heap.objs.size=none:=I1.hok.fresh (Nat.le_refl _)
 refine⟨.ref s1.heap.objs.size,upd H1 s1.heap.objs.size (.tup xs),I1.laid (t':=s1.toks) (λb u e=>get?_push_of_some _ e) (Nat.le_refl _) ?_,rfl,q _ hf⟩
 exact⟨z,us,r,⟨_,get?_push_size _ rfl,rfl,_,rfl⟩⟩
theorem wO(h:PA X es t):PE X (.List es pos) (C_ t):=by
 intro pins s σ H Q I hq
 refine wpAny_List_spliced (aJ (h pos pins s σ H _ I hq) λus s1 ⟨xs,H1,I1,r,z,q⟩=>⟨by rw[<-r.length];exact z,?_⟩)
 have hf:H1 s1.heap.objs.size=none:=I1.hok.fresh (Nat.le_refl _)
 refine⟨.ref s1.heap.objs.size,upd H1 s1.heap.objs.size (.lst xs),I1.laid (t':=s1.toks) (λb u e=>get?_push_of_some _ e) (Nat.le_refl _) ?_,rfl,q _ hf⟩
 exact⟨z,us,0,r,get?_push_size _ rfl⟩
end
abbrev Sp:=List V->Hp->VK->XK->Prop
abbrev tE:=List Env->Hp->Shared->XK->Value->Shared->Prop
structure qJ(P:Program)(w:World)(K:PySem.W.Frag)(mg:Str->Option Value)(base:Heap)(A:Around)(outer:List Env)(s:Shared)(H:Hp):Prop where
 frames:A.frames=some outer
 mod:Mod K mg base
 bs:∀b o,base.get? b=some o->s.heap.get? b=some o/\H b=none
 Cv:base.objs.size<=s.heap.objs.size
 kI:s.heap.FunFrames base outer
 Jk:∀b∈frs outer,H b=none
 hok:gn P w H s.heap
 bare:AllBare s.gens
def CE(outer:List Env)(P:Program)(w:World)(H:Hp)(s:Shared)(Q:VK)(u:Value)(s':Shared):Prop :=
 ∃v H',s'.os=s.os/\AllBare s'.gens/\Un (frs outer) [] H H' s.heap s'.heap/\gn P w H' s'.heap/\RelV v u/\Q v H'
def CR(CX:tE)(outer:List Env)(P:Program)(w:World)(H:Hp)(s:Shared)(Q:VK)(E:XK)(r:Result)(s':Shared):Prop :=
 match r with
 |.ok (.ret u)=>CE outer P w H s Q u s'
 |.ok _=>False
 |.error e=>CX outer H s E e s'
structure aB(P:Program)(w:World)(K:PySem.W.Frag)(mg:Str->Option Value)(base:Heap)(CX:tE)(k:Nat)(f:Addr)(fd:FuncData)(ps:List Str)(sp:Sp):Prop where
 len:∀vs H Q E,sp vs H Q E->vs.length=ps.length
 run:∀(A:Around)(outer:List Env)(s:Shared)(H:Hp)(args:Args)(us:List Value)(vs:List V)(Q:VK)(E:XK),bJ k A->qJ P w K mg base A outer s H->BindsTo s fd args (ps.zip us)->Vals vs us->sp vs H Q E ->
  codeAny (model P w) A (.call (.ref f) args) (CR CX outer P w H s Q E) s
theorem aB.mono{P:Program}{w:World}{K:PySem.W.Frag}{mg:Str->Option Value}{base:Heap}{CX:tE}{j k:Nat}{f:Addr}{fd:FuncData}{ps:List Str}{sp:Sp}(F:aB P w K mg base CX j f fd ps sp)(h:j<=k) :
  aB P w K mg base CX k f fd ps sp:=⟨F.len,λA outer s H args us vs Q E hr=>F.run A outer s H args us vs Q E (hr.mono h)⟩
theorem aB.imp{P:Program}{w:World}{K:PySem.W.Frag}{mg:Str->Option Value}{base:Heap}{CX:tE}{k:Nat}{f:Addr}{fd:FuncData}{ps:List Str}{sp sp':Sp}(F:aB P w K mg base CX k f fd ps sp)(h:∀vs H Q E,sp' vs H Q E->sp vs H Q E):aB P w K mg base CX k f fd ps sp' :=
 ⟨λvs H Q E q=>F.len vs H Q E (h _ _ _ _ q),λA outer s H args us vs Q E hr he hb hv hs=>F.run A outer s H args us vs Q E hr he hb hv (h _ _ _ _ hs)⟩
theorem qJ.make{P:Program}{w:World}{K:PySem.W.Frag}{mg:Str->Option Value}{base:Heap}{A:Around}{outer:List Env}{s:Shared}{H:Hp}(e:qJ P w K mg base A outer s H)(C:Addr)(us:List Value)(kw:List (Str×Value)) :
  qJ P w K mg base (A.under (.builtin "type.__call__" ⟨.ref C::us,kw⟩)) outer s H:=⟨by first|exact e.frames|(simpa[Around.under,Code.envs,Code.isFrame,pushEnvs] using e.frames),e.mod,e.bs,e.Cv,e.kI,e.Jk,e.hok,e.bare⟩
section
variable{X:Cx}{pins:List (Addr×Obj)}{σ:St}{H:Hp}{s s':Shared}
theorem Inv.env0(I:Inv X pins σ H s):qJ X.prog X.w X.K X.mg X.base X.A X.stack s H :=
 ⟨I.ok.frames,I.ok.mod,I.bs,Nat.le_trans I.ok.Cv I.sz,I.stack,I.rQ,I.hok,I.bare⟩
theorem Inv.after(I:Inv X pins σ H s)(h:CE X.stack X.prog X.w H s Q u s'):EP X pins σ Q u s':=by
 obtain⟨v,H',os,bare,un,hok,r,q⟩:=h
 obtain⟨hh,g,d,t,os'⟩:=s'
 obtain rfl:os'=s.os:=os
 exact⟨v,H',I.call (h':=hh) (g':=g) (d':=d) (t':=t) (ch:=[]) un hok bare (λb z=>absurd z (by simp)),r,q⟩
end
def JC(sp:Sp)(mZ:List V)(E:XK)(t:TA):TE:=λσ H Q=>t σ H λvs H1=>sp (vs++mZ) H1 Q E
def Qf(C:Addr)(m:Str)(sp:Sp)(mZ:List V)(E:XK)(ta:TE)(t:TA):TE:=λσ H Q=>ta σ H λx H1=>∃a dx fs,x=.ref a/\H1 a=some (.ins C dx fs)/\fs.lookup m=none /\
 t σ H1 λvs H2=>sp (x::(vs++mZ)) H2 Q E
def Ho(C:Addr)(sp:Sp)(mZ:List V)(E:XK)(t:TA):TE:=λσ H Q=>t σ H λvs H1=>∀x dx,H1 x=none->H1 dx=none->dx≠x ->
 sp (.ref x::(vs++mZ)) (upd (upd H1 dx (.own x)) x (.ins C dx [])) (λv H2=>v=.non/\Q (.ref x) H2) E
def Binds(K:PySem.W.Frag)(fd:FuncData)(ps:List Str)(ds:List Value):Prop :=
 ∀(s:Shared)(us:List Value),K.In s.heap->(us++ds).length=ps.length->BindsTo s fd ⟨us,[]⟩ (ps.zip (us++ds))
theorem Binds.all{K:PySem.W.Frag}{fd:FuncData}{ps:List Str}(h:∀us:List Value,us.length=ps.length->bindArgs fd ⟨us,[]⟩=pure (ps.zip us)):Binds K fd ps []:=λs us _ hl=>by
 rw[append_nil] at hl ⊢
 exact .of_eq (h us hl)
def JD(CX:tE)(X:Cx)(E:XK):Prop:=∀(pins:List (Addr×Obj))(σ:St)(H:Hp)(s:Shared)(e:Value)(s':Shared),Inv X pins σ H s->CX X.stack H s E e s'->X.xe e s'
section
variable{X:Cx}{CX:tE}{k:Nat}{f C:Addr}{fd:FuncData}{ps:List Str}{sp:Sp}{mZ:List V}{ds:List Value}{E:XK}{x m:Str}{p pos apos:Pos}{e o:Expr}{es:List Expr}{ta:TE}{t:TA}
theorem Wn(F:aB X.prog X.w X.K X.mg X.base CX k f fd ps sp)(hr:bJ k X.A)(hb:Binds X.K fd ps ds)(hd:Vals mZ ds)(hx:JD CX X E)(I:Inv X pins σ H s)(r:Vals vs us)(h:sp (vs++mZ) H Q E):wpAny (model X.prog X.w) X.A (call (.ref f) us) (EP X pins σ Q) X.xe s:=by
 have r2:Vals (vs++mZ) (us++ds):=r.append hd
 have hl:(us++ds).length=ps.length:=by rw[<-r2.length];exact F.len _ _ _ _ h
 refine wpAny_call (codeAny_mono (F.run X.A X.stack s H ⟨us,[]⟩ (us++ds) (vs++mZ) Q E hr I.env0 (hb s us I.kJ hl) r2 h) λr s' hq=>?_)
 cases r with
 |error e=>exact hx pins σ H s e s' I hq
 |ok fl =>
  cases fl with
  |ret u=>exact I.after hq
  |next=>exact False.elim hq
  |brk=>exact False.elim hq
  |cont=>exact False.elim hq
theorem Df(F:aB X.prog X.w X.K X.mg X.base CX k f fd ps sp)(hr:bJ k X.A)(hg:Gl X x)(hm:X.mg x=some (.ref f))(hk:keepIn X.K (.ref f)=true)(hb:Binds X.K fd ps ds)(hd:Vals mZ ds)(hx:JD CX X E)(ha:PA X (e::es) t)(hdb:(x==("__debug__":Str))=false:=by decide)(he:starEach (e::es) X.env=(false,eval e X.env)::starEach es X.env:=by rfl)(hpl:(backTo pos (starEach es X.env)).any (·.1)=false:=by rfl) :
  PE X (.Call (.Name x p) (e::es) [] pos) (JC sp mZ E t):=by
 intro pins s σ H Q I h
 refine wpAny_Call_Name_kw (V4 I hg hm ?_ hdb)
 refine callWith_K (h₀:=X.base) I.ok.mod.O_ hk (aJ (ha pos pins s σ H _ I h) λus s1 ⟨vs,H1,I1,r,q⟩=>⟨I1.kJ,?_⟩) he hpl
 exact Wn F hr hb hd hx I1 r q
theorem Dg(he:PE X o ta)(c:Cls X.K C)(hm:Meth X.K C m f)(F:aB X.prog X.w X.K X.mg X.base CX k f fd ps sp)(hr:bJ k X.A)(hb:Binds X.K fd ps ds)(hd:Vals mZ ds)(hx:JD CX X E)(ha:PA X (e::es) t)(hst:starEach (e::es) X.env=(false,eval e X.env)::starEach es X.env:=by rfl)(hpl:(backTo pos (starEach es X.env)).any (·.1)=false:=by rfl)(ht:eval (.Call (.Attribute o m apos) (e::es) [] pos) X.env=(do
   let ov <-eval o X.env
   standAt apos.atName
   let(f,first) <-holding [ov] (getMethod ov m pl)
   callWith pos f first (backTo pos (starEach (e::es) X.env)) (backToKw pos (keywordEach [] X.env))):=by rfl) :
  PE X (.Call (.Attribute o m apos) (e::es) [] pos) (Qf C m sp mZ E ta t):=by
 intro pins s σ H Q I h
 refine PySem.W.methodCall_KW (pl:=pl) (aJ (he pins s σ H _ I h) λu s1 ⟨x,H1,I1,rx,a,dx,fs,ex,ea,l,q⟩=>?_) ht
 subst ex
 obtain rfl:u=Value.ref a:=rx
 refine zGj I1 ea c hm l ?_
 refine callWith_K (first:=[.ref a]) (h₀:=X.base) I.ok.mod.O_ hm.kp (aJ (ha pos pins s1 σ H1 _ I1 q) λus s2 ⟨vs,H2,I2,r,q2⟩=>⟨I2.kJ,?_⟩) hst hpl
 exact Wn (us:=.ref a::us) (vs:=.ref a::vs) F hr hb hd hx I2 (.cons rfl r) q2
theorem zSr(he:PE X o ta)(c:Cls X.K C)(hm:Meth X.K C m f)(F:aB X.prog X.w X.K X.mg X.base CX k f fd ps sp)(hr:bJ k X.A)(hb:Binds X.K fd ps ds)(hd:Vals mZ ds)(hx:JD CX X E)(ht:eval (.Call (.Attribute o m apos) [] [] pos) X.env=(do
   let ov <-eval o X.env
   standAt apos.atName
   let(f,first) <-holding [ov] (getMethod ov m pl)
   callWith pos f first (backTo pos (starEach [] X.env)) (backToKw pos (keywordEach [] X.env))):=by rfl) :
  PE X (.Call (.Attribute o m apos) [] [] pos) (Qf C m sp mZ E ta bF):=by
 intro pins s σ H Q I h
 refine PySem.W.methodCall_KW (pl:=pl) (aJ (he pins s σ H _ I h) λu s1 ⟨x,H1,I1,rx,a,dx,fs,ex,ea,l,q⟩=>?_) ht
 subst ex
 obtain rfl:u=Value.ref a:=rx
 refine zGj I1 ea c hm l ?_
 exact PySem.W.callWith_K0 (first:=[.ref a]) I1.kJ hm.kp (Wn (us:=[.ref a]) (vs:=[.ref a]) F hr hb hd hx I1 (.cons rfl .nil) q)
structure Mk(K:PySem.W.Frag)(C f:Addr):Prop where
 makes:PySem.W.makesIn K C=true
 init:findIn K (.ref C) "__init__" = some (some (.ref f))
 fn:isFn K (.ref f)=true
 kp:keepIn K (.ref C)=true
theorem zSj(M:Mk X.K C f)(F:aB X.prog X.w X.K X.mg X.base CX k f fd ps sp)(hr:bJ (k+1) X.A)(hb:Binds X.K fd ps ds)(hd:Vals mZ ds)(hx:JD CX X E)(I:Inv X pins σ H s)(r:Vals vs us)(h:∀x dx,H x=none->H dx=none->dx≠x->sp (.ref x::(vs++mZ)) (upd (upd H dx (.own x)) x (.ins C dx [])) (λv H2=>v=.non/\Q (.ref x) H2) E) :
  wpAny (model X.prog X.w) X.A (call (.ref C) us) (EP X pins σ Q) X.xe s:=by
 have hq:=h (s.heap.objs.size+1) s.heap.objs.size (I.hok.fresh (Nat.le_succ _)) (I.hok.fresh (Nat.le_refl _)) (Nat.ne_of_lt (Nat.lt_succ_self _))
 have I2:=Inv.made (C:=C) I
 have r2:Vals (V.ref (s.heap.objs.size+1)::(vs++mZ)) (Value.ref (s.heap.objs.size+1)::(us++ds)):=.cons rfl (r.append hd)
 have hl:(Value.ref (s.heap.objs.size+1)::us++ds).length=ps.length:=by
  have e:=r2.length
  rw[F.len _ _ _ _ hq] at e
  exact e.symm
 refine wpAny_call (zS7 (f:=f) I.kJ M.makes M.init (beq_iff_eq.mp M.fn) (codeAny_mono (F.run _ X.stack _ _ ⟨Value.ref (s.heap.objs.size+1)::us,[]⟩ (Value.ref (s.heap.objs.size+1)::(us++ds)) _ _ E (hr.make C us [])
  (I2.env0.make C us []) (hb _ (Value.ref (s.heap.objs.size+1)::us) I2.kJ hl) r2 hq) λr s' hq'=>?_))
 cases r with
 |error e=>exact hx pins σ _ _ e s' I2 hq'
 |ok fl =>
  cases fl with
  |ret u =>
   obtain⟨v,H',I3,rv,ev,q3⟩:=I2.after hq'
   subst ev
   exact⟨rv,⟨V.ref (s.heap.objs.size+1),H',I3,rfl,q3⟩⟩
  |next=>exact False.elim hq'
  |brk=>exact False.elim hq'
  |cont=>exact False.elim hq'
theorem Dh(M:Mk X.K C f)(F:aB X.prog X.w X.K X.mg X.base CX k f fd ps sp)(hr:bJ (k+1) X.A)(hg:Gl X x)(hm:X.mg x=some (.ref C))(hb:Binds X.K fd ps ds)(hd:Vals mZ ds)(hx:JD CX X E)(ha:PA X (e::es) t)(hdb:(x==("__debug__":Str))=false:=by decide)(he:starEach (e::es) X.env=(false,eval e X.env)::starEach es X.env:=by rfl)(hpl:(backTo pos (starEach es X.env)).any (·.1)=false:=by rfl) :
  PE X (.Call (.Name x p) (e::es) [] pos) (Ho C sp mZ E t):=by
 intro pins s σ H Q I h
 refine wpAny_Call_Name_kw (V4 I hg hm ?_ hdb)
 refine callWith_K (h₀:=X.base) I.ok.mod.O_ M.kp (aJ (ha pos pins s σ H _ I h) λus s1 ⟨vs,H1,I1,r,q⟩=>⟨I1.kJ,?_⟩) he hpl
 exact zSj M F hr hb hd hx I1 r q
end
section
variable{X:Cx}{CX:tE}{k:Nat}{f C:Addr}{fd:FuncData}{ps ks:List Str}{sp:Sp}{E:XK}{x m:Str}{p pos apos kpos:Pos}{e o:Expr}{es:List Expr}{kws:List Keyword}{te ta:TE}{t tk:TA}{nm:Option Str}
structure Wo(K:PySem.W.Frag)(fd:FuncData)(ps ks:List Str)(g:List Value->List Value->List Value)(gV:List V->List V->List V):Prop where
 to:∀(s:Shared)(us ws:List Value),K.In s.heap->(g us ws).length=ps.length->BindsTo s fd ⟨us,ks.zip ws⟩ (ps.zip (g us ws))
 rel:∀{vs:List V}{us:List Value}{zs:List V}{ws:List Value},Vals vs us->Vals zs ws->Vals (gV vs zs) (g us ws)
variable{g:List Value->List Value->List Value}{gV:List V->List V->List V}
end
structure ao(N P:List Str)(sc:Scope):Prop where
 kind:sc.kind=.function
 co:sc.isCoroutine=false
 gen:sc.isGenerator=false
 nd:N.Nodup
 pre:N.take P.length=P
 par:∀x∈P,sc.names.lookup x=some .local\/sc.names.lookup x=some .cell
 JF:∀y∈sc.names,y.2≠.free
theorem zJx{kindOf:Str->Option NameKind}{x:Str}:∀{binds:List (Str×Value)}{m:Str->Option Value},(∀v,(x,v)∉binds)->bindL kindOf binds m x=m x
 |[],_,_=>rfl
 | (n,v)::r,m,h=>by
  unfold bindL
  rw[zJx λw hw=>h w (mem_cons_of_mem _ hw)]
  split
  ·have:x≠n:=by rintro rfl;exact h v mem_cons_self
   simp[this]
  ·rfl
theorem zJz{kindOf:Str->Option NameKind}{x:Str}:∀{binds:List (Str×Value)}{m:Str->Option Value},(∀v,(x,v)∉binds)->bindC kindOf binds m x=m x
 |[],_,_=>rfl
 | (n,v)::r,m,h=>by
  unfold bindC
  rw[zJz λw hw=>h w (mem_cons_of_mem _ hw)]
  split
  ·rfl
  ·have:x≠n:=by rintro rfl;exact h v mem_cons_self
   simp[this]
theorem zJy{kindOf:Str->Option NameKind}:∀{P:List Str}{vs:List Value}{i:Nat}{m:Str->Option Value},P.Nodup->P[i]?=some x->vs[i]?=some v->kindOf x=some .local ->
  bindL kindOf (P.zip vs) m x=some v
 |[],_,_,_,_,h,_,_=>by simp at h
 |_::_,[],_,_,_,_,h,_=>by simp at h
 |p::P,w::vs,0,m,nd,h1,h2,hk=>by
  simp at h1 h2;subst h1;subst h2
  show bindL kindOf ((p,w)::P.zip vs) m p=_
  unfold bindL
  rw[zJx λv hv=>(nodup_cons.mp nd).1 (of_mem_zip hv).1,if_pos hk]
  simp
 |p::P,w::vs,i+1,m,nd,h1,h2,hk=>by
  show bindL kindOf ((p,w)::P.zip vs) m x=_
  unfold bindL
  exact zJy (i:=i) (nodup_cons.mp nd).2 (by simpa using h1) (by simpa using h2) hk
theorem zJ0{kindOf:Str->Option NameKind}:∀{P:List Str}{vs:List Value}{i:Nat}{m:Str->Option Value},P.Nodup->P[i]?=some x->vs[i]?=some v->kindOf x≠some .local ->
  bindC kindOf (P.zip vs) m x=some v
 |[],_,_,_,_,h,_,_=>by simp at h
 |_::_,[],_,_,_,_,h,_=>by simp at h
 |p::P,w::vs,0,m,nd,h1,h2,hk=>by
  simp at h1 h2;subst h1;subst h2
  show bindC kindOf ((p,w)::P.zip vs) m p=_
  unfold bindC
  rw[zJz λv hv=>(nodup_cons.mp nd).1 (of_mem_zip hv).1,if_neg hk]
  simp
 |p::P,w::vs,i+1,m,nd,h1,h2,hk=>by
  show bindC kindOf ((p,w)::P.zip vs) m x=_
  unfold bindC
  exact zJ0 (i:=i) (nodup_cons.mp nd).2 (by simpa using h1) (by simpa using h2) hk
def start(N:List Str)(vs:List V):St:=vs.map some++replicate (N.length-vs.length) none
def lF(CX:tE)(P:Program)(w:World)(K:PySem.W.Frag)(mg:Str->Option Value)(base:Heap)(N:List Str)(qual:Str)(scope:Scope)(f:Addr)(cd:Value)(A:Around)(outer:List Env)(s:Shared)(H:Hp)(E:XK):Cx where
 prog:=P
 w:=w
 K:=K
 mg:=mg
 base:=base
 A:=A.deeper (envOfC qual scope s.heap.objs.size f cd)
 N:=N
 s₀:=s
 H₀:=H
 env:=envOfC qual scope s.heap.objs.size f cd
 outer:=outer
 stack:=envOfC qual scope s.heap.objs.size f cd::outer
 ex:=[]
 calm:=true
 fn:=λ_=>true
 pn:=[]
 xe:=λe s'=>wpAny (model P w) (A.deeper (envOfC qual scope s.heap.objs.size f cd)) (leaving (envOfC qual scope s.heap.objs.size f cd) e) (λ_ s''=>CX outer H s E e s'') (λe' s''=>CX outer H s E e' s'') s'
theorem zMe{sc:Scope}(h:sc.names.lookup x=some .cell):∃c,(cellsFrom n sc.names []).lookup x=some c:=by
 have q:=cellsFrom_some sc.names n [] (.inl h)
 exact Option.isSome_iff_exists.mp q
theorem zQc{CX:tE}{P:Program}{w:World}{K:PySem.W.Frag}{mg:Str->Option Value}{base:Heap}{N ps:List Str}{qual:Str}{scope:Scope}{f:Addr}{cd:Value}{A:Around}{outer:List Env}{s s1:Shared}{H:Hp}{E:XK}{us:List Value}{vs:List V}(S:ao N ps scope)(hd:A.handled=none)(e0:qJ P w K mg base A outer s H)(hl:vs.length=ps.length)(r:Vals vs us)(x:InCallC s s.heap.objs.size (bindL (envOfC qual scope s.heap.objs.size f cd).kindOf (ps.zip us) λ_=>none) (cellsFrom (s.heap.objs.size+1) scope.names []) (bindC (envOfC qual scope s.heap.objs.size f cd).kindOf (ps.zip us) λ_=>none) s1) :
  Inv (lF CX P w K mg base N qual scope f cd A outer s H E) [] (start N vs) H s1:=by
 have hpl:ps.length<=N.length:=by have:=congrArg length S.pre;rw[length_take] at this;omega
 obtain⟨h1,tk,rfl,hk⟩:=x.done
 have Qg:∀b:Addr,b∉(lF CX P w K mg base N qual scope f cd A outer s H E).ex:=λb z=>absurd (show b∈([]:List Addr) from z) (by simp)
 refine⟨⟨e0.mod,S.kind,rfl,rfl,Nat.le_refl _,λy z c h1 h2=>?_,λy hy=>?_,λy c _ h=>?_,λ_=>hd,Around.frames_deeper e0.frames,.inr ⟨rfl,rfl⟩,λb z=>absurd z (Qg b),e0.bs,e0.Cv,λb _ _=>Qg b,λb z=>absurd z (Qg b),e0.kI,e0.Jk⟩,
  rfl,e0.bare,Un.kept hk,⟨_,x.toInCall.ns,λi y v h1 h2 h3=>?_⟩,λy c h=>⟨_,x.cell y c h⟩,e0.hok.fresh (Nat.le_refl _),λy c h=>?_,λp hp=>absurd (show p∈([]:List (Addr×Obj)) from hp) (by simp),e0.hok.kept hk,?_⟩
 ·exact name_of_addr x.apart (PySem.mem_of_lookup h1) (PySem.mem_of_lookup h2)
 ·have hy:scope.names.lookup y=some .cell\/scope.names.lookup y=some .free:=hy
  rcases hy with hy|hy
  ·exact zMe hy
  ·exact absurd rfl (S.JF _ (PySem.mem_of_lookup hy))
 ·exact Nat.le_of_lt (x.above y c (PySem.mem_of_lookup h))
 ·have hi:i<vs.length:=by
   unfold start at h2
   by_cases hi:i<vs.length
   ·exact hi
   ·rw[getElem?_append_right (by simpa using hi)] at h2
    rw[getElem?_replicate] at h2
    split at h2<;>cases h2
  have ha:vs[i]?=some v:=by
   unfold start at h2
   rw[getElem?_append_left (by simpa using hi),getElem?_map] at h2
   cases e:vs[i]? with
   |none=>rw[e] at h2;cases h2
   |some a=>rw[e] at h2;cases h2;rfl
  obtain⟨u,hu,rv⟩:=r.get ha
  have hp:ps[i]?=some y:=by
   rw[<-S.pre,getElem?_take_of_lt (by omega)];exact h1
  have ndP:ps.Nodup:=by rw[<-S.pre];exact S.nd.sublist (List.take_sublist _ _)
  refine⟨u,rv,?_⟩
  rcases S.par y (mem_of_getElem? hp) with k|k
  ·exact .inl ⟨k,zJy ndP hp hu k⟩
  ·obtain⟨c,e⟩:=zMe (n:=s.heap.objs.size+1) k
   refine .inr ⟨.inl k,c,e,?_⟩
   have q:=x.cell y c e
   rw[zJ0 ndP hp hu (by show scope.names.lookup y≠_;rw[k];decide)] at q
   exact q
 ·exact e0.hok.fresh (Nat.le_of_lt (x.above y c (PySem.mem_of_lookup h)))
 ·unfold start
  show _=N.length
  rw[length_append,length_map,List.length_replicate]
  omega
theorem yu{CX:tE}{P:Program}{w:World}{K:PySem.W.Frag}{mg:Str->Option Value}{base:Heap}{k:Nat}{f:Addr}{name qual:Str}{params:Arguments}{body:List Stmt}{scope:Scope}{dV kV doc pm cdv ct oc:Value}{an od:Option Addr}{osl:Array (Option Value)}{N ps:List Str}{sp:Sp}(lk:K.lookup f=some ⟨oc,od,.func (fnOf name qual params body scope dV kV doc pm an cdv ct),osl⟩)(hcd:codeIn K cdv qual=true)(S:ao N ps scope)(len:∀vs H Q E,sp vs H Q E->vs.length=ps.length)(hbody:∀(A:Around) (outer:List Env) (s:Shared) (H:Hp) (vs:List V) (Q:VK) (E:XK),bJ k (A.deeper (envOfC qual scope s.heap.objs.size f cdv))->sp vs H Q E ->
   ∃t,pI (lF CX P w K mg base N qual scope f cdv A outer s H E) body t/\t { nx:=λ_ H'=>Q .non H',rt:=Q } (start N vs) H) :
  aB P w K mg base CX (k+1) f (fnOf name qual params body scope dV kV doc pm an cdv ct) ps sp:=by
 refine⟨len,λA outer s H args us vs Q E hr e0 hb r hsp=>?_⟩
 have hl:=len _ _ _ _ hsp
 have KX:K.In s.heap:=e0.mod.O_.keeps λb o e=>(e0.bs b o e).1
 have lim:s.heap.NoLimit:=e0.mod.nolimit.keeps λb o e=>(e0.bs b o e).1
 have hkind:∀y∈ps.zip us,scope.names.lookup y.1=some .local\/(scope.names.lookup y.1=some .cell/\((cellsFrom (s.heap.objs.size+1) scope.names []).lookup y.1).isSome=true):=λ⟨n,v⟩ hy=>by
  rcases S.par n (of_mem_zip hy).1 with q|q
  ·exact .inl q
  ·exact .inr ⟨q,cellsFrom_some _ _ _ (.inl q)⟩
 refine codeAny_call_function hr.depth (KX _ _ lk) rfl S.co S.gen rfl (PySem.W.codeRec_of KX hcd) (hb _ _ _ _ ?_)
 refine wpAny_newFunctionEnv_cells S.kind hkind λenv he s1 x=>?_
 subst he
 refine⟨lim.keeps x.toInCall.keep,codeAny_func ?_⟩
 obtain⟨t,ht,hq⟩:=hbody A outer s H vs Q E (hr.deeper _) hsp
 have I:Inv (lF CX P w K mg base N qual scope f cdv A outer s H E) [] (start N vs) H s1:=zQc S hr.hd e0 hl r x
 refine wpAny_mono (ht [] s1 (start N vs) H _ I hq) (λfl s' hs=>?_) λe s' hs=>hs
 have fin:∀{σ':St}{H':Hp}{v:V}{u:Value},Inv (lF CX P w K mg base N qual scope f cdv A outer s H E) [] σ' H' s'->RelV v u->Q v H'->CE outer P w H s Q u s' :=
  λ{σ' H' v u} J rv q=>⟨v,H',J.os,J.bare,J.base,J.hok,rv,q⟩
 cases fl with
 |ret u =>
  obtain⟨v,σ',H',J,rv,q⟩:=hs
  exact fin J rv q
 |next =>
  obtain⟨σ',H',J,q⟩:=hs
  exact fin (v:=V.non) (u:=Value.none) J rfl q
 |brk =>
  obtain⟨_,_,_,q⟩:=hs
  exact False.elim q
 |cont =>
  obtain⟨_,_,_,q⟩:=hs
  exact False.elim q
section
variable{X:Cx}{x:Str}{p pos:Pos}{e:Expr}{es:List Expr}{t:TA}{id T:String}{r:List V->Hp->VK->Prop}
def rT(r:List V->Hp->VK->Prop)(t:TA):TE:=λσ H Q=>t σ H λvs H1=>r vs H1 Q
theorem zT(hc:qy X (.builtin id) r)(hg:Gl X x)(hm:X.mg x=none)(hv:bootBuiltins x=some (.builtin id))(ha:PA X (e::es) t)(hn:x ≠ "__name__":=by decide)(hdb:(x==("__debug__":Str))=false:=by decide)(he:starEach (e::es) X.env=(false,eval e X.env)::starEach es X.env:=by rfl)(hpl:(backTo pos (starEach es X.env)).any (·.1)=false:=by rfl):PE X (.Call (.Name x p) (e::es) [] pos) (rT r t):=by
 intro pins s σ H Q I h
 refine wpAny_Call_Name_kw (yg I hg hm hv ?_ hn hdb)
 exact PyProof.Rows.callWith_builtin1 (aJ (ha pos pins s σ H _ I h) λus s1 ⟨vs,H1,I1,r1,q1⟩=>hc pins s1 σ H1 vs us Q I1 r1 q1) he hpl
theorem wP(hc:qy X (.type T) r)(hg:Gl X x)(hm:X.mg x=none)(hv:bootBuiltins x=some (.type T))(ha:PA X (e::es) t)(hn:x ≠ "__name__":=by decide)(hdb:(x==("__debug__":Str))=false:=by decide)(he:starEach (e::es) X.env=(false,eval e X.env)::starEach es X.env:=by rfl)(hpl:(backTo pos (starEach es X.env)).any (·.1)=false:=by rfl):PE X (.Call (.Name x p) (e::es) [] pos) (rT r t):=by
 intro pins s σ H Q I h
 refine wpAny_Call_Name_kw (yg I hg hm hv ?_ hn hdb)
 exact PyProof.Rows.callWith_type1 (aJ (ha pos pins s σ H _ I h) λus s1 ⟨vs,H1,I1,r1,q1⟩=>hc pins s1 σ H1 vs us Q I1 r1 q1) he hpl
end
section
variable{κ:Type}[DecidableEq κ]
def gA(kvs:List (κ×V))(k:κ):Option V:=(kvs.find? λkv=>decide (kv.1=k)).map (·.2)
def putK(kvs:List (κ×V))(k:κ)(v:V):List (κ×V) :=
 if(kvs.any λkv=>decide (kv.1=k))=true then kvs.map (λkv=>if kv.1=k then(kv.1,v) else kv) else kvs++[(k,v)]
theorem Wq{p:κ×V}{r:List (κ×V)}{k:κ}(e:p.1=k):gA (p::r) k=some p.2:=by simp[gA,find?_cons,e]
theorem Wr{p:κ×V}{r:List (κ×V)}{k:κ}(e:¬p.1=k):gA (p::r) k=gA r k:=by simp[gA,find?_cons,e]
theorem zLe(k:κ):∀kvs:List (κ×V),(kvs.any λkv=>decide (kv.1=k))=(gA kvs k).isSome
 |[]=>rfl
 |p::r=>by
  rw[any_cons]
  by_cases e:p.1=k
  ·simp only[Wq e,decide_eq_true e,Bool.true_or,Option.isSome_some]
  ·rw[Wr e,decide_eq_false e,Bool.false_or];exact zLe k r
theorem Ws(kvs:List (κ×V))(k:κ)(v:V):(putK kvs k v).length<=kvs.length+1:=by
 unfold putK
 split
 ·rw[length_map];omega
 ·rw[length_append,length_cons,length_nil];omega
theorem iz.eX(r:iz o u):o.isSome=u.isSome:=by
 cases o with
 |none=>cases u with
  |none=>rfl
  |some _=>exact(show False from r).elim
 |some _=>cases u with
  |none=>exact(show False from r).elim
  |some _=>rfl
theorem iz.getD(r:iz o u)(rd:RelV d d'):RelV (o.getD d) (u.getD d'):=by
 cases o with
 |none=>cases u with
  |none=>exact rd
  |some _=>exact(show False from r).elim
 |some _=>cases u with
  |none=>exact(show False from r).elim
  |some _=>exact r
theorem KV.val(r:KV kvs vs)(k:κ):iz (gA kvs k) (valueAt vs k):=by
 unfold KV at r
 induction r with
 |nil=>exact True.intro
 |@cons p q ps qs h t ih =>
  obtain⟨h1,h2⟩:=h
  by_cases e:p.1=k
  ·have e':q.1=k:=h1.symm.trans e
   have b:valueAt (q::qs) k=some q.2:=by simp[valueAt,find?_cons,e']
   rw[Wq e,b];exact h2
  ·have e':¬q.1=k:=λz=>e (h1.trans z)
   have b:valueAt (q::qs) k=valueAt qs k:=by simp[valueAt,find?_cons,e']
   rw[Wr e,b];exact ih
theorem KV.any(r:KV kvs vs)(k:κ):(kvs.any λkv=>decide (kv.1=k))=vs.any λkv=>decide (kv.1=k):=by
 unfold KV at r
 induction r with
 |nil=>rfl
 |cons h t ih=>rw[any_cons,any_cons,ih,h.1]
theorem KV.repl(r:KV kvs vs)(k:κ)(ry:RelV y u) :
  KV (kvs.map λkv=>if kv.1=k then(kv.1,y) else kv) (vs.map λkv=>if kv.1=k then(kv.1,u) else kv):=by
 unfold KV at r ⊢
 induction r with
 |nil=>exact .nil
 |@cons p q ps qs h t ih =>
  rw[map_cons,map_cons]
  refine .cons ?_ ih
  obtain⟨h1,h2⟩:=h
  by_cases e:p.1=k
  ·rw[if_pos e,if_pos (h1.symm.trans e)];exact⟨h1,ry⟩
  ·rw[if_neg e,if_neg (λz=>e (h1.trans z))];exact⟨h1,h2⟩
theorem KV.put(r:KV kvs vs)(k:κ)(ry:RelV y u):KV (putK kvs k y) (stored vs k u):=by
 unfold putK stored
 rw[r.any k]
 by_cases e:(vs.any λkv=>decide (kv.1=k))=true
 ·rw[if_pos e,if_pos e];exact r.repl k ry
 ·rw[if_neg e,if_neg e];exact Paired.snoc r ⟨rfl,ry⟩
theorem KV.length(r:KV kvs vs):kvs.length=vs.length:=Paired.length r
end
theorem Nh(r:RelV (kV k) u):(xN P w).is k u=true:=by
 cases k with
 |inl i=>obtain⟨t,e⟩:=(show∃t,u=Value.int i t from r);subst e;exact zKt P w i t
 |inr x=>obtain⟨t,e⟩:=(show∃t,u=Value.str x t from r);subst e;exact zKs P w x t
theorem zJh:∀{ks:List Key}{us:List Value},Vals (ks.map kV) us->ItemsAre (xN P w) ks us
 |[],_,r=>by rw[map_nil] at r;cases r;exact .nil
 |k::ks,_,r=>by
  rw[map_cons] at r
  cases r with
  |cons h t=>exact .cons (Nh h) (zJh t)
abbrev KT(H:Hp):List (List Key×V)->List (List Key×Addr×Value)->Prop:=Paired λp q=>p.1=q.1/\H q.2.1=some (.tup (p.1.map kV))/\RelV p.2 q.2.2
theorem KT.val(r:KT H kvs xs)(k:List Key):iz (gA kvs k) ((atKey xs k).map (·.2)):=by
 induction r with
 |nil=>exact True.intro
 |@cons p q ps qs h t ih =>
  obtain⟨h1,_,h2⟩:=h
  by_cases e:p.1=k
  ·have e':q.1=k:=h1.symm.trans e
   have b:atKey (q::qs) k=some q.2:=by simp[atKey,find?_cons,e']
   rw[Wq e,b];exact h2
  ·have e':¬q.1=k:=λz=>e (h1.trans z)
   have b:atKey (q::qs) k=atKey qs k:=by simp[atKey,find?_cons,e']
   rw[Wr e,b];exact ih
theorem KT.repl(r:KT H kvs xs)(k:List Key)(ry:RelV y u) :
  KT H (kvs.map λkv=>if kv.1=k then(kv.1,y) else kv) (xs.map (putAt k u)):=by
 induction r with
 |nil=>exact .nil
 |@cons p q ps qs h t ih =>
  rw[map_cons,map_cons]
  refine .cons ?_ ih
  obtain⟨h1,h2,h3⟩:=h
  unfold putAt
  by_cases e:p.1=k
  ·rw[if_pos e,if_pos (h1.symm.trans e)];exact⟨h1,h2,ry⟩
  ·rw[if_neg e,if_neg (λz=>e (h1.trans z))];exact⟨h1,h2,h3⟩
theorem KT.put(r:KT H kvs xs)(k:List Key)(hb:H b=some (.tup (k.map kV)))(ry:RelV y u) :
  KT H (putK kvs k y) (storedH xs k b u):=by
 have e:(kvs.any λkv=>decide (kv.1=k))=(atKey xs k).isSome:=by
  rw[zLe,(r.val k).eX,Option.isSome_map]
 unfold putK storedH
 rw[e]
 by_cases q:(atKey xs k).isSome=true
 ·rw[if_pos q,if_pos q];exact r.repl k ry
 ·rw[if_neg q,if_neg q];exact Paired.snoc r ⟨rfl,hb,ry⟩
theorem KT.keeps(r:KT H kvs xs)(ht:∀b ys,H b=some (.tup ys)->H' b=some (.tup ys)):KT H' kvs xs :=
 Paired.Jj r λ_ _ z=>⟨z.1,ht _ _ z.2.1,z.2.2⟩
section
variable{P:Program}{w:World}{H:Hp}{h:Heap}{a:Addr}
theorem Hq(ok:gn P w H h)(e:Rd H a u):aR P w H h a u:=e.ok ok
theorem Qh(ok:gn P w H h)(e:Rd H a (.dK kvs)):kvs.length<=sizeLine/\(a==sysModules)=false/\∃vs,KV kvs vs/\h.DictOf (xN P w) a vs :=
 show aR P w H h a (.dK kvs) from Hq ok e
theorem yw(ok:gn P w H h)(e:H a=some (.dK kvs)):kvs.length<=sizeLine/\(a==sysModules)=false/\∃vs,KV kvs vs/\h.DictOf (xN P w) a vs:=Qh ok (.inl e)
theorem Qi{ks:List Key}(ok:gn P w H h)(e:H a=some (.tup (ks.map kV))):(tupleKind (xN P w)).is h ks a:=by
 obtain⟨_,its,r,o,h1,h2,n,h3⟩:=(show aR P w H h a (.tup (ks.map kV)) from ok a _ e)
 exact⟨o,its.toArray,n,h1,h2,h3,by simpa using zJh r⟩
theorem Qj(ok:gn P w H h)(e:Rd H a (.dT kvs)):kvs.length<=sizeLine/\(a==sysModules)=false /\
  ∃xs,KT H kvs xs/\h.DictOfH (tupleKind (xN P w)) a xs:=by
 obtain⟨z,y,xs,r,o,es,ep,h1,h2,h3,h4,h5⟩:=(show aR P w H h a (.dT kvs) from Hq ok e)
 refine⟨z,y,xs,r,o,es,ep,h1,h2,h3,h4,λx hx=>?_,h5⟩
 have all:∀{l:List (List Key×V)}{m:List (List Key×Addr×Value)},KT H l m->∀x∈m,(tupleKind (xN P w)).is h x.1 x.2.1:=by
  intro l m q
  induction q with
  |nil=>intro x hx;exact nomatch hx
  |@cons p q ps qs hq t ih =>
   intro x hx
   rcases mem_cons.mp hx with e|hx
   ·subst e
    exact Qi ok (by rw[<-hq.1];exact hq.2.1)
   ·exact ih x hx
 exact all r x hx
theorem Qk(ok:gn P w H h)(e:H a=some (.dT kvs)):kvs.length<=sizeLine/\(a==sysModules)=false /\
  ∃xs,KT H kvs xs/\h.DictOfH (tupleKind (xN P w)) a xs:=Qj ok (.inl e)
end
def kY(H:Hp)(a:Addr)(y:V)(r:Option V):Prop :=
 (∃kvs k,Rd H a (.dK kvs)/\y=kV k/\r=gA kvs k)\/∃kvs k b,Rd H a (.dT kvs)/\y=.ref b/\H b=some (.tup (k.map kV))/\r=gA kvs k
def tH(H:Hp)(a:Addr)(y v:V)(H':Hp):Prop :=
 (∃kvs k,H a=some (.dK kvs)/\y=kV k/\kvs.length<sizeLine/\H'=upd H a (.dK (putK kvs k v))) \/
 ∃kvs k b,H a=some (.dT kvs)/\y=.ref b/\H b=some (.tup (k.map kV))/\kvs.length<sizeLine/\H'=upd H a (.dT (putK kvs k v))
theorem kY.k{H:Hp}{a:Addr}{kvs:List (Key×V)}{k:Key}(e:H a=some (.dK kvs)):kY H a (kV k) (gA kvs k):=.inl ⟨kvs,k,.inl e,rfl,rfl⟩
theorem tH.k{H:Hp}{a:Addr}{kvs:List (Key×V)}{k:Key}{v:V}(e:H a=some (.dK kvs))(hl:kvs.length<sizeLine):tH H a (kV k) v (upd H a (.dK (putK kvs k v))):=.inl ⟨kvs,k,e,rfl,hl,rfl⟩
section
variable{X:Cx}{pins:List (Addr×Obj)}{σ:St}{H:Hp}{s:Shared}{a:Addr}{y v:V}{u r:Value}{o:Option V}{A:Around}{E:Value->Shared->Prop}
theorem Inv.big(I:Inv X pins σ H s):sysModules<s.heap.objs.size:=by
 have h:mainGlobals<s.heap.objs.size:=(I.mod.glob.keeps I.bk).lt
 exact Nat.lt_trans (by decide) h
theorem Wt{Q:Value->Shared->Prop}(hu:A.units+1<cLine)(I:Inv X pins σ H s)(g:kY H a y o)(ry:RelV y u)(h:∀s',Inv X pins σ H s'->Q (.bool o.isSome) s') :
  wpAny (model X.prog X.w) A (compareOp .In u (.ref a)) Q E s:=by
 rcases g with⟨kvs,k,e,ey,l⟩|⟨kvs,k,b,e,ey,eb,l⟩
 ·subst ey
  obtain⟨z,hd,vs,rel,dd⟩:=Qh I.hok e
  refine wpAny_in_of (Nh ry) hd dd.mapOf ?_
  rw[<-(rel.val k).eX,<-l]
  exact h _ (I.tok _)
 ·subst ey
  cases(show u=Value.ref b from ry)
  obtain⟨z,hd,xs,rel,dd⟩:=Qj I.hok e
  refine wpAny_in_heap (tupleKind_room_in1 hu) (Qi I.hok eb) hd dd ?_
  have q:=(rel.val k).eX
  rw[Option.isSome_map] at q
  rw[<-q,<-l]
  exact h _ (I.tok _)
theorem Di{Q:Value->Shared->Prop}(hu:A.units+1<cLine)(I:Inv X pins σ H s)(g:kY H a y o)(ry:RelV y u)(h:∀s',Inv X pins σ H s'->Q (.bool (!o.isSome)) s') :
  wpAny (model X.prog X.w) A (compareOp .NotIn u (.ref a)) Q E s:=by
 rcases g with⟨kvs,k,e,ey,l⟩|⟨kvs,k,b,e,ey,eb,l⟩
 ·subst ey
  obtain⟨z,hd,vs,rel,dd⟩:=Qh I.hok e
  refine wpAny_notIn_of (Nh ry) hd dd.mapOf ?_
  rw[<-(rel.val k).eX,<-l]
  exact h _ (I.tok _)
 ·subst ey
  cases(show u=Value.ref b from ry)
  obtain⟨z,hd,xs,rel,dd⟩:=Qj I.hok e
  refine wpAny_notIn_heap (tupleKind_room_in1 hu) (Qi I.hok eb) hd dd ?_
  have q:=(rel.val k).eX
  rw[Option.isSome_map] at q
  rw[<-q,<-l]
  exact h _ (I.tok _)
theorem Wu(I:Inv X pins σ H s)(mu:O8 (H a))(hs:SameBut a s.heap h')(he:∃q,h'.get? a=some q)(new:aR X.prog X.w (upd H a ob) h' a ob) :
  Inv X pins σ (upd H a ob) { s with heap:=h',toks:=t' } :=
 I.write (x:=a) (e:=a) mu (.inl rfl) (λb q hb z=>(hs.2 b hb).trans z) he new
theorem zUw{h':Heap}{kvs:List (Key×V)}(z:kvs.length<=sizeLine)(hd:(a==sysModules)=false)(rel:KV kvs vs)(dd:h'.DictOf (xN P w) a vs) :
  aR P w H' h' a (.dK kvs):=⟨z,hd,vs,rel,dd⟩
theorem zQ8{Q:Unit->Shared->Prop}(hu:A.units+1<cLine)(I:Inv X pins σ H s)(g:tH H a y v H')(ry:RelV y u)(rv:RelV v r)(h:∀s',Inv X pins σ H' s'->Q () s') :
  wpAny (model X.prog X.w) A (setItem (.ref a) u r) Q E s:=by
 rcases g with⟨kvs,k,e,ey,l,eH⟩|⟨kvs,k,b,e,ey,eb,l,eH⟩
 ·subst ey eH
  obtain⟨z,hd,vs,rel,dd⟩:=yw I.hok e
  have hz:vs.length<=sizeLine:=by rw[<-rel.length];exact z
  have hl:(putK kvs k v).length<=sizeLine:=by have:=Ws kvs k v;omega
  refine wpAny_setItem_pairs (hsz:=hz) (Nh ry) dd λh' JG hs=>h _ ?_
  have he:∃q,h'.get? a=some q:=let⟨q,_,_,hq,_⟩:=JG;⟨q,hq⟩
  exact Wu I (by rw[e];exact True.intro) hs he (zUw hl hd (rel.put k rv) JG)
 ·subst ey eH
  cases(show u=Value.ref b from ry)
  obtain⟨z,hd,xs,rel,dd⟩:=Qk I.hok e
  have hz:xs.length<=sizeLine:=by rw[<-Paired.length rel];exact z
  have hl:(putK kvs k v).length<=sizeLine:=by have:=Ws kvs k v;omega
  refine wpAny_setItem_heap (hsz:=hz) (tupleKind_room_in1 hu) (Qi I.hok eb) dd λh' JG hs=>h _ ?_
  obtain⟨q,es,ep,hq,h2,h3,h4,_,h5⟩:=JG
  refine Wu I (by rw[e];exact True.intro) hs ⟨q,hq⟩ ⟨hl,hd,_,(rel.put k eb rv).keeps λc ys ec=>?_,q,es,ep,hq,h2,h3,h4,h5⟩
  rw[zP (O7 ec e (λz=>nomatch z))]
  exact ec
end
section
variable{X:Cx}{pins:List (Addr×Obj)}{σ:St}{H:Hp}{s:Shared}{a:Addr}{kvs:List (Key×V)}{k:Key}{u:Value}{A:Around}{E:Value->Shared->Prop}
end
def JH(ty td:TE):TE:=λσ H Q=>ty σ H λy H1=>td σ H1 λx H2=>∃a o,x=.ref a/\kY H2 a y o/\Q (.bl o.isSome) H2
def zOf(ty td:TE):TE:=λσ H Q=>ty σ H λy H1=>td σ H1 λx H2=>∃a o,x=.ref a/\kY H2 a y o/\Q (.bl (!o.isSome)) H2
def yx(td ty tv:TE):TS:=λD σ H=>tv σ H λv H1=>td σ H1 λx H2=>ty σ H2 λy H3=>∃a H4,x=.ref a/\tH H3 a y v H4/\D.nx σ H4
section
variable{X:Cx}{o i e value:Expr}{pos pos' tpos:Pos}{td ty tv:TE}
theorem zUi(hu:X.A.units+1<cLine)(hi:PE X i ty)(ho:PE X o td):PC X .In i o (JH ty td):=by
 intro pins s σ H Q I h
 refine aJ (hi pins s σ H _ I h) λiv s1 ⟨y,H1,I1,ry,q1⟩=>aJ (ho pins s1 σ H1 _ I1 q1) λu s2 ⟨x,H2,I2,rx,a,ov,ex,g,q2⟩=>?_
 subst ex
 obtain rfl:u=Value.ref a:=rx
 exact Wt hu I2 g ry λs3 I3=>⟨.bl ov.isSome,H2,I3,rfl,q2⟩
theorem zIz(hu:X.A.units+1<cLine)(hi:PE X i ty)(ho:PE X o td):PC X .NotIn i o (zOf ty td):=by
 intro pins s σ H Q I h
 refine aJ (hi pins s σ H _ I h) λiv s1 ⟨y,H1,I1,ry,q1⟩=>aJ (ho pins s1 σ H1 _ I1 q1) λu s2 ⟨x,H2,I2,rx,a,ov,ex,g,q2⟩=>?_
 subst ex
 obtain rfl:u=Value.ref a:=rx
 exact Di hu I2 g ry λs3 I3=>⟨.bl (!ov.isSome),H2,I3,rfl,q2⟩
theorem Ql(hu:X.A.units+1<cLine)(ho:PE X o td)(hi:PE X i ty)(hv:PE X value tv)(hs:swapsWith value (some (.Subscript o i pos')) pos.line X.env=pure false) :
  PS X (.Assign [.Subscript o i pos'] value pos) (yx td ty tv):=by
 intro pins s σ H D I h
 refine wpAny_Assign_Subscript (aJ (hv pins s σ H _ I h) λr s1 ⟨v,H1,I1,rv,q1⟩=>aJ (ho pins s1 σ H1 _ I1 q1) λu s2 ⟨x,H2,I2,rx,q2⟩=>aJ (hi pins s2 σ H2 _ I2 q2) λiv s3 ⟨y,H3,I3,ry,a,H4,ex,g,q3⟩=>?_) hs
 subst ex
 obtain rfl:u=Value.ref a:=rx
 exact zQ8 hu I3 g ry rv λs4 I4=>⟨σ,H4,I4,q3⟩
end
theorem zMa(h:Heap)(hb:sysModules<h.objs.size):aR P w H (h.push { cls:=.type "dict",data:=.dict #[] }) h.objs.size (.dK []) :=
 ⟨Nat.zero_le _,beq_eq_false_iff_ne.mpr (Ne.symm (Nat.ne_of_lt hb)),[],.nil,Heap.DictOf.new h⟩
def zUa:TE:=λ_ H Q=>∀p,H p=none->Q (.ref p) (upd H p (.dK []))
section
variable{X:Cx}{pos:Pos}
theorem Ue:PE X (.Dict [] [] pos) zUa:=λpins s σ H Q I h =>
 wpAny_Dict_empty ⟨.ref s.heap.objs.size,_,I.laid (a:=s.heap.objs.size) (o:=.dK []) (t':=s.toks) (λ_ _ q=>get?_push_of_some _ q) (Nat.le_refl _) (zMa s.heap I.big),rfl,h _ (I.hok.fresh (Nat.le_refl _))⟩
end
def Wv:List (TE×TE)->St->Hp->(List (V×V)->Hp->Prop)->Prop
 |[],_,H,Q=>Q [] H
 | (tk,tv)::r,σ,H,Q=>tk σ H λx H1=>tv σ H1 λy H2=>Wv r σ H2 λps H3=>Q ((x,y)::ps) H3
abbrev VV:List (V×V)->List (Value×Value)->Prop:=Paired λp q=>RelV p.1 q.1/\RelV p.2 q.2
def Ug(X:Cx)(pos:Pos)(keys:List (Option Expr))(values:List Expr)(JK:List (TE×TE)):Prop :=
 ∀(pins:List (Addr×Obj))(s:Shared)(σ:St)(H:Hp)(Q:List (V×V)->Hp->Prop),Inv X pins σ H s->Wv JK σ H Q ->
  wpAny (model X.prog X.w) X.A (evalPairs (pairTrees keys values X.env pos)) (λvs s'=>∃ps H',Inv X pins σ H' s'/\VV ps vs/\Q ps H') X.xe s
theorem Dj:Ug X pos [] [] []:=λpins s σ H Q I h=>pairTrees_nil_walk ⟨[],H,I,.nil,h⟩
theorem zSq(hk:PE X k tk)(hv:PE X v tv)(hr:Ug X pos ks vs JK) :
  Ug X pos (some k::ks) (v::vs) ((tk,tv)::JK):=λpins s σ H Q I h =>
 pairTrees_cons_walk (aJ (hk pins s σ H _ I h) λu s1 ⟨x,H1,I1,rx,q1⟩=>aJ (hv pins s1 σ H1 _ I1 q1) λw2 s2 ⟨y,H2,I2,ry,q2⟩ =>
  aJ (hr pins s2 σ H2 _ I2 q2) λws s3 ⟨ps,H3,I3,rel,q3⟩=>⟨(x,y)::ps,H3,I3,.cons ⟨rx,ry⟩ rel,q3⟩)
def Ni(kvs more:List (Key×V)):List (Key×V):=more.foldl (λacc kv=>putK acc kv.1 kv.2) kvs
theorem KV.merge:∀{more:List (Key×V)}{rs:List (Key×Value)}{kvs:List (Key×V)}{vs:List (Key×Value)},KV more rs->KV kvs vs->KV (Ni kvs more) (merged vs rs):=by
 intro more rs kvs vs r
 unfold KV at r
 induction r generalizing kvs vs with
 |nil=>intro q;exact q
 |@cons p q ps qs h t ih =>
  intro r0
  have e:KV (putK kvs p.1 p.2) (stored vs q.1 q.2):=by
   have:=r0.put p.1 h.2
   rw[<-h.1];exact this
  exact ih e
theorem zC4:∀(more kvs:List (Key×V)),(Ni kvs more).length<=kvs.length+more.length
 |[],kvs=>by show kvs.length<=kvs.length+0;omega
 |p::r,kvs=>by
  have h1:=zC4 r (putK kvs p.1 p.2)
  have h2:=Ws kvs p.1 p.2
  show(Ni (putK kvs p.1 p.2) r).length<=_
  rw[length_cons];omega
theorem zGr:∀{kvs:List (Key×V)}{ws:List (Value×Value)},VV (kvs.map λkv=>(kV kv.1,kv.2)) ws->∃rs,Carries (xN P w) ws rs/\KV kvs rs
 |[],_,r=>by rw[map_nil] at r;cases r;exact⟨[],True.intro,.nil⟩
 |p::kvs,_,r=>by
  rw[map_cons] at r
  cases r with
  |@cons a b as bs h t =>
   obtain⟨rs,c,q⟩:=zGr (P:=P) (w:=w) t
   obtain⟨b1,b2⟩:=b
   exact⟨(p.1,b2)::rs,⟨Nh h.1,rfl,c⟩,.cons ⟨rfl,h.2⟩ q⟩
def za(JK:List (TE×TE)):TE:=λσ H Q=>∀p,H p=none->Wv JK σ (upd H p (.dK [])) λps H2=>H2 p=some (.dK [])/\∃kvs:List (Key×V),ps=kvs.map (λkv=>(kV kv.1,kv.2))/\kvs.length<=15/\Q (.ref p) (upd H2 p (.dK (Ni [] kvs)))
theorem Dk(h:Ug X pos keys values JK)(hall:keys.all (·.isSome)=true)(hl:keys.length=values.length)(h0:keys≠[])(h15:keys.length<=15):PE X (.Dict keys values pos) (za JK):=by
 intro pins s σ H Q I q
 have hn:=I.hok.fresh (Nat.le_refl s.heap.objs.size)
 have I1:=I.laid (a:=s.heap.objs.size) (o:=.dK []) (h':=s.heap.push { cls:=.type "dict",data:=.dict #[] }) (t':=s.toks) (λ_ _ q=>get?_push_of_some _ q) (Nat.le_refl _) (zMa s.heap I.big)
 refine wpAny_Dict_walk (knd:=xN X.prog X.w) hall hl h0 h15 (aJ (h pins _ σ _ _ I1 (q _ hn)) λws s2 ⟨ps,H2,I2,rel,e,kvs,ep,lk,q2⟩=>?_)
 subst ep
 obtain⟨rs,c,rk⟩:=zGr (P:=X.prog) (w:=X.w) rel
 obtain⟨z,hd,vs0,r0,dd⟩:=yw I2.hok e
 cases r0
 refine⟨rs,c,dd,λh' JG hs=>⟨.ref s.heap.objs.size,_,?_,rfl,q2⟩⟩
 have hz:(Ni [] kvs).length<=sizeLine:=by
  have h1:=zC4 kvs []
  rw[length_nil] at h1
  rw[sizeLine_eq];omega
 have he:∃q,h'.get? s.heap.objs.size=some q:=let⟨q,_,_,hq,_⟩:=JG;⟨q,hq⟩
 exact Wu I2 (by rw[e];exact True.intro) hs he (zUw hz hd (rk.merge .nil) JG)
structure M1(X:Cx)(o:Expr)(m:Str)(apos:Pos)(e:Expr)(cpos:Pos):Prop where
 base:attributeBase o m X.env (eval o X.env)=eval o X.env
 few:((backTo cpos (starEach [e] X.env)).all (λx=>!x.1)&&(backToKw cpos (keywordEach [] X.env)).all (λx=>x.1.isSome)
  && decide (([e]:List Expr).length+([]:List Keyword).length+(if([]:List Keyword).isEmpty then 0 else 1)<30))=true
 line:(apos.endLine==cpos.line)=true
 trees:backTo cpos (starEach [e] X.env)=[(false,eval e X.env)]
structure M2(X:Cx)(o:Expr)(m:Str)(apos:Pos)(e f:Expr)(cpos:Pos):Prop where
 base:attributeBase o m X.env (eval o X.env)=eval o X.env
 few:((backTo cpos (starEach [e,f] X.env)).all (λx=>!x.1)&&(backToKw cpos (keywordEach [] X.env)).all (λx=>x.1.isSome)
  && decide (([e,f]:List Expr).length+([]:List Keyword).length+(if([]:List Keyword).isEmpty then 0 else 1)<30))=true
 line:(apos.endLine==cpos.line)=true
 trees:backTo cpos (starEach [e,f] X.env)=[(false,eval e X.env),(false,eval f X.env)]
def IsD(H:Hp)(a:Addr):Prop:=(∃kvs,Rd H a (.dK kvs))\/∃kvs,Rd H a (.dT kvs)
theorem JL(I:Inv X pins σ H s)(d:IsD H a) :
  s.TypeIs (.ref a) "dict" /\ (∀b,Value.ref a=.ref b->∃ob,s.heap.get? b=some ob/\ob.dict=none)/\(a==sysModules)=false:=by
 rcases d with⟨kvs,e⟩|⟨kvs,e⟩
 ·obtain⟨_,hd,vs,_,dd⟩:=Qh I.hok e
  refine⟨dd.typeIs,λb q=>?_,hd⟩
  cases q
  obtain⟨ob,_,_,h1,h2,_⟩:=dd
  exact⟨ob,h1,h2.2.1⟩
 ·obtain⟨_,hd,xs,_,dd⟩:=Qj I.hok e
  refine⟨dd.typeIs,λb q=>?_,hd⟩
  cases q
  obtain⟨ob,_,_,h1,h2,_⟩:=dd
  exact⟨ob,h1,h2.2.1⟩
section
variable{X:Cx}{pins:List (Addr×Obj)}{σ:St}{H:Hp}{s:Shared}{a:Addr}{y d:V}{u r:Value}{o:Option V}{A:Around}{E:Value->Shared->Prop}
theorem JM{Q:Value->Shared->Prop}(hu:A.units+1<cLine)(I:Inv X pins σ H s)(g:kY H a y o)(ry:RelV y u)(h:∀w' s',Inv X pins σ H s'->RelV (o.getD .non) w'->Q w' s') :
  wpAny (model X.prog X.w) A (call (.builtin "dict.get") [.ref a,u]) Q E s:=by
 rcases g with⟨kvs,k,e,ey,l⟩|⟨kvs,k,b,e,ey,eb,l⟩
 ·subst ey
  obtain⟨z,hd,vs,rel,dd⟩:=Qh I.hok e
  refine call_meetsIn PySem.F.slot_dict_get dd.typeIs PySem.F.entry_dict_get (PySem.F.args_dict_get_2 _ _) (meets_dict_get (xN X.prog X.w) a (Nh ry) hd) ⟨_,dd.mapOf,h _ _ (I.tok _) ?_⟩
  rw[l]
  exact(rel.val k).getD rfl
 ·subst ey
  cases(show u=Value.ref b from ry)
  obtain⟨z,hd,xs,rel,dd⟩:=Qj I.hok e
  refine call_meetsIn PySem.F.slot_dict_get dd.typeIs PySem.F.entry_dict_get (PySem.F.args_dict_get_2 _ _) (meetsH_dict_get (tupleKind (xN X.prog X.w)) a b hd) ⟨tupleKind_room_in1 hu,k,xs,Qi I.hok eb,dd,h _ _ (I.tok _) ?_⟩
  rw[l]
  exact(rel.val k).getD rfl
end
def zUb(td ty:TE):TE:=λσ H Q=>td σ H λx H1=>∃a,x=.ref a/\IsD H1 a/\ty σ H1 λy H2=>∃o,kY H2 a y o/\Q (o.getD .non) H2
section
variable{X:Cx}{o e f:Expr}{apos cpos:Pos}{td ty tx:TE}
theorem zSt(hu:X.A.units+1<cLine)(ho:PE X o td)(he:PE X e ty)(m:M1 X o "get" apos e cpos):PE X (.Call (.Attribute o "get" apos) [e] [] cpos) (zUb td ty):=by
 intro pins s σ H Q I h
 refine wpAny_Call_method m.base m.few m.line PySem.F.plainAttrs_dict PySem.F.slot_dict_get PySem.F.type_dict_get (aJ (ho pins s σ H _ I h) λu s1 ⟨x,H1,I1,rx,a,ex,d,q1⟩=>?_)
 subst ex
 obtain rfl:u=Value.ref a:=rx
 obtain⟨t1,t2,_⟩:=JL I1 d
 refine⟨t1,t2,?_⟩
 rw[m.trees]
 refine Calls.callWith_builtin rfl (Calls.evalArgs_plain (Calls.spliced_cons (aJ (he pins s1 σ H1 _ I1 q1) λiv s2 ⟨y,H2,I2,ry,ov,g,q2⟩=>Calls.spliced_nil ?_)))
 exact JM hu I2 g ry λw' s3 I3 JN=>⟨_,H2,I3,JN,q2⟩
end
section
variable{X:Cx}{pins:List (Addr×Obj)}{σ:St}{H:Hp}{s:Shared}{a:Addr}{kvs:List (Key×V)}{A:Around}{E:Value->Shared->Prop}
end
section
variable{X:Cx}{pins:List (Addr×Obj)}{σ:St}{H:Hp}{s:Shared}{a:Addr}{y:V}{u:Value}{A:Around}{E:Value->Shared->Prop}
end
end L2
namespace HT
open PySem PyProof.Rows
section
open PySem.SeqAt
open PySem.AutoSeq1 (wpAny_loadPart')
open PySem.MeetsSeq PySem.MeetsSeq2 PySem.MeetsSeq3
end
section
variable{prog:Program}{w:World}{A:Around}{E:Value->Shared->Prop}{s:Shared}
def m5(n d:Nat):Option Int->Nat
 |none=>d
 |some v=>if v<0 then(v+(n:Int)).toNat else min v.toNat n
theorem pQ(n d:Nat):m5 n d none=d:=rfl
theorem Dl(n d k:Nat):m5 n d (some (k:Int))=min k n:=by
 show(if(k:Int)<0 then((k:Int)+(n:Int)).toNat else min (k:Int).toNat n)=min k n
 rw[if_neg (by omega),Int.toNat_natCast]
end
end HT
namespace L2
open PySem PySem.Spec PyProof.Rows
abbrev TO:=St->Hp->(Option Int->Hp->Prop)->Prop
def PO(X:Cx)(e:Option Expr)(t:TO):Prop :=
 ∀(pins:List (Addr×Obj))(s:Shared)(σ:St)(H:Hp)(Q:Option Int->Hp->Prop),Inv X pins σ H s->t σ H Q ->
  wpAny (model X.prog X.w) X.A (evalPart e X.env) (λu s'=>∃o H',Inv X pins σ H' s'/\IsPart u o/\Q o H') X.xe s
def Uh:TO:=λ_ H Q=>Q none H
def Ui(t:TE):TO:=λσ H Q=>t σ H λx H1=>∃i,x=.int i/\Q (some i) H1
section
variable{X:Cx}{e:Expr}{te:TE}{lo hi:Option Expr}{tl th:TO}{pos p2:Pos}
theorem Ww:PO X none Uh:=by
 intro pins s σ H Q I h
 rw[evalPart_none]
 exact wpAny_pure ⟨none,H,I,.none,h⟩
theorem Wx(h:PE X e te):PO X (some e) (Ui te):=by
 intro pins s σ H Q I hw
 rw[evalPart_some]
 refine aJ (h pins s σ H _ I hw) λu s1 ⟨x,H1,I1,r1,q1⟩=>?_
 obtain⟨i,rfl,q⟩:=q1
 obtain⟨t,rfl⟩:=r1
 exact⟨some i,H1,I1,.int i t,q⟩
def Uj(X:Cx)(r:V->Option Int->Option Int->Hp->VK->Prop):Prop :=
 ∀(pins:List (Addr×Obj))(s:Shared)(σ:St)(H:Hp)(x:V)(v vl vu:Value)(lo hi:Option Int)(sl:Addr)(Q:VK),Inv X pins σ H s->RelV x v->s.heap.IsSliceOf sl vl vu .none->IsPart vl lo->IsPart vu hi->r x lo hi H Q ->
  ∃T id,typeLookup (.type T) "__getitem__" = pure (some (.builtin id))/\s.TypeIs v T/\wpAny (model X.prog X.w) X.A (getItem v (.ref sl)) (EP X pins σ Q) X.xe s
def Uk(r:V->Option Int->Option Int->Hp->VK->Prop)(te:TE)(tl th:TO):TE:=λσ H Q=>te σ H λx H1=>tl σ H1 λl H2=>th σ H2 λu H3=>r x l u H3 Q
theorem Wy(hr:Uj X r)(he:PE X e te)(hl:PO X lo tl)(hu:PO X hi th):PE X (.Subscript e (.Slice lo hi none p2) pos) (Uk r te tl th):=by
 intro pins s σ H Q I h
 refine Subscript_ (aJ (he pins s σ H _ I h) λv s1 ⟨x,H1,I1,r1,q1⟩=>?_)
 refine wpAny_Slice (aJ (hl pins s1 σ H1 _ I1 q1) λvl s2 ⟨l,H2,I2,pl,q2⟩=>aJ (hu pins s2 σ H2 _ I2 q2) λvu s3 ⟨u,H3,I3,pu,q3⟩=>?_)
 rw[evalPart_none]
 refine wpAny_pure ?_
 have I4:Inv X pins σ H3 { s3 with heap:=s3.heap.push { cls:=.type "slice",data:=.fields #[vl,vu,.none] } }:=I3.kept (t':=s3.toks) λb ob q=>get?_push_of_some _ q
 obtain⟨T,id,hT,ht,hg⟩:=hr pins { s3 with heap:=s3.heap.push { cls:=.type "slice",data:=.fields #[vl,vu,.none] } } σ H3 x v vl vu l u s3.heap.objs.size Q I4 r1 (Heap.IsSliceOf.new ..) pl pu q3
 show wpAny (model X.prog X.w) X.A (subscriptTail e (.Slice lo hi none p2) v (.ref s3.heap.objs.size)) (EP X pins σ Q) X.xe { s3 with heap:=s3.heap.push { cls:=.type "slice",data:=.fields #[vl,vu,.none] } }
 exact tail_any (ops:=[.ref s3.heap.objs.size,v]) ht hT hg (by with_unfolding_all rfl)
def tK(xs:List V)(lo hi:Option Int):List V:=(xs.drop (HT.m5 xs.length 0 lo)).take (HT.m5 xs.length xs.length hi-HT.m5 xs.length 0 lo)
theorem zK3(xs:List V)(lo hi:Option Int):(tK xs lo hi).length<=xs.length:=by
 unfold tK
 rw[length_take,length_drop]
 omega
end
def qK(n:Nat)(i:Int):Option Nat:=if 0<=i then(if i<n then some i.toNat else none) else if -(n:Int)<=i then some (i+n).toNat else none
def aH{α:Type}(xs:List α)(i:Int):Option α:=(qK xs.length i).bind λj=>xs[j]?
theorem zP9(h:qK n i=some j):seqIndex? i n=some j/\j<n /\ -(n:Int)<=i/\i<n:=by
 unfold qK at h
 by_cases h0:0<=i
 ·rw[if_pos h0] at h
  by_cases h1:i<n
  ·rw[if_pos h1] at h
   have e:i.toNat=j:=Option.some.inj h
   exact⟨by rw[seqIndex_of h0 h1,e],by omega,by omega,h1⟩
  ·rw[if_neg h1] at h;cases h
 ·rw[if_neg h0] at h
  by_cases h1:-(n:Int)<=i
  ·rw[if_pos h1] at h
   have e:(i+n).toNat=j:=Option.some.inj h
   exact⟨by rw[seqIndex_neg (by omega) h1,e],by omega,h1,by omega⟩
  ·rw[if_neg h1] at h;cases h
theorem Wz{α:Type}{xs:List α}{v:α}(h:aH xs i=some v):∃j,seqIndex? i xs.length=some j/\xs[j]?=some v/\j<xs.length /\ -(xs.length:Int)<=i/\i<xs.length:=by
 unfold aH at h
 cases e:qK xs.length i with
 |none=>rw[e] at h;cases h
 |some j =>
  rw[e] at h
  obtain⟨h1,h2,h3,h4⟩:=zP9 e
  exact⟨j,h1,h,h2,h3,h4⟩
theorem WD{α:Type}{xs:List α}{j:Nat}{v:α}(h:xs[j]?=some v):aH xs (j:Int)=some v:=by
 have hj:j<xs.length:=(List.getElem?_eq_some_iff.mp h).1
 have e:qK xs.length (j:Int)=some j:=by
  unfold qK
  rw[if_pos (by omega),if_pos (by omega)];simp
 unfold aH;rw[e];exact h
def Dm(b:Expr):Prop:=∀o i,subscripted b false o i=operate [o,i] (getItem o i)
def Qm(X:Cx)(r:R2):Prop :=
 ∀(value slice:Expr)(pins:List (Addr×Obj))(s:Shared)(σ:St)(H:Hp)(x y:V)(v u:Value)(Q:VK),Inv X pins σ H s->RelV x v->RelV y u->r x y H Q ->
  subscripted slice false v u=operate [v,u] (getItem v u)->wpAny (model X.prog X.w) X.A (subscriptTail value slice v u) (EP X pins σ Q) X.xe s
def MtR(X:Cx)(id:String)(r:V->List V->Hp->VK->Prop):Prop :=
 ∀(pins:List (Addr×Obj))(s:Shared)(σ:St)(H:Hp)(x:V)(xs:List V)(v:Value)(us:List Value)(Q:VK),Inv X pins σ H s->RelV x v->Vals xs us->r x xs H Q ->
  wpAny (model X.prog X.w) X.A (call (.builtin id) (v::us)) (EP X pins σ Q) X.xe s
section
variable{X:Cx}{a b:Expr}{ta tb:TE}{pos:Pos}
theorem zY(hr:Qm X r)(ha:PE X a ta)(hb:PE X b tb)(hs:Dm b):PE X (.Subscript a b pos) (dN r ta tb):=by
 intro pins s σ H Q I h
 exact Subscript_ (CG ha hb I h λv u s2 x y H2 I2 rx ry q=>hr a b pins s2 σ H2 x y v u Q I2 rx ry q (hs _ _))
def tL(K:PySem.W.Frag):R2:=λx y H Q=>∃p xs i v,x=.ref p/\y=.int i/\aV K H p xs/\aH xs i=some v/\Q v H
def kZ(K:PySem.W.Frag):R2:=λx y H Q=>∃p xs i v,x=.ref p/\y=.int i/\ou K H p xs/\aH xs i=some v/\Q v H
theorem zP8:Qm X (tL X.K):=by
 intro value slice pins s σ H x y v u Q I rx ry h hs
 obtain⟨p,xs,i,z,rfl,rfl,hq,he,q⟩:=h
 cases rx
 obtain⟨t,rfl⟩:=ry
 obtain⟨its,r,pl,hz⟩:=I.list hq
 obtain⟨j,h1,h2,h3,h4,h5⟩:=Wz he
 obtain⟨w,ew,JN⟩:=r.get h2
 have hl:=r.length
 have hn:=Hl
 have fin:EP X pins σ Q w s:=⟨z,H,I,JN,q⟩
 by_cases h0:0<=i
 ·have hj:i.toNat=j:=by
   rw[seqIndex_of h0 h5] at h1
   exact Option.some.inj h1
  exact item_listR pl.isList h0 (by omega) (by rw[hj];simpa using ew) fin hs
 ·have hj:(i+(its.toArray.size:Int)).toNat=j:=by
   rw[seqIndex_neg (by omega) h4] at h1
   rw[size_toArray,<-hl]
   exact Option.some.inj h1
  exact subscriptTail_builtinR (x:=w) pl.isList.typeIs slot_list_getitem.lookup
   (wpAny_getItem_list_neg (Q:=λr s'=>r=w/\EP X pins σ Q r s') pl.isList (by omega) (by rw[size_toArray]<;>omega) (by omega) (by rw[hj];simpa using ew) ⟨rfl,fin⟩) hs
theorem JQ:Qm X (kZ X.K):=by
 intro value slice pins s σ H x y v u Q I rx ry h hs
 obtain⟨p,xs,i,z,rfl,rfl,hq,he,q⟩:=h
 cases rx
 obtain⟨t,rfl⟩:=ry
 obtain⟨its,r,pl,hz⟩:=I.tuple hq
 obtain⟨j,h1,h2,h3,h4,h5⟩:=Wz he
 obtain⟨w,ew,JN⟩:=r.get h2
 have hl:=r.length
 have hn:=Hl
 have fin:EP X pins σ Q w s:=⟨z,H,I,JN,q⟩
 exact subscriptTail_builtinR (x:=w) pl.typeIs slot_tuple_getitem.lookup
  (getItem_tuple (j:=j) (Q:=λr s'=>r=w/\EP X pins σ Q r s') pl (by omega) (by omega) (by rw[size_toArray,<-hl];exact h1) (by simpa using ew) ⟨rfl,fin⟩) hs
theorem zM9(its:List Value)(n j:Nat)(u:Value):Obj.mapSeq (·.setIfInBounds j u) { cls:=.type "list",data:=.seq its.toArray n }={ cls:=.type "list",data:=.seq (its.set j u).toArray n }:=by
 simp[Obj.mapSeq]
theorem Inv.lst(I:Inv X pins σ H s)(h:H p=some (.lst xs)) :
  ∃(its:List Value)(n:Nat),Vals xs its/\s.heap.get? p=some { cls:=.type "list",data:=.seq its.toArray n }/\xs.length<=sizeLine:=by
 obtain⟨z,its,n,r,e⟩:=I.hok p _ h
 exact⟨its,n,r,e,z⟩
theorem Inv.JR{its its':List Value}(I:Inv X pins σ H s)(h:H p=some (.lst xs))(ho:s.heap.get? p=some { cls:=.type "list",data:=.seq its.toArray n })(hf:f { cls:=.type "list",data:=.seq its.toArray n }={ cls:=.type "list",data:=.seq its'.toArray n' })(r:Vals ys its')(hz:ys.length<=sizeLine)(t:Nat) :
  Inv X pins σ (upd H p (.lst ys)) { s with heap:=s.heap.update p f,toks:=t }:=by
 have e:(s.heap.update p f).get? p=some { cls:=.type "list",data:=.seq its'.toArray n' }:=by
  rw[get?_update_self f ho (by rw[hf]<;>rfl),hf]
 refine I.write (x:=p) (e:=p) (by rw[h];trivial) (.inl rfl) (λb u hb q=>(get?_update_other _ _ (Ne.symm hb)).trans q) ⟨_,e⟩ ?_
 exact⟨hz,its',n',r,e⟩
def zc:V->V->V->Hp->(Hp->Prop)->Prop:=λo i v H Q=>∃p xs k j,o=.ref p/\i=.int k/\H p=some (.lst xs)/\qK xs.length k=some j/\Q (upd H p (.lst (xs.set j v)))
theorem Nj:Jr X zc:=by
 intro pins s σ H o i v ov iv u Q I ro ri rv h
 obtain⟨p,xs,k,j,rfl,rfl,hp,hj,q⟩:=h
 cases ro
 obtain⟨t,rfl⟩:=ri
 obtain⟨its,n,r,ho,hz⟩:=I.lst hp
 obtain⟨h1,h2,h3,h4⟩:=zP9 hj
 have hl:=r.length
 have hn:=Hl
 have I':Inv X pins σ (upd H p (.lst (xs.set j v))) { s with heap:=s.heap.update p (Obj.mapSeq (·.setIfInBounds j u)) } :=
  I.JR hp ho (zM9 its n j u) (r.set rv j) (by rw[length_set];exact hz) s.toks
 by_cases h0:0<=k
 ·have hk:k.toNat=j:=by
   rw[seqIndex_of h0 h4] at h1
   exact Option.some.inj h1
  exact PySem.W.ki_setAt ho h0 (by omega) (by rw[size_toArray,<-hl];exact h4) (by rw[hk];exact⟨_,I',q⟩)
 ·have hk:(k+(its.toArray.size:Int)).toNat=j:=by
   rw[seqIndex_neg (by omega) h3] at h1
   rw[size_toArray,<-hl]
   exact Option.some.inj h1
  exact PySem.W.ki_setBack ho (by omega) (by rw[size_toArray,<-hl];exact h3) (by omega) (by rw[hk];exact⟨_,I',q⟩)
theorem zIp(lo hi:Option Int)(n:Nat):(sliceBounds lo hi none n).1=((HT.m5 n 0 lo:Nat):Int)/\(sliceBounds lo hi none n).2.1=((HT.m5 n n hi:Nat):Int)/\(sliceBounds lo hi none n).2.2=1:=by
 refine⟨?_,?_,rfl⟩
 ·cases lo with
  |none=>simp[sliceBounds,HT.m5]
  |some i =>
   simp only[sliceBounds,HT.m5,Option.getD_none,show(1:Int) > 0 by decide,if_true]
   by_cases h:i<0
   ·simp only[h,if_true]<;>omega
   ·simp only[h,if_false]<;>omega
 ·cases hi with
  |none=>simp[sliceBounds,HT.m5]
  |some i =>
   simp only[sliceBounds,HT.m5,Option.getD_none,show(1:Int) > 0 by decide,if_true]
   by_cases h:i<0
   ·simp only[h,if_true]<;>omega
   ·simp only[h,if_false]<;>omega
theorem zG8(its:List Value)(lo hi:Option Int):slicePick its.toArray lo hi none=((its.drop (HT.m5 its.length 0 lo)).take (HT.m5 its.length its.length hi-HT.m5 its.length 0 lo)).toArray:=by
 obtain⟨h1,h2,h3⟩:=zIp lo hi its.toArray.size
 unfold slicePick
 rw[h1,h2,h3]
 simp only[sliceRange_one,pick_run,size_toArray]<;>rfl
def Dn(K:PySem.W.Frag):V->Option Int->Option Int->Hp->VK->Prop:=λx lo hi H Q=>∃a xs,x=.ref a/\aV K H a xs/\∀p,H p=none->Q (.ref p) (upd H p (.lst (tK xs lo hi)))
theorem Dq:Uj X (Dn X.K):=by
 intro pins s σ H x v vl vu lo hi sl Q I rx hs pl pu h
 obtain⟨a,xs,rfl,hx,q⟩:=h
 cases rx
 obtain⟨its,r,ht,hz⟩:=I.list hx
 have hlen:=r.length
 refine⟨"list",_,slot_list_getitem.lookup,ht.isList.typeIs,?_⟩
 refine wpAny_getItem_list_slice ht.isList hs pl pu .none (by simp) ?_ (by rw[size_toArray]<;>omega)
 rw[zG8,<-hlen]
 refine⟨.ref s.heap.objs.size,_,I.laid (t':=s.toks) (o:=.lst (tK xs lo hi)) (λb ob q=>get?_push_of_some _ q) (Nat.le_refl _) ?_,rfl,q _ (I.hok.fresh (Nat.le_refl _))⟩
 exact⟨Nat.le_trans (zK3 xs lo hi) hz,_,0,(r.drop (HT.m5 xs.length 0 lo)).take (HT.m5 xs.length xs.length hi-HT.m5 xs.length 0 lo),get?_push_size _ rfl⟩
def BP:V->Bool
 |.non=>true
 |.bl _=>true
 |.int _=>true
 |.str _=>true
 |_=>false
def Dr:V->V->Bool
 |.non,.non=>true
 |.bl a,.bl b=>a==b
 |.bl a,.int b=>(if a then 1 else 0)==b
 |.int a,.bl b=>a==(if b then 1 else 0)
 |.int a,.int b=>a==b
 |.str a,.str b=>a==b
 |_,_=>false
theorem JT(ry:RelV y u)(rx:RelV x v)(fy:BP y=true)(fx:BP x=true):SeqAt.EqAt A s u v (Dr y x):=by
 cases y with
 |non =>
  cases ry
  cases x with
  |non=>cases rx;exact SeqAt.EqAt.same _
  |bl b=>cases rx;exact SeqAt.EqAt.none_bool b
  |int b=>obtain⟨t,rfl⟩:=rx;exact SeqAt.EqAt.none_int b t
  |str b=>obtain⟨t,rfl⟩:=rx;exact SeqAt.EqAt.none_str b t
  |_=>exact absurd (show false=true from fx) Bool.false_ne_true
 |bl a =>
  cases ry
  cases x with
  |non=>cases rx;exact SeqAt.EqAt.bool_none a
  |bl b=>cases rx;exact SeqAt.EqAt.bool_bool a b
  |int b=>obtain⟨t,rfl⟩:=rx;exact SeqAt.EqAt.bool_int a b t
  |str b=>obtain⟨t,rfl⟩:=rx;exact SeqAt.EqAt.bool_str a b t
  |_=>exact absurd (show false=true from fx) Bool.false_ne_true
 |int a =>
  obtain⟨t',rfl⟩:=ry
  cases x with
  |non=>cases rx;exact SeqAt.EqAt.int_none a t'
  |bl b=>cases rx;exact SeqAt.EqAt.int_bool a t' b
  |int b=>obtain⟨t,rfl⟩:=rx;exact SeqAt.EqAt.int_int a t' b t
  |str b=>obtain⟨t,rfl⟩:=rx;exact SeqAt.EqAt.int_str a t' b t
  |_=>exact absurd (show false=true from fx) Bool.false_ne_true
 |str a =>
  obtain⟨t',rfl⟩:=ry
  cases x with
  |non=>cases rx;exact SeqAt.EqAt.str_none a t'
  |bl b=>cases rx;exact SeqAt.EqAt.str_bool a t' b
  |int b=>obtain⟨t,rfl⟩:=rx;exact SeqAt.EqAt.str_int a t' b t
  |str b=>obtain⟨t,rfl⟩:=rx;exact SeqAt.EqAt.str_str a t' b t
  |_=>exact absurd (show false=true from fx) Bool.false_ne_true
 |_=>exact absurd (show false=true from fy) Bool.false_ne_true
def qL(x:V)(u:Value):Bool:=match u with
 |.none=>Dr .non x
 |.bool b=>Dr (.bl b) x
 |.int i _=>Dr (.int i) x
 |.str z _=>Dr (.str z) x
 |_=>false
theorem zUs(r:RelV y u)(f:BP y=true):qL x u=Dr y x:=by
 cases y with
 |non=>cases r;rfl
 |bl b=>cases r;rfl
 |int i=>obtain⟨t,rfl⟩:=r;rfl
 |str z=>obtain⟨t,rfl⟩:=r;rfl
 |_=>exact absurd (show false=true from f) Bool.false_ne_true
theorem Qn:∀{xs:List V}{us:List Value},Vals xs us->xs.all BP=true->us.any (qL x)=xs.any λy=>Dr y x
 |_,_,.nil,_=>rfl
 |y::xs,u::us,.cons r t,f=>by
  rw[all_cons,Bool.and_eq_true] at f
  rw[any_cons,any_cons,zUs r f.1,Qn t f.2]
theorem Qo(rx:RelV x v)(fx:BP x=true):∀{xs:List V}{us:List Value},Vals xs us->xs.all BP=true->∀u∈us,SeqAt.EqAt A s u v (qL x u)
 |_,_,.nil,_=>λu hu=>by cases hu
 |y::xs,u::us,.cons r t,f=>λu' hu=>by
  rw[all_cons,Bool.and_eq_true] at f
  rcases mem_cons.mp hu with rfl|hu
  ·rw[zUs r f.1];exact JT r rx f.1 fx
  ·exact Qo rx fx t f.2 u' hu
def inV(x:V)(xs:List V):Bool:=xs.any λy=>Dr y x
def Hr(K:PySem.W.Frag)(neg:Bool):R2:=λx y H Q=>∃p xs,y=.ref p/\(aV K H p xs\/ou K H p xs)/\BP x=true/\xs.all BP=true/\Q (.bl (if neg then !inV x xs else inV x xs)) H
theorem zPi:iB X (compareOp .In) (Hr X.K false):=by
 intro pins s σ H x y v u Q I rx ry h
 obtain⟨p,xs,rfl,hq,fx,fs,q⟩:=h
 cases ry
 rcases hq with hq|hq
 ·obtain⟨its,r,pl,hz⟩:=I.list hq
  refine SeqAt.in_listAt (qL x) pl.isList (λw hw=>Qo rx fx r fs w (by simpa using hw)) ⟨.bl _,H,I,rfl,?_⟩
  rw[show its.toArray.any (qL x)=its.any (qL x) by simp,Qn r fs]
  exact q
 ·obtain⟨its,r,pl,hz⟩:=I.tuple hq
  refine SeqAt.in_tupleAt (qL x) pl (λw hw=>Qo rx fx r fs w (by simpa using hw)) ⟨.bl _,H,I,rfl,?_⟩
  rw[show its.toArray.any (qL x)=its.any (qL x) by simp,Qn r fs]
  exact q
theorem zI0:iB X (compareOp .NotIn) (Hr X.K true):=by
 intro pins s σ H x y v u Q I rx ry h
 obtain⟨p,xs,rfl,hq,fx,fs,q⟩:=h
 cases ry
 rcases hq with hq|hq
 ·obtain⟨its,r,pl,hz⟩:=I.list hq
  refine SeqAt.notIn_listAt (qL x) pl.isList (λw hw=>Qo rx fx r fs w (by simpa using hw)) ⟨.bl _,H,I,rfl,?_⟩
  rw[show its.toArray.any (qL x)=its.any (qL x) by simp,Qn r fs]
  exact q
 ·obtain⟨its,r,pl,hz⟩:=I.tuple hq
  refine SeqAt.notIn_tupleAt (qL x) pl (λw hw=>Qo rx fx r fs w (by simpa using hw)) ⟨.bl _,H,I,rfl,?_⟩
  rw[show its.toArray.any (qL x)=its.any (qL x) by simp,Qn r fs]
  exact q
theorem zJw:qy X (.builtin "len") (λxs H Q=>∃p ys,xs=[.ref p]/\(aV X.K H p ys\/ou X.K H p ys)/\Q (.int ys.length) H):=by
 intro pins s σ H xs us Q I r h
 obtain⟨p,ys,rfl,hq,q⟩:=h
 obtain⟨u,rfl,rx⟩:=CV r
 cases rx
 have hn:=Hl
 rcases hq with hq|hq
 ·obtain⟨its,r',pl,hz⟩:=I.list hq
  have hlen:=r'.length
  exact Calls.call_len_list pl.isList (by simp only[size_toArray]<;>omega) ⟨.int ys.length,H,I.tok _,⟨s.toks+1,by rw[size_toArray,hlen]⟩,q⟩
 ·obtain⟨its,r',pl,hz⟩:=I.tuple hq
  have hlen:=r'.length
  exact len_tuple pl (by simp only[size_toArray]<;>omega) ⟨.int ys.length,H,I.tok _,⟨s.toks+1,by rw[size_toArray,hlen]⟩,q⟩
theorem zJv:qy X (.type "list") (λxs H Q=>∃p ys,xs=[.ref p]/\(aV X.K H p ys\/ou X.K H p ys)/\∀l,H l=none->Q (.ref l) (upd H l (.lst ys))):=by
 intro pins s σ H xs us Q I r h
 obtain⟨p,ys,rfl,hq,q⟩:=h
 obtain⟨u,rfl,rx⟩:=CV r
 cases rx
 have fin:∀(its:List Value),Vals ys its->ys.length<=sizeLine->∀(h':Heap)(c':Nat),(∀b o',s.heap.get? b=some o'->h'.get? b=some o') ->
   h'.get? s.heap.objs.size=some { cls:=.type "list",dict:=none,data:=.seq its.toArray c',slots:=#[] }->EP X pins σ Q (.ref s.heap.objs.size) { s with heap:=h' }:=λits r' hz h' c' kp e =>
  ⟨.ref s.heap.objs.size,_,I.laid (t':=s.toks) kp (Nat.le_refl _) (show aR X.prog X.w _ h' _ (.lst ys) from⟨hz,its,c',r',e⟩),rfl,q _ (I.hok.fresh (Nat.le_refl _))⟩
 rcases hq with hq|hq
 ·obtain⟨its,r',pl,hz⟩:=I.list hq
  have hlen:=r'.length
  obtain⟨o,ho,hc,n,hd⟩:=pl.isList
  exact call_list_seq p (.inl rfl) ho hc hd (λh' c' kp e=>fin its r' hz h' c' kp e) (by simp only[size_toArray]<;>omega)
 ·obtain⟨its,r',pl,hz⟩:=I.tuple hq
  have hlen:=r'.length
  obtain⟨o,ho,hc,n,hd⟩:=pl
  exact call_list_seq p (.inr rfl) ho hc hd (λh' c' kp e=>fin its r' hz h' c' kp e) (by simp only[size_toArray]<;>omega)
def WK(K:PySem.W.Frag)(T:String)(x:V)(H:Hp):Prop:=match x with
 |.str _=>T = "str"
 |.int _=>T = "int"
 |.ref p=>(T = "list" /\ ∃xs,aV K H p xs)\/(T = "tuple" /\ ∃o,K.lookup p=some o/\o.cls=.type "tuple" /\ o.dict=none) \/
   (T = "dict" /\ ((∃kvs,H p=some (.dK kvs))\/∃kvs,H p=some (.dT kvs)))\/(T = "set" /\ ∃S n,H p=some (.set S n))
 |_=>False
theorem zT7(I:Inv X pins σ H s)(r:RelV x v)(ty:WK X.K T x H) :
  s.TypeIs v T/\∀a,v=.ref a->∃ob,s.heap.get? a=some ob/\ob.dict=none:=by
 cases x with
 |str z =>
  obtain⟨t,rfl⟩:=r
  cases(show T = "str" from ty)
  exact⟨typeIs_str s z t,λ_ e=>nomatch e⟩
 |int i =>
  obtain⟨t,rfl⟩:=r
  cases(show T = "int" from ty)
  exact⟨typeIs_int s i t,λ_ e=>nomatch e⟩
 |ref p =>
  cases r
  rcases ty with⟨rfl,xs,hq⟩|⟨rfl,o,hk,hc,hd⟩|⟨rfl,hk⟩|⟨rfl,S,n,hk⟩
  ·obtain⟨its,_,pl,_⟩:=I.list hq
   refine⟨pl.isList.typeIs,λa e=>?_⟩
   cases e
   obtain⟨o,n,e,c,hd,_⟩:=pl
   exact⟨o,e,hd⟩
  ·refine⟨⟨o,I.kJ p o hk,hc⟩,λa e=>?_⟩
   cases e
   exact⟨o,I.kJ _ o hk,hd⟩
  ·have z:∃o,s.heap.get? p=some o/\o.ExactDict:=by
    rcases hk with⟨kvs,hk⟩|⟨kvs,hk⟩
    ·obtain⟨_,_,_,_,o,_,_,e,ex,_⟩:=I.hok p _ hk
     exact⟨o,e,ex⟩
    ·obtain⟨_,_,_,_,o,_,_,e,ex,_⟩:=I.hok p _ hk
     exact⟨o,e,ex⟩
   obtain⟨o,e,ex⟩:=z
   refine⟨⟨o,e,ex.1⟩,λa e2=>?_⟩
   cases e2
   exact⟨o,e,ex.2.1⟩
  ·obtain⟨o,_,_,_,e,ex,_⟩:=I.hok p _ hk
   refine⟨⟨o,e,ex.1⟩,λa e2=>?_⟩
   cases e2
   exact⟨o,e,ex.2.1⟩
 |_=>exact False.elim ty
def Ds(K:PySem.W.Frag)(T:String)(r:V->List V->Hp->VK->Prop)(to:TE):TE:=λσ H Q=>to σ H λx H1=>WK K T x H1/\r x [] H1 Q
def Nk(K:PySem.W.Frag)(T:String)(r:V->List V->Hp->VK->Prop)(to:TE)(t:TA):TE:=λσ H Q=>to σ H λx H1=>WK K T x H1/\t σ H1 λxs H2=>r x xs H2 Q
variable{o e:Expr}{es:List Expr}{to:TE}{t:TA}{name:Str}{apos cpos:Pos}{T id:String}{r:V->List V->Hp->VK->Prop}
theorem JV(pa:PlainAttrs T)(slot:Slot T name id)(hty:typeOf (.builtin id)=pure (.type "method_descriptor"))(hm:MtR X id r)(ho:PE X o to)(hbase:attributeBase o name X.env (eval o X.env)=eval o X.env:=by rfl)(hline:(apos.endLine==cpos.line)=true:=by rfl):PE X (.Call (.Attribute o name apos) [] [] cpos) (Ds X.K T r to):=by
 intro pins s σ H Q I h
 refine wpAny_Call_method0_late hbase hline (aJ (ho pins s σ H _ I h) λv s1 ⟨x,H1,I1,r1,ty,q1⟩=>?_)
 obtain⟨h1,h2⟩:=zT7 I1 r1 ty
 exact⟨T,id,pa,slot,hty,h1,h2,Calls.callWith_builtin rfl (PySem.evalArgs_none (hm pins s1 σ H1 x [] v [] Q I1 r1 .nil q1))⟩
theorem Hs(pa:PlainAttrs T)(slot:Slot T name id)(hty:typeOf (.builtin id)=pure (.type "method_descriptor"))(hm:MtR X id r)(ho:PE X o to)(ha:PA X (e::es) t)(hbase:attributeBase o name X.env (eval o X.env)=eval o X.env:=by rfl)(hfew:((backTo cpos (starEach (e::es) X.env)).all (λx=>!x.1)&&(backToKw cpos (keywordEach [] X.env)).all (λx=>x.1.isSome)
   && decide ((e::es).length+([]:List Keyword).length+(if([]:List Keyword).isEmpty then 0 else 1)<30))=true:=by rfl)(hline:(apos.endLine==cpos.line)=true:=by rfl)(hs:starEach (e::es) X.env=(false,eval e X.env)::starEach es X.env:=by rfl)(hplain:(backTo cpos (starEach es X.env)).any (·.1)=false:=by rfl) :
  PE X (.Call (.Attribute o name apos) (e::es) [] cpos) (Nk X.K T r to t):=by
 intro pins s σ H Q I h
 refine wpAny_Call_method_late hbase hfew hline rfl (aJ (ho pins s σ H _ I h) λv s1 ⟨x,H1,I1,r1,ty,q1⟩=>?_)
 obtain⟨h1,h2⟩:=zT7 I1 r1 ty
 refine⟨T,id,pa,slot,hty,h1,h2,?_⟩
 have hA:=ha cpos pins s1 σ H1 _ I1 q1
 rw[hs] at hA ⊢
 refine Calls.callWith_builtin (by show(false||(backTo cpos (starEach es X.env)).any (·.1))=false;rw[hplain]<;>rfl) (Calls.evalArgs_plain ?_)
 exact aJ hA λus s2 ⟨vs,H2,I2,r2,q2⟩=>hm pins s2 σ H2 x vs v us Q I2 r1 r2 q2
end
def Qp(X:Cx)(id:String)(r:V->List V->Hp->VK->Prop):Prop :=
 ∀(pins:List (Addr×Obj))(s:Shared)(σ:St)(H:Hp)(x:V)(xs:List V)(v:Value)(us:List Value)(Q:VK),Inv X pins σ H s->RelV x v->Vals xs us->r x xs H Q ->
  wpAny (model X.prog X.w) X.A (call (.builtin id) (v::us)) (EP X pins σ Q) X.xe s
theorem Vals.one:∀{x:V}{us:List Value},Vals [x] us->∃u,us=[u]/\RelV x u
 |_,_,.cons r .nil=>⟨_,rfl,r⟩
theorem Vals.two:∀{x y:V}{us:List Value},Vals [x,y] us->∃u v,us=[u,v]/\RelV x u/\RelV y v
 |_,_,_,.cons r (.cons q .nil)=>⟨_,_,rfl,r,q⟩
theorem Vals.zero:∀{us:List Value},Vals [] us->us=[]
 |_,.nil=>rfl
theorem Vals.eraseIdx:∀{xs:List V}{us:List Value}(i:Nat),Vals xs us->Vals (xs.eraseIdx i) (us.eraseIdx i)
 |_,_,_,.nil=>.nil
 |_,_,0,.cons _ t=>t
 |_,_,i+1,.cons r t=>.cons r (Vals.eraseIdx i t)
theorem Vals.reverse(h:Vals xs us):Vals xs.reverse us.reverse:=by
 induction h with
 |nil=>exact .nil
 |cons r t ih=>rw[List.reverse_cons,List.reverse_cons];exact Vals.append ih (.cons r .nil)
section
variable{X:Cx}{pins:List (Addr×Obj)}{σ:St}{H:Hp}{s:Shared}{l b:Addr}{xs ys zs:List V}
theorem Inv.JW{its its':List Value}{f:Array Value->Array Value}(I:Inv X pins σ H s)(hH:H l=some (.lst xs))(e:s.heap.get? l=some { cls:=.type "list",data:=.seq its.toArray n })(hf:f its.toArray=its'.toArray)(hv:Vals ys its')(hz:ys.length<=sizeLine) :
  Inv X pins σ (upd H l (.lst ys)) { s with heap:=s.heap.update l (Obj.mapSeq f),toks:=t' }:=by
 have q:=PySem.IsL.update e f
 rw[hf] at q
 refine I.write (x:=l) (e:=l) (by rw[hH];exact trivial) (.inl rfl) (λb' u hb hu=>(get?_update_other s.heap (Obj.mapSeq f) (Ne.symm hb)).trans hu) ⟨_,q⟩ ?_
 exact⟨hz,its',_,hv,q⟩
theorem Inv.WL(I:Inv X pins σ H s)(hv:Vals ys its)(hz:ys.length<=sizeLine) :
  Inv X pins σ (upd H s.heap.objs.size (.lst ys)) { s with heap:=s.heap.push { cls:=.type "list",data:=.seq its.toArray },toks:=t' } :=
 I.laid (λ_ _ q=>get?_push_of_some _ q) (Nat.le_refl _) ⟨hz,its,0,hv,get?_push_size _ rfl⟩
theorem Inv.fresh(I:Inv X pins σ H s):H s.heap.objs.size=none:=I.hok.fresh (Nat.le_refl _)
theorem Inv.tM(I:Inv X pins σ H s)(hH:H l=some (.lst xs)):xs.length<=sizeLine/\∃(its:List Value)(n:Nat),Vals xs its/\xs.length=its.length/\s.heap.get? l=some { cls:=.type "list",data:=.seq its.toArray n }:=by
 obtain⟨z,its,n,r,e⟩:=I.hok l _ hH
 exact⟨z,its,n,r,r.length,e⟩
theorem zS4(h:n<=sizeLine):Builtin.List.listTooLong n=false:=by
 unfold Builtin.List.listTooLong
 exact decide_eq_false (by omega)
end
section
variable{X:Cx}
def Um:V->List V->Hp->VK->Prop:=λx vs H Q=>∃l xs y,x=.ref l/\vs=[y]/\H l=some (.lst xs)/\xs.length<sizeLine/\Q .non (upd H l (.lst (xs++[y])))
theorem xM:Qp X "list.append" Um:=by
 intro pins s σ H x vs v us Q I rx rv h
 obtain⟨l,xs,y,rfl,rfl,hH,hz,q⟩:=h
 cases rx
 obtain⟨u,rfl,ru⟩:=rv.one
 obtain⟨z,its,n,r,hl,e⟩:=I.tM hH
 refine call_meets F.slot_list_append ⟨_,e,rfl⟩ F.entry_list_append (F.args_list_append_2 _ _) (PySem.list_append l its.toArray n u (by rw[size_toArray];omega)) ⟨e,?_⟩
 refine⟨.non,_,I.JW (its':=its++[u]) hH e (by simp) (r.append (.cons ru .nil)) ?_,rfl,q⟩
 rw[length_append,List.length_singleton]
 omega
def zO2:V->List V->Hp->VK->Prop:=λx vs H Q=>∃l b xs zs,x=.ref l/\vs=[.ref b]/\H l=some (.lst xs)/\H b=some (.lst zs)/\xs.length+zs.length<=sizeLine/\Q .non (upd H l (.lst (xs++zs)))
theorem zJb:Qp X "list.extend" zO2:=by
 intro pins s σ H x vs v us Q I rx rv h
 obtain⟨l,b,xs,zs,rfl,rfl,hH,hB,hz,q⟩:=h
 cases rx
 obtain⟨u,rfl,ru⟩:=rv.one
 cases ru
 obtain⟨z,its,n,r,hl,e⟩:=I.tM hH
 obtain⟨z2,its2,n2,r2,hl2,e2⟩:=I.tM hB
 have hsz:its.toArray.size+its2.toArray.size<=sizeLine:=by rw[size_toArray,size_toArray];omega
 have Qq:¬(!its.toArray.isEmpty&&Builtin.List.listTooLong (its.toArray.size+its2.toArray.size))=true:=by
  rw[zS4 hsz,Bool.and_false]
  exact Bool.false_ne_true
 refine call_meets F.slot_list_extend ⟨_,e,rfl⟩ F.entry_list_extend (F.args_list_extend_2 _ _)
  (AutoSeq1.list_extend_list_list_0 l its.toArray n b its2.toArray n2 Qq (by rw[size_toArray];omega) (by omega)) ⟨e,e2,?_⟩
 refine⟨.non,_,I.JW (its':=its++its2) hH e (by simp) (r.append r2) ?_,rfl,q⟩
 rw[length_append]
 omega
def WM:V->List V->Hp->VK->Prop:=λx vs H Q=>∃l xs,x=.ref l/\vs=[]/\H l=some (.lst xs)/\Q .non (upd H l (.lst []))
theorem zLy:Qp X "list.clear" WM:=by
 intro pins s σ H x vs v us Q I rx rv h
 obtain⟨l,xs,rfl,rfl,hH,q⟩:=h
 cases rx
 have hus:=rv.zero
 subst hus
 obtain⟨z,its,n,r,hl,e⟩:=I.tM hH
 refine call_meets F.slot_list_clear ⟨_,e,rfl⟩ F.entry_list_clear (F.args_list_clear_1 _) (AutoSeq1.list_clear_list_0 l its.toArray n (by rw[size_toArray];omega)) ⟨e,?_⟩
 exact⟨.non,_,I.JW (its':=[]) (ys:=[]) hH e rfl .nil (Nat.zero_le _),rfl,q⟩
def Qs:R2:=λx y H Q=>∃l b xs zs,x=.ref l/\y=.ref b/\H l=some (.lst xs)/\H b=some (.lst zs)/\xs.length+zs.length<=sizeLine/\∀p,H p=none->Q (.ref p) (upd H p (.lst (xs++zs)))
theorem zUk:iB X (binaryOp .Add) Qs:=by
 intro pins s σ H x y v u Q I rx ry h
 obtain⟨l,b,xs,zs,rfl,rfl,hH,hB,hz,q⟩:=h
 cases rx
 cases ry
 obtain⟨z,its,n,r,hl,e⟩:=I.tM hH
 obtain⟨z2,its2,n2,r2,hl2,e2⟩:=I.tM hB
 refine PySem.P.add_list e e2 ?_ (by rw[size_toArray,size_toArray];omega)
 have ea:its.toArray++its2.toArray=(its++its2).toArray:=by simp
 rw[ea]
 exact⟨.ref _,_,I.WL (t':=s.toks) (r.append r2) (by rw[length_append];omega),rfl,q _ I.fresh⟩
end
section
variable{prog:Program}{w:World}{A:Around}{E:Value->Shared->Prop}{s:Shared}
end
section
variable{X:Cx}
end
end L2
namespace Att
open PySem PySem.W PySem.Calls PyProof.Rows
theorem zE2:∀(ns:LI)(vs:List Value),WellAll P h vs (ns.map WData.int)->IntsAre vs ns:=by
 intro ns
 induction ns with
 |nil =>
  intro vs w
  rw[map_nil] at w
  cases w
  exact .nil
 |cons n ns ih =>
  intro vs w
  rw[map_cons] at w
  cases w with
  |cons a b =>
   cases a
   exact .cons _ _ (ih _ b)
theorem zOt{l:OpenLaw}(hn:l.most=some n)(hpre:l.row.toRowW.claim.pre args=true)(hwl:WellAll P h vals args) :
  ∃a vs ns,vals=[Value.ref a]/\args=[WData.list (ns.map WData.int)]/\h.get? a=some { cls:=.type "list",data:=.seq vs.toArray }/\IntsAre vs ns/\ns.length<=n:=by
 have hsh:WShape.hasAll [] args [.list .int]=true:=(pre_splitW hpre).1
 have hc:l.pre.holds [] { args:=args }=true:=(pre_splitW hpre).2
 obtain⟨d,r,rfl,h1,h2⟩:=hasAllW_cons hsh
 obtain rfl:=hasAllW_nil h2
 obtain⟨xs,rfl,h3⟩:=hasW_list h1
 obtain⟨ns,rfl⟩:=items_int h3
 have hlen:ns.length<=n:=by
  unfold OpenLaw.pre at hc
  have h4:(WTm.not (.lt (.lit (.int (n:Int))) (.len (.arg 0)))).holds [] { args:=[.list (ns.map .int)] }=true:=by
   have h4:=(holds_andW hc).1
   rw[hn] at h4
   exact h4
  have h5:=condW_of h4 (w_not (w_lt w_lit (w_len_list (w_arg rfl))))
  rw[length_map] at h5
  refine Nat.le_of_not_lt λq=>?_
  have q':(n:Int)<((ns.length:Nat):Int):=by omega
  first
   | (rw[decide_eq_true q'] at h5;exact absurd h5 (by decide))
   | (simp at h5;omega)
 cases hwl with
 |cons w1 w2 =>
  cases w2
  cases w1 with
  |list ho hall=>exact⟨_,_,ns,rfl,rfl,ho,zE2 ns _ hall,hlen⟩
theorem zO8(l:OpenLaw)(args:List WData):l.row.toRowW.claim.post args (.bool true) args=true :=
 postW_of (r:=l.row.toRowW) (X:=(true==true))
  (show WShape.has [] (.bool true) .bool=true by first|rfl|decide|simp[WShape.has,WShape.arms,WShape.armsAll])
  (show(WTm.eq .res (.lit (.bool true))).value [] { args:=args,res:=some (.bool true),after:=args }=some (.bool (true==true)) from w_eq_bool (w_res rfl) w_lit) rfl
theorem pR{l:OpenLaw}{YP:World->Heap->Prop}{d:DefRec}(hn:l.most=some n)(hdf:d.params.defaults=[])(call:∀(w:World) (s₀ s₁:Shared) (mg mb:Str->Option Value) (fa:Addr) (o:Obj) (pm cd doc:Value) (a:Addr) (vs:List Value) (ns:LI),
   Ground q loose [] XP w s₀ mg mb s₁.heap->YP w s₁.heap ->
   s₁.heap.get? fa=some o->o.data=.func (docDef d.name d.params d.body d.scope pm cd doc)->s₁.heap.CodeRec cd d.name->mg d.name=some (.ref fa) ->
   s₁.heap.get? a=some { cls:=.type "list",data:=.seq vs.toArray }->IntsAre vs ns->ns.length<=n->s₁.gens=#[] ->
   codeAny (model l.prog w) callerA (.call (.ref fa) ⟨[.ref a],[]⟩) (λr s'=>r=.ok (.ret (.bool true))/\OldK s₁.heap s'.heap/\s'.os=s₁.os/\AllBare s'.gens) s₁) :
  WalkO q loose XP YP l.row.toRowW d [] (λf vs=>PySem.call f vs):=by
 intro w s₀ s₁ mg mb G Y fa o pm cd doc dV kV ho hd hcd hD hmg hg args vals as hpre hlay hrd hwl hlo
 obtain rfl:dV=.none:=Dflts.none hD hdf
 obtain rfl:kV=.none:=Dflts.noKw hD
 obtain⟨a,vs,ns,rfl,rfl,hobj,hints,hlen⟩:=zOt hn hpre hwl
 refine enter_call (codeAny_mono (call w s₀ s₁ mg mb fa o pm cd doc a vs ns G Y ho (fd_plain hd) hcd hmg hobj hints hlen hg) λr s' hq=>?_)
 obtain⟨rfl,h2,h3,h4⟩:=hq
 exact⟨.inl ⟨.bool true,.bool true,[],rfl,λ_=>rfl,.bool true,zO8 l _,λ_=>⟨Pairwise.nil,λ_ hm=>(nomatch hm)⟩⟩,h2,h3,h4⟩
section
variable{prog:Program}{w:World}{A:Around}{E:Value->Shared->Prop}{s:Shared}{K:Frag}
end
end Att
namespace L2
open PySem PySem.Spec PyProof.Rows
theorem zIi:∀{vs:List Value}{ns:LI},IntsAre vs ns->Vals (ns.map V.int) vs
 |_,_,.nil=>.nil
 |_,_,.cons n t h=>.cons ⟨t,rfl⟩ (zIi h)
def Qt(s:Stmt)(j:Nat):Stmt:=match s with
 |.ClassDef _ _ _ body _ _ _ _ _ _ _=>body.getD j (.Pass ⟨0,0,0,0⟩)
 |_=>.Pass ⟨0,0,0,0⟩
def vL(s:Stmt):Arguments:=match s with
 |.FunctionDef _ a _ _ _ _ _ _ _ _=>a
 |_=>{ posonlyargs:=[],args:=[],vararg:=none,kwonlyargs:=[],kw_defaults:=[],kwarg:=none,defaults:=[] }
def xX(s:Stmt):List Stmt:=match s with
 |.FunctionDef _ _ b _ _ _ _ _ _ _=>b
 |_=>[]
def zK(s:Stmt):Scope:=match s with
 |.FunctionDef _ _ _ _ _ _ sc _ _ _=>sc
 |_=>{ kind:=.function,names:=[],isGenerator:=false,isCoroutine:=false }
abbrev aZ:tE:=λ_ _ _ _ _ _=>False
abbrev E0:XK:=λ_ _ _=>False
theorem Uo:JD aZ X E0:=λ_ _ _ _ _ _ _ h=>h.elim
structure bH(K:PySem.W.Frag)(x qual:Str)(st:Stmt)(f:Addr)(fd:FuncData):Prop where
 ex:∃(oc:Value)(od:Option Addr)(kV doc pm:Value)(an:Option Addr)(cdv ct:Value)(osl:Array (Option Value)),
  fd=fnOf x qual (vL st) (xX st) (zK st) .none kV doc pm an cdv ct/\K.lookup f=some ⟨oc,od,.func fd,osl⟩/\codeIn K cdv qual=true
 kp:keepIn K (.ref f)=true
section
variable{P:Program}{w:World}{K:PySem.W.Frag}{mg:Str->Option Value}{base:Heap}
theorem bH.ok{x qual:Str}{st:Stmt}{f:Addr}{fd:FuncData}{N ps:List Str}{k:Nat}{sp:Sp}(F:bH K x qual st f fd)(S:ao N ps (zK st))(len:∀vs H Q E,sp vs H Q E->vs.length=ps.length)(hbody:∀(cdv:Value) (A:Around) (outer:List Env) (s:Shared) (H:Hp) (vs:List V) (Q:VK) (E:XK),bJ k (A.deeper (envOfC qual (zK st) s.heap.objs.size f cdv))->sp vs H Q E ->
   ∃t,pI (lF aZ P w K mg base N qual (zK st) f cdv A outer s H E).yh (xX st) t/\t { nx:=λ_ H'=>Q .non H',rt:=Q } (start N vs) H):aB P w K mg base aZ (k+1) f fd ps sp:=by
 obtain⟨oc,od,kV,doc,pm,an,cdv,ct,osl,rfl,lk,hcd⟩:=F.ex
 refine yu lk hcd S len λA outer s H vs Q E hr hsp=>?_
 obtain⟨t,h,q⟩:=hbody cdv A outer s H vs Q E hr hsp
 exact⟨t,h.yh,q⟩
theorem bH.binds{x qual:Str}{st:Stmt}{f:Addr}{fd:FuncData}{ps:List Str}(F:bH K x qual st f fd)(h:∀(kV doc pm:Value) (an:Option Addr) (cdv ct:Value) (us:List Value),us.length=ps.length->bindArgs (fnOf x qual (vL st) (xX st) (zK st) .none kV doc pm an cdv ct) ⟨us,[]⟩=pure (ps.zip us)):Binds K fd ps []:=by
 obtain⟨oc,od,kV,doc,pm,an,cdv,ct,osl,rfl,lk,hcd⟩:=F.ex
 exact .all (h kV doc pm an cdv ct)
theorem oE{x qual:Str}{st:Stmt}{f:Addr}{oc:Value}{od an:Option Addr}{osl:Array (Option Value)}{kV doc pm cdv ct:Value}(l:K.lookup f=some ⟨oc,od,.func (fnOf x qual (vL st) (xX st) (zK st) .none kV doc pm an cdv ct),osl⟩)(c:codeIn K cdv qual=true)(k:keepIn K (.ref f)=true):bH K x qual st f (fnOf x qual (vL st) (xX st) (zK st) .none kV doc pm an cdv ct):=⟨⟨oc,od,kV,doc,pm,an,cdv,ct,osl,rfl,l,c⟩,k⟩
end
theorem Qu(hr:bJ k A):A.units+1<cLine:=Nat.lt_of_le_of_lt (Nat.add_le_add_left (by decide:1<=64) _) hr.units
theorem zIn(h:n<=1000):n<sizeLine:=Nat.lt_of_le_of_lt h (by decide)
section
variable{X:Cx}
theorem pv(i:Nat)(hN:X.N[i]?=some x:=by rfl)(hv:Pa X.env.scope x:=by first|exact Or.inl rfl|exact Or.inr (Or.inl rfl)|exact Or.inr (Or.inr rfl))(hd:(x==("__debug__":Str))=false:=by decide)(hcd:(x==("__classdict__":Str))=false:=by decide):PE X (.Name x pos) (dh i):=Jo hN hv hd hcd
end
theorem lH{A B:Prop}(h:B):if false=true then A else B:=by
 rw[if_neg Bool.false_ne_true]
 exact h
theorem lJ{A B:Prop}(h:A):if true=true then A else B:=by
 rw[if_pos rfl]
 exact h
def Same(H H':Hp):Prop:=∀b o,H b=some o->H' b=some o
theorem Same.refl(H:Hp):Same H H:=λ_ _ h=>h
theorem Same.trans(a:Same H H1)(b:Same H1 H2):Same H H2:=λc o h=>b c o (a c o h)
theorem Same.free(e:Same H H')(h:H' l=Option.none):H l=Option.none:=by
 cases q:H l with
 |none=>rfl
 |some o =>
  rw[e l o q] at h
  cases h
theorem Same.seq{K:PySem.W.Frag}{H H':Hp}{a:Addr}{xs:List V}(e:Same H H')(h:aV K H a xs):aV K H' a xs:=by
 rcases h with(h|⟨o,h⟩)|h
 ·exact .inl (.inl (e _ _ h))
 ·exact .inl (.inr ⟨o,e _ _ h⟩)
 ·exact .inr h
section
variable{κ:Type}[DecidableEq κ]
end
open PySem
section
variable{prog:Program}{w:World}{A:Around}{R:Result->Shared->Prop}{s:Shared}
theorem vW{α:Type}{t:Sem α}{Q Q':α->Shared->Prop}(h:wpAny M A t Q (λ_ _=>False) s)(hQ:∀a s,Q a s->Q' a s):wpAny M A t Q' (notedBy M A env E) s :=
 wpAny_mono h hQ λ_ _ z=>z.elim
theorem zJt(I:Nat->Shared->Prop)(turn:∀n s,I n s->wpAny (model prog w) A (pyNext it) (λr s₁=>match r with
   |none=>R (.ok .next) s₁
   |some v=>wpAny (model prog w) A (letOwnedTupleGo target it v) (λ_ s₂=>wpAny (model prog w) A (assign target env v) (λ_ s₃ =>
     wpAny (model prog w) A (forIn ifs true λc r=>if r=true then do let ok <-isTrue c env (eval c env);pure (ForInStep.yield ok) else pure (ForInStep.yield r)) (λok s₄ =>
      if ok=true then wpAny (model prog w) A (eval elt env) (λx s₅ =>
       wpAny (model prog w) A (call (.builtin "list.append") [acc,x]) (λ_ s₆=>∃m,m<n/\I m s₆) (λ_ _=>False) s₅) (λ_ _=>False) s₄
      else∃m,m<n/\I m s₄) (λ_ _=>False) s₃) (λ_ _=>False) s₂) (λ_ _=>False) s₁) (λ_ _=>False) s)(n:Nat)(h:I n s):codeAny (model prog w) A (.compLoop (.ListComp elt [⟨target,iter,ifs,0⟩] scope pos) 0 it acc env) R s:=by
 refine codeAny_loop rfl I (λn s hI=>?_) n h
 show wpAny _ A ((compTurn (.ListComp elt [⟨target,iter,ifs,0⟩] scope pos) 0 it acc env).onRaise (λx=>do noteFrame x env;theTreesLotGoes x)) _ _ s
 refine wpAny_noted ?_
 rw[compTurn_list]
 refine wpAny_bind (wpAny_standAt (wpAny_bind (vW (turn n s hI) λr s₁ h₁=>?_)))
 cases r with
 |none=>exact wpAny_pure h₁
 |some v =>
  refine wpAny_bind (vW h₁ λ_ s₂ h₂=>?_)
  refine wpAny_bind (vW h₂ λ_ s₃ h₃=>wpAny_bind (vW h₃ λok s₄ h₄=>?_))
  cases ok with
  |false=>exact wpAny_pure ⟨rfl,h₄⟩
  |true =>
   exact wpAny_bind (wpAny_bind (vW h₄ λx s₅ h₅=>wpAny_bind (vW h₅ λ_ s₆ h₆=>wpAny_pure (wpAny_pure ⟨rfl,h₆⟩))))
end
def uL(env:Env):List (Str×NameKind)->List (Str×Addr)->List (Str×Addr)
 |[],acc=>acc
 | (n,k)::r,acc=>if k==.free then uL env r ((n,(env.cells.lookup n).getD 0)::acc) else uL env r acc
theorem uT{scope:Scope}{env:Env}(h:∀y∈scope.names,y.2=.free->∃c,env.cells.lookup y.1=some c):closureFor scope env=pure (uL env scope.names []):=by
 unfold closureFor
 generalize scope.names=l at h
 have go:∀(l:List (Str×NameKind))(acc:List (Str×Addr)),(∀y∈l,y.2=.free->∃c,env.cells.lookup y.1=some c) ->
    (forIn l acc (λ(x:Str×NameKind) (r:List (Str×Addr))=>match x with
    | (name,kind)=>if(kind==NameKind.free)=true then(do let __do_lift <-cellOf env name;pure (ForInStep.yield ((name,__do_lift)::r))) else pure (ForInStep.yield r)):Sem (List (Str×Addr)))=pure (uL env l acc):=by
  intro l
  induction l with
  |nil=>intro acc _;rfl
  |cons x r ih =>
   intro acc hl
   obtain⟨n,k⟩:=x
   rw[List.forIn_cons]
   unfold uL
   by_cases hk:(k==NameKind.free)=true
   ·obtain⟨c,hc⟩:=hl (n,k) mem_cons_self (eq_of_beq hk)
    simp only[hk,if_true]
    have hc':env.cells.lookup n=some c:=hc
    unfold cellOf
    rw[hc']
    exact ih _ λy hy=>hl y (mem_cons_of_mem _ hy)
   ·simp only[hk,if_false]
    exact ih _ λy hy=>hl y (mem_cons_of_mem _ hy)
 have e:=go l [] h
 simp only[bind_pure]
 exact e
theorem WQ{env:Env}:∀(l:List (Str×NameKind))(acc:List (Str×Addr)),(∀x c,acc.lookup x=some c->(env.cells.lookup x).getD 0=c)->∀x c,(uL env l acc).lookup x=some c->(env.cells.lookup x).getD 0=c
 |[],_,h,x,c,e=>h x c e
 | (n,k)::r,acc,h,x,c,e=>by
  unfold uL at e
  by_cases hk:(k==NameKind.free)=true
  ·rw[if_pos hk] at e
   refine WQ r _ (λy d q=>?_) x c e
   cases hy:y==n with
   |true =>
    rw[lookup_cons,hy] at q
    cases q
    rw[eq_of_beq hy]
   |false =>
    rw[lookup_cons,hy] at q
    exact h y d q
  ·rw[if_neg hk] at e
   exact WQ r acc h x c e
theorem WR:∀(l:List (Str×NameKind))(acc:List (Str×Addr))(x:Str)(c:Addr),(uL env l acc).lookup x=some c->(acc.lookup x).isSome=true\/(x,NameKind.free)∈l
 |[],_,x,c,e=>.inl (by unfold uL at e;rw[e];rfl)
 | (n,k)::r,acc,x,c,e=>by
  unfold uL at e
  by_cases hk:(k==NameKind.free)=true
  ·rw[if_pos hk] at e
   rcases WR r _ x c e with h|h
   ·cases hy:x==n with
    |true =>
     have e1:=eq_of_beq hy
     have e2:=eq_of_beq hk
     subst e1;subst e2
     exact .inr mem_cons_self
    |false =>
     rw[lookup_cons,hy] at h
     exact .inl h
   ·exact .inr (mem_cons_of_mem _ h)
  ·rw[if_neg hk] at e
   rcases WR r _ x c e with h|h
   ·exact .inl h
   ·exact .inr (mem_cons_of_mem _ h)
theorem Uq:∀(l:List (Str×NameKind))(acc:List (Str×Addr))(x:Str),((acc.lookup x).isSome=true\/(x,NameKind.free)∈l)->((uL env l acc).lookup x).isSome=true
 |[],_,x,h=>by
  rcases h with h|h
  ·exact h
  ·cases h
 | (n,k)::r,acc,x,h=>by
  unfold uL
  by_cases hk:(k==NameKind.free)=true
  ·rw[if_pos hk]
   refine Uq r _ x ?_
   rcases h with h|h
   ·refine .inl ?_
    rw[lookup_cons]
    cases hy:x==n with
    |true=>rfl
    |false=>exact h
   ·rcases mem_cons.mp h with h|h
    ·cases h
     refine .inl ?_
     rw[lookup_cons,beq_self_eq_true]
     rfl
    ·exact .inr h
  ·rw[if_neg hk]
   refine Uq r _ x ?_
   rcases h with h|h
   ·exact .inl h
   ·rcases mem_cons.mp h with h|h
    ·cases h
     exact absurd rfl hk
    ·exact .inr h
theorem zD0{env:Env}:∀{names:List (Str×NameKind)}{x:Str},names.lookup x=some .free ->
  (names.map λ(n,k)=>if(k==NameKind.free&&env.scope.kind==.function&&env.kindOf n==some .cell) then(n,NameKind.cell) else(n,k)).lookup x=some .cell \/
  (names.map λ(n,k)=>if(k==NameKind.free&&env.scope.kind==.function&&env.kindOf n==some .cell) then(n,NameKind.cell) else(n,k)).lookup x=some .free
 |[],_,h=>by simp at h
 | (n,k)::r,x,h=>by
  have ih:=@zD0 env r x
  show List.lookup x ((if(k==NameKind.free&&env.scope.kind==.function&&env.kindOf n==some .cell)=true then(n,NameKind.cell) else(n,k))::_)=_\/List.lookup x ((if(k==NameKind.free&&env.scope.kind==.function&&env.kindOf n==some .cell)=true then(n,NameKind.cell) else(n,k))::_)=_
  cases hx:x==n with
  |true =>
   simp only[lookup_cons,hx] at h
   cases h
   by_cases hc:(NameKind.free==NameKind.free&&env.scope.kind==.function&&env.kindOf n==some .cell)=true
   ·rw[if_pos hc];left;simp only[lookup_cons,hx]
   ·rw[if_neg hc];right;simp only[lookup_cons,hx]
  |false =>
   simp only[lookup_cons,hx] at h
   by_cases hc:(k==NameKind.free&&env.scope.kind==.function&&env.kindOf n==some .cell)=true
   ·rw[if_pos hc];simp only[lookup_cons,hx];exact ih h
   ·rw[if_neg hc];simp only[lookup_cons,hx];exact ih h
theorem WT{env:Env}:∀{names:List (Str×NameKind)}{x:Str}{k:NameKind},(k=.cell\/k=.free) ->
  (names.map λ(n,k)=>if(k==NameKind.free&&env.scope.kind==.function&&env.kindOf n==some .cell) then(n,NameKind.cell) else(n,k)).lookup x=some k->(x,NameKind.free)∈names\/(x,NameKind.cell)∈names
 |[],_,_,_,h=>by simp at h
 | (n,k')::r,x,k,hk,h=>by
  have ih:=@WT env r x k hk
  have h':List.lookup x ((if(k'==NameKind.free&&env.scope.kind==.function&&env.kindOf n==some .cell)=true then(n,NameKind.cell) else(n,k'))::(r.map λ(n,k)=>if(k==NameKind.free&&env.scope.kind==.function&&env.kindOf n==some .cell) then(n,NameKind.cell) else(n,k)))=some k:=h
  cases hx:x==n with
  |true =>
   have e:=eq_of_beq hx
   subst e
   by_cases hd:(k'==NameKind.free&&env.scope.kind==.function&&env.kindOf x==some .cell)=true
   ·have e2:k'=.free:=by
     rw[Bool.and_eq_true,Bool.and_eq_true] at hd
     exact eq_of_beq hd.1.1
    subst e2
    exact .inl mem_cons_self
   ·rw[if_neg hd] at h'
    simp only[lookup_cons,hx] at h'
    cases h'
    rcases hk with e|e
    ·subst e;exact .inr mem_cons_self
    ·subst e;exact .inl mem_cons_self
  |false =>
   have g:(x,NameKind.free)∈r\/(x,NameKind.cell)∈r:=by
    refine ih ?_
    by_cases hd:(k'==NameKind.free&&env.scope.kind==.function&&env.kindOf n==some .cell)=true
    ·rw[if_pos hd] at h';simp only[lookup_cons,hx] at h';exact h'
    ·rw[if_neg hd] at h';simp only[lookup_cons,hx] at h';exact h'
   rcases g with g|g
   ·exact .inl (mem_cons_of_mem _ g)
   ·exact .inr (mem_cons_of_mem _ g)
theorem xY:∀(l:List (Str×NameKind))(n:Nat)(acc:List (Str×Addr)),cellsFrom n l acc=cellsFrom n l []++acc
 |[],_,_=>rfl
 | (x,k)::r,n,acc=>by
  unfold cellsFrom
  split
  ·rw[xY r (n+1) ((x,n)::acc),xY r (n+1) [(x,n)]];simp
  ·exact xY r n acc
theorem WW:∀(l:List (Str×NameKind))(n:Nat)(x:Str)(c:Addr),(x,c)∈cellsFrom n l []->(x,NameKind.cell)∈l
 |[],_,_,_,h=>by cases h
 | (y,k)::r,n,x,c,h=>by
  unfold cellsFrom at h
  split at h
  ·rename_i hk
   rw[xY] at h
   rcases mem_append.mp h with h|h
   ·exact mem_cons_of_mem _ (WW r _ x c h)
   ·have e:(x,c)=(y,n):=by simpa using h
    cases e
    rw[eq_of_beq hk]
    exact mem_cons_self
  ·exact mem_cons_of_mem _ (WW r _ x c h)
theorem zD6{s:Shared}{scope:Scope}{Q:Env->Shared->Prop}(hQ:∀h',h'.Ns s.heap.objs.size (λ_=>none)->(∀b o,s.heap.get? b=some o->h'.get? b=some o)->CellsOk h' (s.heap.objs.size+1) (cellsFrom (s.heap.objs.size+1) scope.names []) ->
   Q (newEnv scope s.heap.objs.size globals (cellsFrom (s.heap.objs.size+1) scope.names closure) qual none .none (some outer) builtinsNs) { s with heap:=h' }) :
  wpAny M A (newFunctionEnv scope globals closure [] qual none .none (some outer)) Q E s:=by
 simp only[newFunctionEnv,Option.isSome_some,if_true]
 refine wpAny_bind (wpAny_alloc ?_)
 refine wpAny_bind (wpAny_layCells _ (λname kind cells=>by cases hkc:kind==NameKind.cell<;>simp[hkc]) _ _ _ _ ?_)
 have ok:=cellsFrom_ok scope.names (s.heap.push { cls:=.type "dict",data:=.dict #[] }) (s.heap.objs.size+1) [] ⟨λ_ _ hm=>(nomatch hm),Pairwise.nil⟩ (by rw[size_push];exact Nat.le_refl _)
 rw[size_push] at ok
 rw[show({ s with heap:=s.heap.push { cls:=.type "dict",data:=.dict #[] } }:Shared).heap.objs.size=s.heap.objs.size+1 from size_push ..]
 refine wpAny_bind ?_
 rw[List.forIn_nil]
 exact wpAny_pure (wpAny_pure (hQ _ ((Heap.Ns.new s.heap (.type "dict")).keeps (pushCells_keeps _ _)) (λb o e=>pushCells_keeps _ _ b o (get?_push_of_some _ e)) ok))
theorem gn.track(x:gn P w H h)(hn:H a=none)(new:aR P w (upd H a o) h a o):gn P w (upd H a o) h:=λb u e=>by
 by_cases hb:b=a
 ·subst hb;rw[zW] at e;cases e;exact new
 ·rw[zP hb] at e
  exact(x b u e).stay (λc v _ q=>q) (λc q=>by rw[zP (zV q hn)];exact q) λc xs q=>by rw[zP (zV q hn)];exact q
theorem Un.track(u:Un fs ex H H' h h')(h0:h.get? a=none)(hn:H a=none):Un fs ex H (upd H' a o) h h' where
 keep:=u.keep
 slot:=u.slot
 free:=λb ob q n hx=>by
  rw[zP (λz=>by rw[z,h0] at q;cases q)];exact u.free b ob q n hx
 there:=u.there
 tups:=λb xs q=>by rw[zP (zV q hn)];exact u.tups b xs q
 lD:=λb ob xs q=>by rw[zP (zV q hn)];exact u.lD b ob xs q
 m7:=λb ps q=>by rw[zP (zV q hn)];exact u.m7 b ps q
def nIn(N:List Str)(own:List Str)(ix:List Nat):List Str:=own++ix.map λj=>N.getD j Str.empty
def m9(σ:St)(n:Nat)(ix:List Nat):St:=replicate n none++ix.map λj=>(σ[j]?).getD none
def cX(X:Cx)(scope:Scope)(own:List Str)(ix:List Nat)(C:Addr)(s:Shared)(H:Hp)(fp:List Addr):Cx :=
 { X with N:=nIn X.N own ix,s₀:=s,H₀:=H,env:=compEnvC scope (cellsFrom (C+1) scope.names (uL X.env scope.names [])) C X.env,outer:=X.stack,stack:=X.stack,ex:=fp,fn:=λx=>scope.names.lookup x==some .cell,pn:=[] }
def Ur(JX:Scope)(oN:List Str)(scope:Scope)(ix:List Nat):Bool :=
 scope.kind==.function &&
 (scope.names.all λy=>(y.2 != .cell||scope.names.lookup y.1==some .cell)&&(y.2 != .local||scope.names.lookup y.1==some .local)&&(y.2 != .free||(JX.names.lookup y.1==some .cell||JX.names.lookup y.1==some .free))) &&
 ix.all λj=>match oN[j]? with
  |some x=>scope.names.lookup x==some .free
  |none=>false
structure iV(JX:Scope)(oN:List Str)(scope:Scope)(ix:List Nat):Prop where
 kind:scope.kind=.function
 clk:∀y∈scope.names,y.2=.cell->scope.names.lookup y.1=some .cell
 nm:∀y∈scope.names,y.2=.local->scope.names.lookup y.1=some .local
 fr:∀y∈scope.names,y.2=.free->JX.names.lookup y.1=some .cell\/JX.names.lookup y.1=some .free
 ix:∀j∈ix,∃x,oN[j]?=some x/\scope.names.lookup x=some .free
theorem zJr(h:Ur JX oN scope ix=true):iV JX oN scope ix:=by
 unfold Ur at h
 rw[Bool.and_eq_true,Bool.and_eq_true,all_eq_true,all_eq_true] at h
 obtain⟨⟨h1,h2⟩,h3⟩:=h
 refine⟨eq_of_beq h1,λy hy e=>?_,λy hy e=>?_,λy hy e=>?_,λj hj=>?_⟩
 ·have q:=h2 y hy
  rw[Bool.and_eq_true,Bool.and_eq_true] at q
  rcases Bool.or_eq_true _ _▸q.1.1 with z|z
  ·exact absurd e (bne_iff_ne.mp z)
  ·exact eq_of_beq z
 ·have q:=h2 y hy
  rw[Bool.and_eq_true,Bool.and_eq_true] at q
  rcases Bool.or_eq_true _ _▸q.1.2 with z|z
  ·exact absurd e (bne_iff_ne.mp z)
  ·exact eq_of_beq z
 ·have q:=h2 y hy
  rw[Bool.and_eq_true,Bool.and_eq_true] at q
  rcases Bool.or_eq_true _ _▸q.2 with z|z
  ·exact absurd e (bne_iff_ne.mp z)
  ·rcases Bool.or_eq_true _ _▸z with z|z
   ·exact .inl (eq_of_beq z)
   ·exact .inr (eq_of_beq z)
 ·have q:=h3 j hj
  cases e:oN[j]? with
  |none=>rw[e] at q;cases q
  |some x=>rw[e] at q;exact⟨x,rfl,eq_of_beq q⟩
section
variable{X:Cx}{pins:List (Addr×Obj)}{σ:St}{H:Hp}{s:Shared}{scope:Scope}{own:List Str}{ix:List Nat}
theorem WX(I:Inv X pins σ H s)(sc:iV X.env.scope X.N scope ix):∀y∈scope.names,y.2=.free->∃c,X.env.cells.lookup y.1=some c:=λy hy e=>by
 rcases sc.fr y hy e with q|q
 ·exact I.ok.has y.1 (.inl q)
 ·exact I.ok.has y.1 (.inr q)
theorem zMd(I:Inv X pins σ H s)(sc:iV X.env.scope X.N scope ix)(e:(uL X.env scope.names []).lookup x=some c):X.env.cells.lookup x=some c:=by
 have h1:=WQ (env:=X.env) scope.names [] (λx c q=>by simp at q) x c e
 rcases WR (env:=X.env) scope.names [] x c e with q|q
 ·simp at q
 ·obtain⟨c',hc⟩:=WX I sc (x,.free) q rfl
  have hc':X.env.cells.lookup x=some c':=hc
  rw[hc'] at h1
  rw[hc']
  exact congrArg some h1
theorem zTt(I:Inv X pins σ H s)(sc:iV X.env.scope X.N scope ix)(hx:(x,NameKind.free)∈scope.names)(e:X.env.cells.lookup x=some c):(uL X.env scope.names []).lookup x=some c:=by
 have h1:=Uq (env:=X.env) scope.names [] x (.inr hx)
 obtain⟨c',hc⟩:=Option.isSome_iff_exists.mp h1
 rw[hc]
 have:=zMd I sc hc
 rw[e] at this
 exact this.symm
theorem JZ(I:Inv X pins σ H s)(sc:iV X.env.scope X.N scope ix)(e:(cellsFrom (C+1) scope.names (uL X.env scope.names [])).lookup x=some c):(x,c)∈cellsFrom (C+1) scope.names []\/X.env.cells.lookup x=some c:=by
 rw[xY,lookup_append] at e
 cases h:(cellsFrom (C+1) scope.names []).lookup x with
 |some d=>rw[h] at e;cases e;exact .inl (PySem.mem_of_lookup h)
 |none=>rw[h] at e;exact .inr (zMd I sc e)
theorem zf(h:(m9 σ n ix)[i]?=some (some v)):∃j,ix[i-n]?=some j/\σ[j]?=some (some v)/\n<=i:=by
 unfold m9 at h
 by_cases hi:i<n
 ·rw[getElem?_append_left (by simpa using hi),getElem?_replicate] at h
  rw[if_pos hi] at h
  cases h
 ·rw[getElem?_append_right (by simpa using hi),List.length_replicate,getElem?_map] at h
  cases e:ix[i-n]? with
  |none=>rw[e] at h;cases h
  |some j =>
   rw[e] at h
   have h':(σ[j]?).getD none=some v:=Option.some.inj h
   refine⟨j,rfl,?_,by omega⟩
   cases e2:σ[j]? with
   |none=>rw[e2] at h';cases h'
   |some o=>rw[e2] at h';exact congrArg some h'
theorem Inv.comp{h₁:Heap}(I:Inv X pins σ H s)(sc:iV X.env.scope X.N scope ix)(fo:∀b∈fp,kW X pins H b)(Qv:∀b∈fp,b<s.heap.objs.size)(hC:s.heap.objs.size<=C)(hns:h₁.Ns C m₀)(hk:∀b o,s.heap.get? b=some o->h₁.get? b=some o)(co:CellsOk h₁ (C+1) (cellsFrom (C+1) scope.names [])):Inv (cX X scope own ix C s H fp) [] (m9 σ own.length ix) H { s with heap:=h₁,toks:=t' }:=by
 have lt:∀{b:Addr},b<s.heap.objs.size->b≠C:=λ{b} hb=>Nat.ne_of_lt (Nat.lt_of_lt_of_le hb hC)
 have Qw:∀{x:Str}{c:Addr},X.env.cells.lookup x=some c->c<C+1:=λ{x c} e=>by
  obtain⟨v,q⟩:=I.cell x c e
  exact Nat.lt_succ_of_lt (Nat.lt_of_lt_of_le q.lt hC)
 have cellK:∀{x:Str}{c:Addr},X.env.cells.lookup x=some c->∀v,s.heap.IsCell c v->h₁.IsCell c v:=λ{x c} _ v ⟨o,ho,hd⟩=>⟨o,hk _ _ ho,hd⟩
 refine⟨⟨I.ok.mod,sc.kind,I.ok.glob,I.ok.blt,hC,λx y c h1 h2=>?_,λx hx=>?_,λx c h e=>by
  have h':scope.names.lookup x=some .cell:=eq_of_beq h
  have e':(cellsFrom (C+1) scope.names (uL X.env scope.names [])).lookup x=some c:=e
  rw[xY,lookup_append] at e'
  obtain⟨d,hd⟩:=Option.isSome_iff_exists.mp (cellsFrom_some scope.names (C+1) [] (.inl h'))
  rw[hd] at e'
  cases e'
  exact Nat.le_trans hC (Nat.le_of_succ_le (co.empty _ _ (PySem.mem_of_lookup hd)).2),I.ok.hd,I.ok.frames,.inl rfl,λb hb=>?_,I.bs,Nat.le_trans I.ok.Cv I.sz,λb o e hb=>?_,λb hb z=>?_,I.stack,I.rQ⟩,
  rfl,I.bare,Un.kept hk,⟨m₀,hns,λi x v h1 h2 h3=>?_⟩,λx c h=>?_,I.hok.fresh hC,λx c h=>?_,λp hp=>?_,I.hok.kept hk,?_⟩
 ·rcases JZ I sc h1 with q1|q1
  ·rcases JZ I sc h2 with q2|q2
   ·exact name_of_addr co.apart q1 q2
   ·exact absurd (Nat.lt_of_lt_of_le (Qw q2) (co.empty _ _ q1).2) (Nat.lt_irrefl _)
  ·rcases JZ I sc h2 with q2|q2
   ·exact absurd (Nat.lt_of_lt_of_le (Qw q1) (co.empty _ _ q2).2) (Nat.lt_irrefl _)
   ·exact I.ok.inj x y c q1 q2
 ·have hm:(x,NameKind.free)∈scope.names\/(x,NameKind.cell)∈scope.names:=by
   rcases hx with hx|hx
   ·exact WT (env:=X.env) (.inl rfl) hx
   ·exact WT (env:=X.env) (.inr rfl) hx
  refine Option.isSome_iff_exists.mp ?_
  show((cellsFrom (C+1) scope.names (uL X.env scope.names [])).lookup x).isSome=true
  rcases hm with hm|hm
  ·exact cellsFrom_some _ _ _ (.inr (Uq (env:=X.env) scope.names [] x (.inr hm)))
  ·exact cellsFrom_some _ _ _ (.inl (sc.clk _ hm rfl))
 ·obtain⟨f0,f1,f2,f3,f4,f5⟩:=fo b hb
  refine⟨lt (Qv b hb),λx c h=>?_⟩
  rcases JZ I sc h with q|q
  ·exactλz=>absurd (Nat.lt_of_lt_of_le (Qv b hb) (Nat.le_trans hC (Nat.le_of_succ_le (z▸(co.empty _ _ q).2)))) (Nat.lt_irrefl _)
  ·exact f4 x c q
 ·obtain⟨f0,f1,f2,f3,f4,f5⟩:=fo b hb
  rcases f3 with z|z
  ·exact I.ok.xu b o e z
  ·exact absurd (Nat.lt_of_lt_of_le (lt_size e) (Nat.le_trans I.ok.Cv z)) (Nat.lt_irrefl _)
 ·obtain⟨f0,f1,f2,f3,f4,f5⟩:=fo b hb
  rcases mem_cons.mp (I.oh b z) with z|z
  ·exact f1 z
  ·exact f2 z
 ·obtain⟨j,hj,hv,hn⟩:=zf h2
  obtain⟨y,hy,hf⟩:=sc.ix j (mem_of_getElem? hj)
  have e:y=x:=by
   have h1':(nIn X.N own ix)[i]?=some x:=h1
   unfold nIn at h1'
   rw[getElem?_append_right hn,getElem?_map,hj] at h1'
   have Qx:X.N.getD j Str.empty=x:=Option.some.inj h1'
   rw[getD_eq_getElem?_getD,hy] at Qx
   exact Qx
  subst e
  have hm:(y,NameKind.free)∈scope.names:=PySem.mem_of_lookup hf
  have vis:Pa X.env.scope y:=by
   rcases sc.fr _ hm rfl with q|q
   ·exact .inr (.inl q)
   ·exact .inr (.inr q)
  obtain⟨m,_,hl⟩:=I.loc
  obtain⟨u,r,l⟩:=hl j y v hy hv vis
  refine⟨u,r,?_⟩
  rcases l with⟨hk',_⟩|⟨_,c,hc,hcell⟩
  ·have hk'':X.env.scope.names.lookup y=some .local:=hk'
   rcases sc.fr _ hm rfl with q|q
   ·have q':X.env.scope.names.lookup y=some .cell:=q
    rw[hk''] at q';cases q'
   ·have q':X.env.scope.names.lookup y=some .free:=q
    rw[hk''] at q';cases q'
  ·refine .inr ⟨zD0 (env:=X.env) hf,c,?_,cellK hc _ hcell⟩
   show(cellsFrom (C+1) scope.names (uL X.env scope.names [])).lookup y=some c
   rw[xY,lookup_append,zTt I sc hm hc]
   cases e:(cellsFrom (C+1) scope.names []).lookup y with
   |none=>rfl
   |some d =>
    have q:=sc.clk _ (WW _ _ _ _ (PySem.mem_of_lookup e)) rfl
    have q':scope.names.lookup y=some .cell:=q
    rw[hf] at q';cases q'
 ·rcases JZ I sc h with q|q
  ·exact⟨_,(co.empty _ _ q).1⟩
  ·obtain⟨v,z⟩:=I.cell x c q
   exact⟨v,cellK q v z⟩
 ·rcases JZ I sc h with q|q
  ·exact I.hok.fresh (Nat.le_trans hC (Nat.le_of_succ_le (co.empty _ _ q).2))
  ·exact I.gq x c q
 ·exact absurd (show p∈([]:List (Addr×Obj)) from hp) (by simp)
 ·show(m9 σ own.length ix).length=(nIn X.N own ix).length
  unfold m9 nIn
  simp
end
def zj(X:Cx)(ifs:List Expr)(t:TT):Prop :=
 ∀(pins:List (Addr×Obj))(s:Shared)(σ:St)(H:Hp)(Q:Bool->Hp->Prop),Inv X pins σ H s->t σ H Q ->
  wpAny (model X.prog X.w) X.A (forIn ifs true λc r=>if r=true then do let ok <-isTrue c X.env (eval c X.env);pure (ForInStep.yield ok) else pure (ForInStep.yield r)) (TP X pins σ Q) X.xe s
def J0:TT:=λ_ H Q=>Q true H
theorem vO:zj X [] J0:=λ_ _ _ H _ I h=>wpAny_tests_nil ⟨H,I,h⟩
theorem BR(h:PT X c t):zj X [c] t:=λpins s σ H Q I q=>wpAny_tests_one (h pins s σ H Q I q)
def zm(n:Nat)(ix:List Nat)(g:TG)(tc:TT)(te:TE)(σ:St)(Q:VK)(J:It)(H1:Hp):Prop :=
 ∃W:Nat->Nat->List V->St->Hp->Prop,(∃m,W 0 m [] (m9 σ n ix) H1)/\∀i m ys σ2 H2,W i m ys σ2 H2 ->
  (J.stop i H2/\ys.length<=sizeLine/\∀p,H2 p=none->Q (.ref p) (upd H2 p (.lst ys))) \/
  (J.go i H2/\ys.length<sizeLine/\∃N:List V->St->Hp->Prop,(∀ys' σ' H',N ys' σ' H'->∃m',m'<m/\W (i+1) m' ys' σ' H') /\
   ∀x H3,J.M_ i H2 x H3->g x σ2 H3 λσ4 H4=>tc σ4 H4 λb H5=>if b=true then te σ4 H5 λy H6=>N (ys++[y]) σ4 H6 else N ys σ4 H5)
def zp(n:Nat)(ix:List Nat)(wi:TI)(g:TG)(tc:TT)(te:TE):TE:=λσ H Q=>wi σ H (zm n ix g tc te σ Q)
def WY(X:Cx)(pins:List (Addr×Obj))(σ:St)(Q:VK)(acc:Value)(C:Addr)(s':Shared):Prop :=
 ∃p H',acc=.ref p/\Inv X pins σ H' s'/\(∃m,s'.heap.Ns C m)/\kW X pins H' C/\Q (.ref p) H'
theorem W0{X:Cx}{α:Type}{t:Sem α}{Q Q':α->Shared->Prop}(hx:X.xe=λ_ _=>False)(h:wpAny M A t Q X.xe s)(hQ:∀a s,Q a s->Q' a s):wpAny M A t Q' E s :=
 wpAny_mono h hQ λe s' z=>by rw[hx] at z;exact z.elim
section
variable{X:Cx}{elt tg iter:Expr}{ifs:List Expr}{scope:Scope}{pos:Pos}{own:List Str}{ix:List Nat}{wi:TI}{g:TG}{tc:TT}{te:TE}
theorem zGp{RR:Value->Addr->Result->Shared->Prop}(hx:X.xe=λ_ _=>False)(hc:X.calm=true)(sc:iV X.env.scope X.N scope ix)(I:Inv X pins σ H s)(T:Turn X.prog X.w X.K tg J fp it tn)(st:tn 0 s.heap)(fo:∀b∈fp,kW X pins H b)(hg:∀C s H fp,PG (cX X scope own ix C s H fp) tg g)(hif:∀C s H fp,zj (cX X scope own ix C s H fp) ifs tc)(he:∀C s H fp,PE (cX X scope own ix C s H fp) elt te)(rd:zm own.length ix g tc te σ Q J H)(hRR:∀acc C s',WY X pins σ Q acc C s'->RR acc C (.ok .next) s') :
  wpAny (model X.prog X.w) X.A (newList []) (λacc s₃=>wpAny (model X.prog X.w) X.A (newFunctionEnv scope X.env.globals (uL X.env scope.names []) [] X.env.qual none .none (some X.env)) (λcenv s₄ =>
   codeAny (model X.prog X.w) X.A (.compStart (.ListComp elt [⟨tg,iter,ifs,0⟩] scope pos) 0 (.ref it) acc { cenv with scope:=relabel scope X.env }) (RR acc cenv.locals) s₄) E s₃) E s:=by
 refine wpAny_newObj_type (zD6 (λh₁ hns₁ hsb₁ co=>?_))
 dsimp only at hns₁ hsb₁ co ⊢
 generalize hD':s.heap.objs.size=D at hns₁ hsb₁ co ⊢
 generalize hH2:s.heap.push { cls:=.type "list",dict:=none,data:=.seq ([]:List Value).toArray }=G at hns₁ hsb₁ co ⊢
 generalize hC':G.objs.size=C at hns₁ hsb₁ co ⊢
 have hC:C=D+1:=by rw[<-hC',<-hH2,size_push,hD']
 have hDC:D≠C:=by rw[hC];exact Nat.ne_of_lt (Nat.lt_succ_self _)
 have hle:s.heap.objs.size<=C:=by rw[hC,hD'];exact Nat.le_succ _
 have old:∀b o,s.heap.get? b=some o->h₁.get? b=some o:=λb o e=>by
  exact hsb₁ b o (hH2▸get?_push_of_some _ e)
 have oD:h₁.get? D=some { cls:=.type "list",data:=.seq ([]:List Value).toArray 0 }:=by
  refine hsb₁ D _ ?_
  rw[<-hH2,<-hD']
  exact get?_push_size _ rfl
 have Qv:∀b∈fp,b<s.heap.objs.size:=λb hb=>by
  obtain⟨o,e,_⟩:=T.obj 0 _ st b hb
  exact lt_size e
 have nDf:∀b∈fp,b≠D:=λb hb=>by rw[<-hD'];exact Nat.ne_of_lt (Qv b hb)
 have sD:s.heap.get? D=none:=by
  cases e:s.heap.get? D with
  |none=>rfl
  |some o=>exact absurd (lt_size e) (by rw[hD'];exact Nat.lt_irrefl _)
 have hDn:H D=none:=I.hok.fresh (by rw[hD'];exact Nat.le_refl _)
 have I0:Inv (cX X scope own ix C s H fp) [] (m9 σ own.length ix) H { s with heap:=h₁ }:=I.comp sc fo Qv hle hns₁ old co
 have st0:tn 0 h₁:=T.keep 0 _ _ st λb _ o e=>old b o e
 have hx':(cX X scope own ix C s H fp).xe=λ_ _=>False:=hx
 have Qy:D≠(cX X scope own ix C s H fp).env.locals:=hDC
 have Dex:D∈(cX X scope own ix C s H fp).ex\/(cX X scope own ix C s H fp).s₀.heap.objs.size<=D:=.inr (by show s.heap.objs.size<=D;rw[hD'];exact Nat.le_refl _)
 have Dfs:D∉(cX X scope own ix C s H fp).fs:=I0.Jl (a:=D) |> λk=>λz=>by
  have z':D∈frs X.stack:=z
  rcases mem_cons.mp (I.oh D z') with q|q
  ·exact absurd (q▸I.lt) (by rw[hD'];exact Nat.lt_irrefl _)
  ·exact I.Jl (by rw[hD'];exact Nat.le_refl _) q
 have Qz:∀x c,(cX X scope own ix C s H fp).env.cells.lookup x=some c->c≠D:=λx c e z=>by
  rcases JZ I sc e with q|q
  ·have w1:=(co.empty _ _ q).2
   rw[z,hC] at w1
   omega
  ·obtain⟨v,q⟩:=I.cell x c q
   exact absurd (Nat.lt_of_lt_of_le q.lt (by rw[z,hD'];exact Nat.le_refl _)) (Nat.lt_irrefl _)
 have W2:∀{H':Hp}{pl:List (Addr×Obj)},(∀b∈fp,H' b=none)->(∀p∈pl,p.1=D)->∀b∈fp,kW (cX X scope own ix C s H fp) pl H' b:=λ{H' pl} hn hp b hb=>by
  obtain⟨f0,f1,f2,f3,f4,f5⟩:=fo b hb
  refine⟨hn b hb,(I0.ok.TY b hb).1,I0.ok.yc b hb,.inl hb,(I0.ok.TY b hb).2,λp hp' z=>?_⟩
  rcases mem_append.mp hp' with q|q
  ·exact absurd (show p∈([]:List (Addr×Obj)) from q) (by simp)
  ·exact nDf b hb (by rw[<-z];exact hp p q)
 obtain⟨W,⟨m0,w0⟩,step⟩:=rd
 have loop:codeAny (model X.prog X.w) X.A (.compLoop (.ListComp elt [⟨tg,iter,ifs,0⟩] scope pos) 0 (.ref it) (.ref D) (cX X scope own ix C s H fp).env) (RR (.ref D) C) { s with heap:=h₁ }:=by
  refine zJt (λn s'=>∃i ys σ' H' its k,Inv (cX X scope own ix C s H fp) [] σ' H' s'/\tn i s'.heap/\(∀b∈fp,H' b=none)/\H' D=none/\s'.heap.get? D=some { cls:=.type "list",data:=.seq (toArray its) k }/\Vals ys its/\W i n ys σ' H') ?_ m0
   ⟨0,[],_,H,[],0,I0,st0,λb hb=>(fo b hb).1,hDn,oD,.nil,w0⟩
  rintro n s1 ⟨i,ys,σ1,H1,its,k,I1,tn1,fr1,D1,o1,Us,w1⟩
  have J1:Inv (cX X scope own ix C s H fp) [(D,{ cls:=.type "list",data:=.seq (toArray its) k })] σ1 H1 s1:=I1.ju λp hp=>by
   have e:p=(D,{ cls:=.type "list",data:=.seq (toArray its) k }):=by simpa using hp
   subst e
   exact⟨o1,D1,Qy,Dfs,λv z=>by cases z⟩
  have single:∀p∈[((D,{ cls:=.type "list",data:=.seq (toArray its) k }):Addr×Obj)],p.1=D:=λp hp=>by
   have e:p=(D,{ cls:=.type "list",data:=.seq (toArray its) k }):=by simpa using hp
   rw[e]
  rcases step i n ys σ1 H1 w1 with⟨stop,hz,qn⟩|⟨go,hz,N,hN,stp⟩
  ·refine aJ (T.done (cX X scope own ix C s H fp) rfl rfl rfl hc i _ s1 σ1 H1 _ J1 (W2 fr1 single) tn1 stop) λr s2 ⟨hr,I2⟩=>?_
   subst hr
   obtain⟨e2,_⟩:=I2.pin (D,{ cls:=.type "list",data:=.seq (toArray its) k }) (mem_append_right _ (by simp))
   obtain⟨m2,W3,_⟩:=I2.loc
   refine hRR _ _ _ ⟨D,upd H1 D (.lst ys),rfl,?_,⟨m2,W3⟩,?_,qn D D1⟩
   ·refine I.call' (ch:=fp) I2.os (Un.track I2.base sD hDn) (I2.hok.track D1 ⟨hz,its,k,Us,e2⟩) I2.bare λb hb=>?_
    obtain⟨f0,f1,f2,f3,f4,f5⟩:=fo b hb
    exact⟨f3,f1,f4,f5⟩
   ·refine I.oA hle ?_
    rw[zP hDC.symm]
    exact I2.free
  ·refine aJ (T.item (cX X scope own ix C s H fp) rfl rfl rfl hc i _ s1 σ1 H1 _ J1 (W2 fr1 single) tn1 go) λr s2 ⟨u,hr,h2⟩=>?_
   subst hr
   refine aJ h2 λ_ s3 ⟨x,H3,I3,rx,y3,W4,T9⟩=>?_
   have I3':=I3.pinned (W2 T9 single) (T.obj _ _ W4)
   refine W0 hx' (hg C s H fp _ s3 σ1 H3 x u _ I3' rx (stp x H3 y3)) λ_ s4 ⟨σ4,H4,I4,q4⟩=>?_
   refine W0 hx' (hif C s H fp _ s4 σ4 H4 _ I4 q4) λb s5 ⟨H5,I5,q5⟩=>?_
   have back:∀{σ7:St}{H7:Hp}{s7:Shared},Inv (cX X scope own ix C s H fp) ([(D,{ cls:=.type "list",data:=.seq (toArray its) k })]++Nf fp s3.heap) σ7 H7 s7 ->
     tn (i+1) s7.heap/\(∀b∈fp,H7 b=none)/\H7 D=none/\s7.heap.get? D=some { cls:=.type "list",data:=.seq (toArray its) k }:=λ{σ7 H7 s7} I7=>by
    have QB:=I7.pin (D,{ cls:=.type "list",data:=.seq (toArray its) k }) (mem_append_right _ (mem_append_left _ (by simp)))
    refine⟨T.keep _ _ _ W4 λb hb o e=>(I7.pin (b,o) (mem_append_right _ (mem_append_right _ (P_ hb e)))).1,λb hb=>?_,QB.2.1,QB.1⟩
    obtain⟨o,e,d⟩:=T.obj _ _ W4 b hb
    exact(I7.pin (b,o) (mem_append_right _ (mem_append_right _ (P_ hb e)))).2.1
   cases b with
   |false =>
    obtain⟨m',hm,w'⟩:=hN _ _ _ (show N ys σ4 H5 from q5)
    obtain⟨b1,b2,b3,b4⟩:=back I5
    exact⟨m',hm,i+1,ys,σ4,H5,its,k,I5.ju (λp hp=>absurd hp (by simp)),b1,b2,b3,b4,Us,w'⟩
   |true =>
    rw[if_pos rfl]
    refine W0 hx' (he C s H fp _ s5 σ4 H5 _ I5 q5) λv s6 ⟨y,H6,I6,ry,q6⟩=>?_
    obtain⟨m',hm,w'⟩:=hN _ _ _ q6
    obtain⟨b1,b2,b3,b4⟩:=back I6
    have zl:its.length=ys.length:=Us.length.symm
    refine call_meets F.slot_list_append ⟨_,b4,rfl⟩ F.entry_list_append (F.args_list_append_2 _ _) (PySem.list_append D its.toArray k v (by rw[size_toArray];omega)) ⟨b4,?_⟩
    have q:=PySem.IsL.update b4 (λxs=>xs.push v)
    have keep:∀b o,b≠D->s6.heap.get? b=some o->(s6.heap.update D (Obj.mapSeq λxs=>xs.push v)).get? b=some o:=λb o hb e=>(get?_update_other s6.heap _ (Ne.symm hb)).trans e
    refine⟨m',hm,i+1,ys++[y],σ4,H6,its++[v],(if(its.toArray.push v).size==its.toArray.size then k else k+1),?_,T.keep _ _ _ b1 (λb hb o e=>keep b o (nDf b hb) e),b2,b3,?_,Us.append (.cons ry .nil),w'⟩
    ·exact(I6.ju (G7:=[]) λp hp=>absurd hp (by simp)).turned (t':=s6.toks) keep b3 Qy Dex Qz λp hp=>absurd (show p∈([]:List (Addr×Obj)) from hp) (by simp)
    ·rw[show(its++[v]).toArray=its.toArray.push v by simp]
     exact q
 exact codeAny_compStart_list loop (T.self X.A 0 _ _ _ st0 loop)
theorem vP(hx:X.xe=λ_ _=>False)(hc:X.calm=true)(ho:Ur X.env.scope X.N scope ix=true)(hi:PI X tg iter wi)(hg:∀C s H fp,PG (cX X scope own ix C s H fp) tg g)(hif:∀C s H fp,zj (cX X scope own ix C s H fp) ifs tc)(he:∀C s H fp,PE (cX X scope own ix C s H fp) elt te)(hs:∀x,foldedSetIterable iter X.env x=pure x:=by intro _;rfl):PE X (.ListComp elt [⟨tg,iter,ifs,0⟩] scope pos) (zp own.length ix wi g tc te):=by
 intro pins s σ H Q I h
 have sc:=zJr ho
 rw[eval_ListComp]
 refine wpAny_comprehension_free (use:=none) rfl hs (uT (WX I sc)) sc.kind sc.nm (aJ (hi pins s σ H _ I h) λv s1 h1=>aJ h1 λitv s2 h2=>?_)
 obtain⟨it,fp,tn,J,H2,e,I2,T,st2,f2,rd⟩:=h2
 subst e
 refine zGp (RR:=λacc C=>compPost (model X.prog X.w) X.A X.xe none (EP X pins σ Q) acc C) hx hc sc I2 T st2 f2 hg hif he rd ?_
 rintro acc C s' ⟨p,H',rfl,I',⟨m,hns⟩,fC,q⟩
 obtain⟨f0,f1,f2,f3,f4,f5⟩:=fC
 exact⟨m,hns,λh' hs'=>⟨.ref p,H',I'.turned (t':=s'.toks) (λb o hb e=>(hs'.2 b hb).trans e) f0 f1 f3 f4 f5,rfl,q⟩⟩
theorem BW{spos:Pos}(hN:X.N.Nodup)(hi':X.N[i]?=some x)(W5:X.env.scope.names.lookup x=some .local)(hx:X.xe=λ_ _=>False)(hc:X.calm=true)(ho:Ur X.env.scope X.N scope ix=true)(hi:PI X tg iter wi)(hg:∀C s H fp,PG (cX X scope own ix C s H fp) tg g)(hif:∀C s H fp,zj (cX X scope own ix C s H fp) ifs tc)(he:∀C s H fp,PE (cX X scope own ix C s H fp) elt te)(hsw:swapsWith (.ListComp elt [⟨tg,iter,ifs,0⟩] scope pos) (some (.Name x pos')) spos.line X.env=pure true:=by rfl)(hs:∀x,foldedSetIterable iter X.env x=pure x:=by intro _;rfl):PS X (.Assign [.Name x pos'] (.ListComp elt [⟨tg,iter,ifs,0⟩] scope pos) spos) (lE (zp own.length ix wi g tc te) (qH i)):=by
 intro pins s σ H D I h
 have sc:=zJr ho
 rw[exec_Assign_Name_used _ _ _ _ hsw]
 refine wpAny_bind (wpAny_standAt (wpAny_bind ?_))
 show wpAny _ X.A (do let _ <-comprehension (.ListComp elt [⟨tg,iter,ifs,0⟩] scope pos) scope X.env _ (newList []) false (eval iter X.env) (some (assign (.Name x pos') X.env))) _ _ s
 refine wpAny_bind (wpAny_mono (wpAny_comprehension_free (use:=some (assign (.Name x pos') X.env)) (Q:=λ_ s'=>SP X pins D .next s') rfl hs (uT (WX I sc)) sc.kind sc.nm
  (aJ (hi pins s σ H _ I h) λv s1 h1=>aJ h1 λitv s2 h2=>?_)) (λ_ s' hq=>wpAny_pure (wpAny_pure hq)) λ_ _ e=>e)
 obtain⟨it,fp,tn,J,H2,e,I2,T,st2,f2,rd⟩:=h2
 subst e
 refine zGp (RR:=λacc C=>compPost (model X.prog X.w) X.A X.xe (some (assign (.Name x pos') X.env)) (λ_ s'=>SP X pins D .next s') acc C) hx hc sc I2 T st2 f2 hg hif he rd ?_
 rintro acc C s' ⟨p,H',rfl,I',⟨m,hns⟩,fC,q⟩
 obtain⟨f0,f1,f2,f3,f4,f5⟩:=fC
 show wpAny _ X.A (assign (.Name x pos') X.env (.ref p)) _ _ _
 refine wpAny_assign_Name (zIl (v:=.ref p) I' hN hi' (.inl W5) rfl (λs'' I'' ⟨a,hsa,ha⟩=>?_) (.inr W5))
 have haC:C≠a:=by
  rcases ha with ha|ha
  ·rw[ha];exact f1
  ·exact(f4 x a ha).symm
 exact⟨m,hns.sameBut hsa haC,λh' hs'=>⟨_,H',I''.turned (t':=s''.toks) (λb o hb e=>(hs'.2 b hb).trans e) f0 f1 f3 f4 f5,q⟩⟩
end
section
variable{n:Nat}{ix:List Nat}{g:TG}{tc:TT}{te:TE}{σ:St}{Q:VK}{H:Hp}
theorem zRb{K:PySem.W.Frag}{a:Addr}{xs:List V}(Pv:Nat->List V->St->Hp->Prop)(h0:Pv 0 [] (m9 σ n ix) H)(hl:∀i ys σ H,i<=xs.length->Pv i ys σ H->aV K H a xs/\ys.length<=i)(hz:xs.length<sizeLine)(hs:∀i x ys σ H,xs[i]?=some x->Pv i ys σ H->g x σ H λσ4 H4=>tc σ4 H4 λb H5=>if b=true then te σ4 H5 λy H6=>Pv (i+1) (ys++[y]) σ4 H6 else Pv (i+1) ys σ4 H5)(hd:∀ys σ H,Pv xs.length ys σ H->∀p,H p=none->Q (.ref p) (upd H p (.lst ys))):zm n ix g tc te σ Q (Nb K a) H:=by
 refine⟨λi m ys σ H=>m=xs.length-i/\i<=xs.length/\Pv i ys σ H,⟨xs.length,by simp,Nat.zero_le _,h0⟩,?_⟩
 rintro i m ys σ H ⟨rfl,hi,p⟩
 obtain⟨q,hy⟩:=hl i ys σ H hi p
 by_cases hlt:i<xs.length
 ·refine .inr ⟨⟨xs,xs[i],q,by simp[hlt]⟩,by omega,Pv (i+1),λys' σ' H' p'=>⟨xs.length-(i+1),by omega,rfl,hlt,p'⟩,λx H' y=>?_⟩
  obtain⟨e,y⟩:=y
  subst e
  exact hs i x ys σ _ (y xs q) p
 ·have e:i=xs.length:=by omega
  subst e
  exact .inl ⟨⟨xs,q,Nat.le_refl _⟩,by omega,hd ys σ H p⟩
end
def Ite(K:PySem.W.Frag)(a:Addr):It :=
 ⟨λi H=>∃xs x,aV K H a xs/\xs[i]?=some x,λi H v H'=>∃t x,v=.ref t/\H t=none/\H'=upd H t (.tup [.int i,x])/\∀xs,aV K H a xs->xs[i]?=some x,λi H=>∃xs,aV K H a xs/\xs.length<=i⟩
theorem zOa{P:Program}{w:World}{K:PySem.W.Frag}{elts:List Expr}{k:Nat}{tp:Pos}(a e it:Addr)(hne:e≠it) :
  Turn P w K (.Tuple elts k tp) (Ite K a) [e,it] e (λi h=>(∃old,IsEnum h e it ((i:Nat):Int) old)/\h.IsListIter it a i) where
 mem:=by simp
 obj:=λi h st b hb=>by
  obtain⟨⟨old,he⟩,o,ho,c,d⟩:=st
  have hb':b=e\/b=it:=by simpa using hb
  rcases hb' with rfl|rfl
  ·exact⟨_,he,λv z=>by
    have z':Data.fields _=Data.cell v:=z
    cases z'⟩
  ·exact⟨o,ho,λv z=>by rw[d] at z;cases z⟩
 keep:=λi h h' st k=>⟨let⟨old,he⟩:=st.1;⟨old,k e (by simp) _ he⟩,st.2.at λo q=>k it (by simp) o q⟩
 item:=by
  intro X hP hw hK hc i pins s σ H E I hf st hg
  subst hP hw hK
  obtain⟨xs,x,hq,hx⟩:=hg
  obtain⟨its,rv,p,hz⟩:=I.list hq
  obtain⟨u,hu,ru⟩:=rv.get hx
  obtain⟨⟨old,he⟩,hit⟩:=st
  obtain⟨f0,f1,f2,f3,f4,f5⟩:=hf e (by simp)
  obtain⟨g0,g1,g2,g3,g4,g5⟩:=hf it (by simp)
  refine wpAny_pyNext_enum_item he hit p.isList (x:=u) (by simpa using hu) hne λh₁ heo hit₁ ht₁ hz₁ hk₁=>?_
  refine⟨_,rfl,wpAny_letOwnedTupleGo_enum (s:={ s with heap:=h₁,toks:=s.toks+1 }) heo λh₂ he₂ hs₂=>?_⟩
  replace hs₂:SameBut e h₁ h₂:=hs₂
  have hel:e<s.heap.objs.size:=lt_size he
  have nT:H s.heap.objs.size=none:=I.hok.fresh (Nat.le_refl _)
  have ht₂:h₂.get? s.heap.objs.size=some { cls:=.type "tuple",data:=.seq #[.int i s.toks,u] }:=(hs₂.2 _ (Nat.ne_of_gt hel)).trans ht₁
  have kk:∀b o,b≠e->b≠it->s.heap.get? b=some o->h₂.get? b=some o:=λb o h1 h2 q=>(hs₂.2 b h1).trans (hk₁ b o h1 h2 q)
  have lt:∀b o,s.heap.get? b=some o->b≠s.heap.objs.size:=λb o q=>Nat.ne_of_lt (lt_size q)
  have there:∀b o,s.heap.get? b=some o->b∉[e,it]->∃o',h₂.get? b=some o':=λb o q hx=>⟨o,kk b o (λz=>hx (by simp[z])) (λz=>hx (by simp[z])) q⟩
  have U:Un (frs X.stack) [e,it] H (upd H s.heap.objs.size (.tup [.int i,x])) s.heap h₂ :=
   ⟨λb o q _ _ hx=>kk b o (λz=>hx (by simp[z])) (λz=>hx (by simp[z])) q,λb o q _ _ hx=>⟨o.slots,kk b o (λz=>hx (by simp[z])) (λz=>hx (by simp[z])) q⟩,
    λb o q n _=>by rw[zP (lt b o q)];exact n,there,λb ys q=>by rw[zP (zV q nT)];exact q,λb o ys q=>by rw[zP (zV q nT)];exact q,λb ps q=>⟨#[],by rw[zP (zV q nT),q];simp⟩⟩
  have ok:gn X.prog X.w (upd H s.heap.objs.size (.tup [.int i,x])) h₂:=λb o q=>by
   by_cases hb:b=s.heap.objs.size
   ·subst hb
    rw[zW] at q
    cases q
    exact⟨by show 2<=sizeLine;decide,[.int i s.toks,u],.cons ⟨_,rfl⟩ (.cons ru .nil),⟨_,ht₂,rfl,_,rfl⟩⟩
   ·rw[zP hb] at q
    refine(I.hok b o q).stay (λc v hc' z=>?_) (λc z=>by rw[zP (zV z nT)];exact z) λc ys z=>by rw[zP (zV z nT)];exact z
    have hcs:∃o',H c=some o':=by
     rcases hc' with rfl|hc'
     ·exact⟨o,q⟩
     ·exact⟨_,hc'⟩
    obtain⟨o',ho'⟩:=hcs
    exact kk c v (zV ho' f0) (zV ho' g0) z
  have I2:=I.call (h':=h₂) (g':=s.gens) (t':=s.toks+1) (d':=s.drawn) (ch:=[e,it]) U ok I.bare λb hb=>by
   have hb':b=e\/b=it:=by simpa using hb
   rcases hb' with rfl|rfl
   ·exact⟨f3,f1,f4,f5⟩
   ·exact⟨g3,g1,g4,g5⟩
  refine⟨.ref s.heap.objs.size,_,I2,rfl,⟨s.heap.objs.size,x,rfl,nT,rfl,λys hy=>by rw[I.pP hy hq];exact hx⟩,⟨⟨_,by rw[show((i+1:Nat):Int)=(i:Int)+1 by push_cast;rfl];exact he₂⟩,hit₁.extBut hs₂.extBut hne.symm⟩,λb hb=>?_⟩
  have hb':b=e\/b=it:=by simpa using hb
  obtain⟨o2,ho2,_⟩:=hit
  rcases hb' with rfl|rfl
  ·rw[zP (Nat.ne_of_lt hel)];exact f0
  ·rw[zP (Nat.ne_of_lt (lt_size ho2))];exact g0
 done:=by
  intro X hP hw hK hc i pins s σ H E I hf st hg
  subst hP hw hK
  obtain⟨xs,hq,hx⟩:=hg
  obtain⟨its,rv,p,hz⟩:=I.list hq
  obtain⟨⟨old,he⟩,hit⟩:=st
  obtain⟨g0,g1,g2,g3,g4,g5⟩:=hf it (by simp)
  have hl:=rv.length
  exact wpAny_pyNext_enum_end (I.ok.hd hc) he hit p.isList (by simp;omega) λh' eb=>⟨rfl,I.turned (t':=s.toks) (λb o hb e=>eb b o hb e) g0 g1 g3 g4 g5⟩
 self:=λ_ _ _ _ _ st h=>let⟨⟨_,he⟩,_⟩:=st;wpAny_pyIter_enum he h
def zq(K:PySem.W.Frag)(ta:TA):TI:=λσ H R=>ta σ H λvs H1=>∃a,vs=[.ref a]/\(∃xs,aV K H1 a xs)/\R (Ite K a) H1
theorem lg:bootBuiltins "enumerate" = some (.type "enumerate"):=by decide +kernel
theorem zPb(hg:Gl X "enumerate")(hm:X.mg "enumerate" = none)(ha:PA X [a] ta)(hs:starEach [a] X.env=[(false,eval a X.env)]:=by rfl) :
  PI X (.Tuple elts k tp) (.Call (.Name "enumerate" p) [a] [] pos) (zq X.K ta):=by
 intro pins s σ H R I h
 refine Call_ (yg I hg hm lg (PyProof.Rows.callWith_type1 (aJ (ha pos pins s σ H _ I h) λus s1 ⟨vs,H1,I1,r1,q1⟩=>?_) hs rfl))
 obtain⟨l,e,⟨xs,hq⟩,q⟩:=q1
 subst e
 cases r1 with
 |cons r rr =>
  cases rr
  cases r
  obtain⟨its,rv,p,hz⟩:=I1.list hq
  refine call_enumerate_list p.isList λh' hE hI hsz hk=>wpAny_pyIter_enum hE ?_
  have I2:Inv X pins σ H1 { s1 with heap:=h',toks:=s1.toks }:=I1.kept hk
  refine⟨s1.heap.objs.size+1,[s1.heap.objs.size+1,s1.heap.objs.size],_,_,H1,rfl,I2,zOa l _ _ (Nat.succ_ne_self _),⟨⟨.none,hE⟩,hI⟩,λb hb=>?_,q⟩
  have hb':b=s1.heap.objs.size+1\/b=s1.heap.objs.size:=by simpa using hb
  rcases hb' with rfl|rfl
  ·exact I1.oA (Nat.le_succ _) (I1.hok.fresh (Nat.le_succ _))
  ·exact I1.oA (Nat.le_refl _) (I1.hok.fresh (Nat.le_refl _))
theorem zTj{K:PySem.W.Frag}{a:Addr}{xs:List V}{g:TG}{tb:TS}{D:Ends}{σ:St}{H:Hp}(Pv:Nat->St->Hp->Prop)(h0:Pv 0 σ H)(hl:∀i σ H,i<=xs.length->Pv i σ H->aV K H a xs)(hs:∀i x t σ H,xs[i]?=some x->H t=none->Pv i σ H->g (.ref t) σ (upd H t (.tup [.int i,x])) λσ2 H2=>tb { D with nx:=Pv (i+1),ct:=Pv (i+1),bk:=D.nx } σ2 H2)(hd:∀σ H,Pv xs.length σ H->D.nx σ H) :
  ∃W:Nat->Nat->St->Hp->Prop,(∃m,W 0 m σ H)/\∀i m σ H,W i m σ H ->
   ((Ite K a).stop i H/\D.nx σ H)\/((Ite K a).go i H/\∃N:St->Hp->Prop,(∀σ' H',N σ' H'->∃m',m'<m/\W (i+1) m' σ' H')/\∀x H',(Ite K a).M_ i H x H'->g x σ H' λσ2 H2=>tb { D with nx:=N,ct:=N,bk:=D.nx } σ2 H2):=by
 refine⟨λi m σ H=>m=xs.length-i/\i<=xs.length/\Pv i σ H,⟨xs.length,by simp,Nat.zero_le _,h0⟩,?_⟩
 rintro i m σ H ⟨rfl,hi,p⟩
 have q:=hl i σ H hi p
 by_cases hlt:i<xs.length
 ·refine .inr ⟨⟨xs,xs[i],q,by simp[hlt]⟩,Pv (i+1),λσ' H' p'=>⟨xs.length-(i+1),by omega,rfl,hlt,p'⟩,λx H' y=>?_⟩
  obtain⟨t,x',rfl,ht,rfl,y⟩:=y
  exact hs i x' t σ H (y xs q) ht p
 ·have e:i=xs.length:=by omega
  subst e
  exact .inl ⟨⟨xs,q,Nat.le_refl _⟩,hd σ H p⟩
def W6(a:Str)(te:TE):TE:=λσ H Q=>te σ H λx H1=>(∃i,x=.int i/\i.natAbs.log2<1920/\Q (.str (a++Str.ofString (toString i))) H1)\/∃z,x=.str z/\z.length<=1000/\Q (.str (a++z)) H1
theorem zEg(x y:Str):(x++y).length=x.length+y.length:=by rw[<-strLen_append]
theorem zu{a:Str}(he:PE X e te)(hl:a.length<=1000):PE X (.JoinedStr [.Constant (.str a) j p1,.FormattedValue e (-1) none p2] pos) (W6 a te):=by
 intro pins s σ H Q I h
 refine JoinedStr_many (joinParts_cons (Calls.Constant_str ?_))
 have e0:(Str.empty++a)=a:=by
  cases a with
  |mk c=>show Str.mk _=_;simp[Str.empty]
 refine⟨by rw[e0];exact Nat.le_trans hl (by decide),?_⟩
 rw[e0]
 have I0:=I.tok (s.toks+1)
 refine joinParts_cons (FormattedValue_plain (aJ (he pins _ σ H _ I0 h) λu s1 ⟨x,H1,I1,r1,q1⟩=>?_))
 rcases q1 with⟨i,rfl,hd,q⟩|⟨z,rfl,hz,q⟩
 ·obtain⟨t,rfl⟩:=r1
  refine formatField_int_small hd ?_
  have len:(a++Str.ofString (toString i)).length<=sizeLine:=by
   have:=int_text_len_1921 hd
   rw[zEg]
   exact Nat.le_trans (show a.length+(Str.ofString (toString i)).length<=4000 by omega) (by decide)
  refine⟨len,joinParts_nil ?_ len⟩
  exact⟨.str (a++Str.ofString (toString i)),H1,(I1.tok (s1.toks+1+1)).tok _,⟨_,rfl⟩,q⟩
 ·obtain⟨t,rfl⟩:=r1
  have len:(a++z).length<=sizeLine:=by
   rw[zEg]
   exact Nat.le_trans (show a.length+z.length<=4000 by omega) (by decide)
  refine formatField_str (λt' tk=>?_) (Nat.le_trans hz (by decide))
  refine⟨len,joinParts_nil ?_ len⟩
  exact⟨.str (a++z),H1,(I1.tok tk).tok _,⟨_,rfl⟩,q⟩
def J2(K:PySem.W.Frag)(c:Value):List V->Hp->VK->Prop:=λxs H Q=>∃x y t b,xs=[x,y]/\RelV y c/\jx K H x t/\kitOne K t c=some b/\Q (.bl b) H
theorem zTw(hc:∀y u,RelV y c->RelV y u->u=c):qy X (.builtin "isinstance") (J2 X.K c):=by
 intro pins s σ H xs us Q I r h
 obtain⟨x,y,t,b,rfl,ry,ty,e,q⟩:=h
 obtain⟨u,v,rfl,ru,rv⟩:=r.two
 obtain rfl:=hc y v ry rv
 exact zQb I ru ty e λtk=>⟨.bl b,H,I.tok tk,rfl,q⟩
theorem Dt:∀y u,RelV y (.type n)->RelV y u->u=.type n:=λy u h1 h2=>by
 cases y<;>first
  | (cases h1;done)
  | (obtain⟨_,e⟩:=h1;cases e;done)
  | (cases h1;cases h2;rfl)
theorem zS6{σ:St}{A B:St->Hp->Prop}(h:A (σ.set i (some x)) H):qH i x σ H (λσ4 H4=>J0 σ4 H4 λb H5=>if b=true then A σ4 H5 else B σ4 H5):=by
 show if true=true then A (σ.set i (some x)) H else B (σ.set i (some x)) H
 rw[if_pos rfl]
 exact h
theorem zPc{X:Cx}{K:PySem.W.Frag}(h:X.K=K){es:List Expr}{k:Nat}{t:M8}{n:Nat}{pos:Pos}(hc:X.calm=true)(ht:Py X es t)(hn:(assignEach es X.env).length=n:=by rfl)(hst:(assignEach es X.env).findIdx? (·.1)=none:=by rfl):PG X (.Tuple es k pos) (Js K n t):=by
 subst h
 exact PB hc ht hn hst
end L2
namespace Ts
open PySem L2
theorem aO(h:H p=none)(o:HO):Same H (upd H p o):=λb u q=>by rw[zP (zV q h)];exact q
theorem _root_.L2.Same.put(s:Same H H')(h:H p=none)(o:HO):Same H (upd H' p o):=λb u q=>by rw[zP (zV q h)];exact s b u q
def A2{α β:Type}(R:α->β->Prop):List α->List β->Prop
 |[],[]=>True
 |x::xs,y::ys=>R x y/\A2 R xs ys
 |_,_=>False
section
variable{α β:Type}{R R':α->β->Prop}
theorem A2.len:∀{xs:List α}{ys:List β},A2 R xs ys->xs.length=ys.length
 |[],[],_=>rfl
 |_::_,_::_,h=>congrArg (· + 1) (A2.len h.2)
 |[],_::_,h=>h.elim
 |_::_,[],h=>h.elim
theorem A2.imp(f:∀x y,R x y->R' x y):∀{xs:List α}{ys:List β},A2 R xs ys->A2 R' xs ys
 |[],[],_=>trivial
 |_::_,_::_,h=>⟨f _ _ h.1,A2.imp f h.2⟩
 |[],_::_,h=>h.elim
 |_::_,[],h=>h.elim
theorem A2.app:∀{xs:List α}{ys:List β}{xs':List α}{ys':List β},A2 R xs ys->A2 R xs' ys'->A2 R (xs++xs') (ys++ys')
 |[],[],_,_,_,h=>h
 |_::_,_::_,_,_,h,h'=>⟨h.1,A2.app h.2 h'⟩
 |[],_::_,_,_,h,_=>h.elim
 |_::_,[],_,_,h,_=>h.elim
theorem A2.snoc(h:A2 R xs ys)(r:R x y):A2 R (xs++[x]) (ys++[y]):=h.app ⟨r,trivial⟩
theorem A2.at1:∀{xs:List α}{ys:List β}{i:Nat}{x:α},A2 R xs ys->xs[i]?=some x->∃y,ys[i]?=some y/\R x y
 |[],_,_,_,_,e=>by simp at e
 |_::_,_::_,0,_,h,e=>by simp at e;subst e;exact⟨_,rfl,h.1⟩
 |_::_,_::_,i+1,_,h,e=>by
  obtain⟨y,h1,h2⟩:=A2.at1 (i:=i) h.2 (by simpa using e)
  exact⟨y,by simpa using h1,h2⟩
 |_::_,[],_,_,h,_=>h.elim
theorem A2.at2:∀{xs:List α}{ys:List β}{i:Nat}{y:β},A2 R xs ys->ys[i]?=some y->∃x,xs[i]?=some x/\R x y
 |_,[],_,_,_,e=>by simp at e
 |_::_,_::_,0,_,h,e=>by simp at e;subst e;exact⟨_,rfl,h.1⟩
 |_::_,_::_,i+1,_,h,e=>by
  obtain⟨y,h1,h2⟩:=A2.at2 (i:=i) h.2 (by simpa using e)
  exact⟨y,by simpa using h1,h2⟩
 |[],_::_,_,_,h,_=>h.elim
theorem A2.set(r:R x y):∀{xs:List α}{ys:List β}(i:Nat),A2 R xs ys->A2 R (xs.set i x) (ys.set i y)
 |[],[],_,_=>trivial
 |_::_,_::_,0,h=>⟨r,h.2⟩
 |_::_,_::_,i+1,h=>⟨h.1,A2.set r i h.2⟩
 |[],_::_,_,h=>h.elim
 |_::_,[],_,h=>h.elim
theorem A2.tk:∀{xs:List α}{ys:List β}(i:Nat),A2 R xs ys->A2 R (xs.take i) (ys.take i)
 |[],[],_,_=>by simp[A2]
 |_::_,_::_,0,h=>trivial
 |_::_,_::_,i+1,h=>⟨h.1,A2.tk i h.2⟩
 |[],_::_,_,h=>h.elim
 |_::_,[],_,h=>h.elim
theorem A2.dr:∀{xs:List α}{ys:List β}(i:Nat),A2 R xs ys->A2 R (xs.drop i) (ys.drop i)
 |[],[],_,_=>by simp[A2]
 |_::_,_::_,0,h=>h
 |_::_,_::_,i+1,h=>A2.dr i h.2
 |[],_::_,_,h=>h.elim
 |_::_,[],_,h=>h.elim
theorem A2.of_map{f:β->α}(h:∀y,R (f y) y):∀ys:List β,A2 R (ys.map f) ys
 |[]=>trivial
 |y::ys=>⟨h y,A2.of_map h ys⟩
end
class Rp (K:PySem.W.Frag) (α:Type) where
 rp:Hp->V->α->Prop
 mono:∀{F F':Hp}{v:V}{a:α},Same F F'->rp F v a->rp F' v a
abbrev rp(K:PySem.W.Frag){α:Type}[Rp K α]:Hp->V->α->Prop:=Rp.rp (K:=K)
class Nn (K:PySem.W.Frag) (α:Type) [Rp K α]:Prop where
 nn:∀{F:Hp}{v:V}{a:α},rp K F v a->v≠.non
class Sc (K:PySem.W.Frag) (α:Type) [Rp K α] where
 val:α->V
 is:∀{F:Hp}{v:V}{a:α},rp K F v a↔v=val a
 inj:∀{a b:α},val a=val b->a=b
section
variable{K:PySem.W.Frag}
instance:Rp K Int:=⟨λ_ v n=>v=.int n,λ_ h=>h⟩
instance:Rp K Bool:=⟨λ_ v n=>v=.bl n,λ_ h=>h⟩
instance:Rp K Str:=⟨λ_ v n=>v=.str n,λ_ h=>h⟩
instance:Rp K Unit:=⟨λ_ v _=>v=.non,λ_ h=>h⟩
instance{α:Type}[Rp K α]:Rp K (Option α):=⟨λF v a=>match a with
 |none=>v=.non
 |some x=>v≠.non/\rp K F v x,λ{F F' v a} s h=>match a,h with
 |none,h=>h
 |some x,h=>⟨h.1,Rp.mono s h.2⟩⟩
instance{α:Type}[Rp K α]:Rp K (List α):=⟨λF v xs=>∃p vs,v=.ref p/\F p=some (.lst vs)/\A2 (rp K F) vs xs,λs ⟨p,vs,h1,h2,h3⟩=>⟨p,vs,h1,s _ _ h2,h3.imp λ_ _=>Rp.mono s⟩⟩
instance{α β:Type}[Rp K α][Rp K β]:Rp K (α×β):=⟨λF v x=>∃p a b,v=.ref p/\F p=some (.tup [a,b])/\rp K F a x.1/\rp K F b x.2,λs ⟨p,a,b,h1,h2,h3,h4⟩=>⟨p,a,b,h1,s _ _ h2,Rp.mono s h3,Rp.mono s h4⟩⟩
structure tQ where
 ns:LI
instance:Rp K tQ:=⟨λF v x=>∃p,v=.ref p/\aV K F p (x.ns.map V.int),λs ⟨p,h1,h2⟩=>⟨p,h1,s.seq h2⟩⟩
instance:Nn K Int:=⟨λh=>by cases h;intro e;cases e⟩
instance:Nn K Bool:=⟨λh=>by cases h;intro e;cases e⟩
instance:Nn K Str:=⟨λh=>by cases h;intro e;cases e⟩
instance{α:Type}[Rp K α]:Nn K (List α):=⟨λ⟨_,_,h,_⟩=>by rw[h];intro e;cases e⟩
instance{α β:Type}[Rp K α][Rp K β]:Nn K (α×β):=⟨λ⟨_,_,_,h,_⟩=>by rw[h];intro e;cases e⟩
instance:Sc K Int:=⟨V.int,Iff.rfl,λh=>by cases h;rfl⟩
instance:Sc K Bool:=⟨V.bl,Iff.rfl,λh=>by cases h;rfl⟩
instance:Sc K Str:=⟨V.str,Iff.rfl,λh=>by cases h;rfl⟩
instance{α:Type}[Rp K α][Sc K α][Nn K α]:Sc K (Option α):=⟨λa=>match a with
 |none=>.non
 |some x=>Sc.val K x,λ{F v a}=>match a with
 |none=>Iff.rfl
 |some x=>⟨λh=>Sc.is.mp h.2,λh=>⟨Nn.nn (K:=K) (F:=F) (a:=x) (Sc.is.mpr h),Sc.is.mpr h⟩⟩,λ{a b} h=>match a,b,h with
 |none,none,_=>rfl
 |some x,some y,h=>by rw[Sc.inj (K:=K) (a:=x) (b:=y) h]
 |none,some y,h=>absurd h.symm (Nn.nn (K:=K) (F:=λ_=>none) (a:=y) (Sc.is.mpr rfl))
 |some x,none,h=>absurd h (Nn.nn (K:=K) (F:=λ_=>none) (a:=x) (Sc.is.mpr rfl))⟩
theorem QC{α:Type}[Rp K α][Sc K α]{a:α}(h:rp K F v a):rp K F' v a:=Sc.is.mpr (Sc.is.mp h)
inductive Md|nw|fz|hp
def dif(H H0:Hp):Hp:=λb=>match H0 b with
 |none=>H b
 |some _=>none
def ext(Fa H0 H:Hp):Hp:=λb=>match H0 b with
 |none=>H b
 |some _=>Fa b
structure Bs where
 Fa:Hp
 H0:Hp
abbrev Own:=List (Addr×HO)
class Ob (K:PySem.W.Frag) (α:Type) where
 β:Type
 lK:Rp K β
 ro:Hp->V->α->Own->Prop
 mono:∀{F F':Hp}{v:V}{a:α}{O:Own},Same F F'->ro F v a O->ro F' v a O
 val:α->β
 lC:∀{F:Hp}{v:V}{a:α}{O:Own},ro F v a O->(∀x∈O,F x.1=some x.2)->Rp.rp (K:=K) F v (val a)
def reg(B:Bs)(F H:Hp):Md->Hp
 |.nw=>dif F B.H0
 |.fz=>F
 |.hp=>H
theorem aP:Same (dif H H0) H:=λb o h=>by
 unfold dif at h
 cases e:H0 b with
 |none=>rw[e] at h;exact h
 |some u=>rw[e] at h;cases h
theorem uO(h:H0 b=none):dif H H0 b=H b:=by
 unfold dif
 rw[h]
theorem wK(s:Same H H'):Same (dif H H0) (dif H' H0):=λb o h=>by
 unfold dif at h ⊢
 cases e:H0 b with
 |none=>rw[e] at h;exact s b o h
 |some u=>rw[e] at h;cases h
structure Ok(B:Bs)(F:Hp)(O:Own)(H:Hp):Prop where
 fh:Same F H
 h0:Same B.H0 H
 fa:∀b o,F b=some o->B.Fa b=some o\/B.H0 b=none
 fo:∀x∈O,F x.1=none/\B.H0 x.1=none/\H x.1=some x.2
 nd:(O.map (·.1)).Nodup
structure bh(B:Bs)(F H:Hp)(O:Own)(F' H':Hp):Prop where
 ff:Same F F'
 hh:Same H H'
 ok:Ok B F' O H'
 nw:∀b,F b=none->H b≠none->F' b=none
section
variable{B:Bs}{F H F' H' F2 H2:Hp}{O:Own}
theorem bh.refl(k:Ok B F O H):bh B F H O F H:=⟨.refl _,.refl _,k,λ_ h _=>h⟩
theorem bh.trans(a:bh B F H O F' H')(b:bh B F' H' O F2 H2):bh B F H O F2 H2 :=
 ⟨a.ff.trans b.ff,a.hh.trans b.hh,b.ok,λq h1 h2=>b.nw q (a.nw q h1 h2) λe=>h2 (a.hh.free e)⟩
theorem bh.new(k:Ok B F O H)(h:H p=none)(o:HO):bh B F H O (upd F p o) (upd H p o):=by
 have fp:=k.fh.free h
 refine⟨aO fp o,aO h o,⟨λb u e=>?_,k.h0.put (k.h0.free h) o,λb u e=>?_,λx hx=>?_,k.nd⟩,λb h1 h2=>?_⟩
 ·by_cases q:b=p
  ·subst q;rw[zW] at e ⊢;exact e
  ·rw[zP q] at e ⊢;exact k.fh b u e
 ·by_cases q:b=p
  ·subst q;exact .inr (k.h0.free h)
  ·rw[zP q] at e;exact k.fa b u e
 ·obtain⟨a1,a2,a3⟩:=k.fo x hx
  have q:x.1≠p:=zV a3 h
  exact⟨by rw[zP q];exact a1,a2,by rw[zP q];exact a3⟩
 ·rw[zP λe=>h2 (by rw[e];exact h)];exact h1
theorem wE(g:bh B F H O F' H')(md:Md):Same (reg B F H md) (reg B F' H' md):=match md with
 |.nw=>wK g.ff
 |.fz=>g.ff
 |.hp=>g.hh
end
inductive Slot(K:PySem.W.Frag):Type 1
 |un
 |fz (n:Bool) {α:Type} [Rp K α] (a:α)
 |hs {α:Type} [Rp K α] (a:α)
 |nu {α:Type} [Rp K α] (a:α)
 |ow (n:Bool) {α:Type} [Rp K α] (xs:List α)
 |od {α:Type} [Rp K α] (kvs:List (Key×α))
 |ob (n:Bool) {α:Type} [Ob K α] (a:α)
abbrev SL(K:PySem.W.Frag):=List (Slot K)
abbrev jt:Bool->Md
 |true=>.nw
 |false=>.fz
def lo(F:Hp)(O:Own)(H:Hp):Hp:=λb=>if(F b).isSome||(O.any λx=>x.1==b) then none else H b
inductive ak(B:Bs)(F L H:Hp):SL K->St->Own->Prop
 |nil:ak B F L H [] [] []
 |un {sl:SL K} {σ:St} {O:Own} {x:Option V}:ak B F L H sl σ O->ak B F L H (.un::sl) (x::σ) O
 |fz {n:Bool} {α:Type} [Rp K α] {a:α} {sl:SL K} {σ:St} {O:Own} {v:V}:rp K (reg B F H (jt n)) v a->ak B F L H sl σ O->ak B F L H (.fz n a::sl) (some v::σ) O
 |hs {α:Type} [Rp K α] {a:α} {sl:SL K} {σ:St} {O:Own} {v:V}:rp K H v a->ak B F L H sl σ O->ak B F L H (.hs a::sl) (some v::σ) O
 |nu {α:Type} [Rp K α] {a:α} {sl:SL K} {σ:St} {O:Own} {v:V}:rp K (dif L B.H0) v a->ak B F L H sl σ O->ak B F L H (.nu a::sl) (some v::σ) O
 |ow {n:Bool} {α:Type} [Rp K α] {xs:List α} {sl:SL K} {σ:St} {O:Own} {p:Addr} {vs:List V}:A2 (rp K (reg B F H (jt n))) vs xs->ak B F L H sl σ O->ak B F L H (.ow n xs::sl) (some (.ref p)::σ) ((p,.lst vs)::O)
 |od {α:Type} [Rp K α] {kvs:List (Key×α)} {sl:SL K} {σ:St} {O:Own} {p:Addr} {ks:List (Key×V)}:A2 (λ(x:Key×V) (y:Key×α)=>x.1=y.1/\rp K F x.2 y.2) ks kvs->ak B F L H sl σ O->ak B F L H (.od kvs::sl) (some (.ref p)::σ) ((p,.dK ks)::O)
 |ob {n:Bool} {α:Type} [Ob K α] {a:α} {sl:SL K} {σ:St} {O Oc:Own} {v:V}:Ob.ro K (reg B F H (jt n)) v a Oc->ak B F L H sl σ O->ak B F L H (.ob n a::sl) (some v::σ) (Oc++O)
def At(B:Bs)(sl:SL K)(F:Hp)(O:Own)(H:Hp)(σ:St):Prop:=Ok B F O H/\ak B F (lo F O H) H sl σ O
abbrev iW:Slot K->Bool
 |@Slot.ow _ _ _ _ _=>true
 |@Slot.od _ _ _ _=>true
 |@Slot.ob _ _ _ _ _=>true
 |_=>false
abbrev oF:Slot K->Bool
 |@Slot.hs _ _ _ _=>true
 |_=>false
section
variable{B:Bs}{F H F' H' L L':Hp}{O O':Own}{sl:SL K}{σ:St}
theorem wL(n:Bool)(hF:Same F F'):Same (reg B F H (jt n)) (reg B F' H' (jt n)):=match n with
 |true=>wK hF
 |false=>hF
theorem ak.mono(hF:Same F F')(hL:Same L L')(hH:Same H H')(h:ak B F L H sl σ O):ak B F' L' H' sl σ O:=by
 induction h with
 |nil=>exact .nil
 |un _ ih=>exact .un ih
 |fz r _ ih=>exact .fz (Rp.mono (wL _ hF) r) ih
 |hs r _ ih=>exact .hs (Rp.mono hH r) ih
 |nu r _ ih=>exact .nu (Rp.mono (wK hL) r) ih
 |ow r _ ih=>exact .ow (r.imp λ_ _=>Rp.mono (wL _ hF)) ih
 |od r _ ih=>exact .od (r.imp λ_ _ z=>⟨z.1,Rp.mono hF z.2⟩) ih
 |ob r _ ih=>exact .ob (Ob.mono (wL _ hF) r) ih
theorem ak.mut(hL:Same L L')(h:ak B F L H sl σ O)(hn:sl.all (λs=>!oF s)=true):ak B F L' H' sl σ O:=by
 induction h with
 |nil=>exact .nil
 |un _ ih=>exact .un (ih (by rw[all_cons,Bool.and_eq_true] at hn;exact hn.2))
 |fz r _ ih=>exact .fz (Rp.mono (wL _ (.refl _)) r) (ih (by rw[all_cons,Bool.and_eq_true] at hn;exact hn.2))
 |hs r _ ih=>rw[all_cons,Bool.and_eq_true] at hn;exact absurd hn.1 (by simp)
 |nu r _ ih=>exact .nu (Rp.mono (wK hL) r) (ih (by rw[all_cons,Bool.and_eq_true] at hn;exact hn.2))
 |ow r _ ih=>exact .ow (r.imp λ_ _=>Rp.mono (wL _ (.refl _))) (ih (by rw[all_cons,Bool.and_eq_true] at hn;exact hn.2))
 |od r _ ih=>exact .od r (ih (by rw[all_cons,Bool.and_eq_true] at hn;exact hn.2))
 |ob r _ ih=>exact .ob (Ob.mono (wL _ (.refl _)) r) (ih (by rw[all_cons,Bool.and_eq_true] at hn;exact hn.2))
theorem zP3(g:bh B F H O F' H'):Same (lo F O H) (lo F' O H'):=λb o h=>by
 unfold lo at h ⊢
 cases e:(F b).isSome||(O.any λx=>x.1==b) with
 |true=>rw[e] at h;cases h
 |false =>
  rw[e] at h
  have hb:H b=some o:=h
  rw[Bool.or_eq_false_iff] at e
  have f':F' b=none:=g.nw b (by cases q:F b with|none=>rfl|some u=>rw[q] at e;cases e.1) (by rw[hb];intro z;cases z)
  rw[f',e.2]
  exact g.hh b o hb
theorem At.grow(h:At B sl F O H σ)(g:bh B F H O F' H'):At B sl F' O H' σ:=⟨g.ok,h.2.mono g.ff (zP3 g) g.hh⟩
theorem ak.nO{α:Type}[Rp K α]{a:α}(h:ak B F L H sl σ O):∀{i:Nat},sl[i]?=some (.fz n a)->∃v,σ[i]?=some (some v)/\rp K (reg B F H (jt n)) v a:=by
 induction h with
 |nil=>intro i e;simp at e
 |fz r _ ih =>
  intro i e
  cases i with
  |zero=>simp only[getElem?_cons_zero] at e;cases e;exact⟨_,rfl,r⟩
  |succ i=>exact ih (by simpa using e)
 |_ =>
  rename_i ih
  intro i e
  cases i with
  |zero=>simp only[getElem?_cons_zero] at e;cases e
  |succ i=>exact ih (by simpa using e)
theorem ak.Ht{α:Type}[Rp K α]{a:α}(h:ak B F L H sl σ O):∀{i:Nat},sl[i]?=some (.hs a)->∃v,σ[i]?=some (some v)/\rp K H v a:=by
 induction h with
 |nil=>intro i e;simp at e
 |hs r _ ih =>
  intro i e
  cases i with
  |zero=>simp only[getElem?_cons_zero] at e;cases e;exact⟨_,rfl,r⟩
  |succ i=>exact ih (by simpa using e)
 |_ =>
  rename_i ih
  intro i e
  cases i with
  |zero=>simp only[getElem?_cons_zero] at e;cases e
  |succ i=>exact ih (by simpa using e)
theorem ak.QD{α:Type}[Rp K α]{a:α}(h:ak B F L H sl σ O):∀{i:Nat},sl[i]?=some (.nu a)->∃v,σ[i]?=some (some v)/\rp K (dif L B.H0) v a:=by
 induction h with
 |nil=>intro i e;simp at e
 |nu r _ ih =>
  intro i e
  cases i with
  |zero=>simp only[getElem?_cons_zero] at e;cases e;exact⟨_,rfl,r⟩
  |succ i=>exact ih (by simpa using e)
 |_ =>
  rename_i ih
  intro i e
  cases i with
  |zero=>simp only[getElem?_cons_zero] at e;cases e
  |succ i=>exact ih (by simpa using e)
theorem ak.put(h:ak B F L H sl σ O)(new:∀(sl:SL K) (σ:St) (O:Own),ak B F L H sl σ O->ak B F L H (s'::sl) (x::σ) O):∀{i:Nat},sl[i]?=some s->iW s=false->ak B F L H (sl.set i s') (σ.set i x) O:=by
 induction h with
 |nil=>intro i e;simp at e
 |un g ih =>
  intro i e o
  cases i with
  |zero=>exact new _ _ _ g
  |succ i=>exact .un (ih (by simpa using e) o)
 |fz r g ih =>
  intro i e o
  cases i with
  |zero=>exact new _ _ _ g
  |succ i=>exact .fz r (ih (by simpa using e) o)
 |hs r g ih =>
  intro i e o
  cases i with
  |zero=>exact new _ _ _ g
  |succ i=>exact .hs r (ih (by simpa using e) o)
 |nu r g ih =>
  intro i e o
  cases i with
  |zero=>exact new _ _ _ g
  |succ i=>exact .nu r (ih (by simpa using e) o)
 |ow r g ih =>
  intro i e o
  cases i with
  |zero=>simp only[getElem?_cons_zero] at e;cases e;cases o
  |succ i=>exact .ow r (ih (by simpa using e) o)
 |od r g ih =>
  intro i e o
  cases i with
  |zero=>simp only[getElem?_cons_zero] at e;cases e;cases o
  |succ i=>exact .od r (ih (by simpa using e) o)
 |ob r g ih =>
  intro i e o
  cases i with
  |zero=>simp only[getElem?_cons_zero] at e;cases e;cases o
  |succ i=>exact .ob r (ih (by simpa using e) o)
theorem ak.own(h:ak B F L H sl σ O)(new:∀(sl:SL K) (σ:St) (O:Own),ak B F L H sl σ O->ak B F L H (s'::sl) (x::σ) (c::O)) :
  ∀{i:Nat},sl[i]?=some s->iW s=false->∃O1 O2,O=O1++O2/\ak B F L H (sl.set i s') (σ.set i x) (O1++c::O2):=by
 induction h with
 |nil=>intro i e;simp at e
 |un g ih =>
  intro i e o
  cases i with
  |zero=>exact⟨[],_,rfl,new _ _ _ g⟩
  |succ i=>obtain⟨O1,O2,q,z⟩:=ih (by simpa using e) o;exact⟨O1,O2,q,.un z⟩
 |fz r g ih =>
  intro i e o
  cases i with
  |zero=>exact⟨[],_,rfl,new _ _ _ g⟩
  |succ i=>obtain⟨O1,O2,q,z⟩:=ih (by simpa using e) o;exact⟨O1,O2,q,.fz r z⟩
 |hs r g ih =>
  intro i e o
  cases i with
  |zero=>exact⟨[],_,rfl,new _ _ _ g⟩
  |succ i=>obtain⟨O1,O2,q,z⟩:=ih (by simpa using e) o;exact⟨O1,O2,q,.hs r z⟩
 |nu r g ih =>
  intro i e o
  cases i with
  |zero=>exact⟨[],_,rfl,new _ _ _ g⟩
  |succ i=>obtain⟨O1,O2,q,z⟩:=ih (by simpa using e) o;exact⟨O1,O2,q,.nu r z⟩
 |ow r g ih =>
  intro i e o
  cases i with
  |zero=>simp only[getElem?_cons_zero] at e;cases e;cases o
  |succ i=>obtain⟨O1,O2,q,z⟩:=ih (by simpa using e) o;exact⟨_::O1,O2,by rw[q]<;>rfl,.ow r z⟩
 |od r g ih =>
  intro i e o
  cases i with
  |zero=>simp only[getElem?_cons_zero] at e;cases e;cases o
  |succ i=>obtain⟨O1,O2,q,z⟩:=ih (by simpa using e) o;exact⟨_::O1,O2,by rw[q]<;>rfl,.od r z⟩
 |@ob _ _ _ _ _ _ _ Oc _ r g ih =>
  intro i e o
  cases i with
  |zero=>simp only[getElem?_cons_zero] at e;cases e;cases o
  |succ i =>
   obtain⟨O1,O2,q,z⟩:=ih (by simpa using e) o
   refine⟨Oc++O1,O2,by rw[q,append_assoc],?_⟩
   rw[append_assoc]
   exact .ob r z
theorem ak.rW{α:Type}[Rp K α]{xs:List α}(h:ak B F L H sl σ O):∀{i:Nat},sl[i]?=some (.ow n xs) ->
  ∃O1 O2 p vs,O=O1++(p,.lst vs)::O2/\σ[i]?=some (some (.ref p))/\A2 (rp K (reg B F H (jt n))) vs xs /\
   (∀(s':Slot K)(x:Option V)(c:Addr×HO),(∀(sl:SL K)(σ:St)(O:Own),ak B F L H sl σ O->ak B F L H (s'::sl) (x::σ) (c::O))->ak B F L H (sl.set i s') (σ.set i x) (O1++c::O2)) /\
   (∀(s':Slot K)(x:Option V),(∀(sl:SL K)(σ:St)(O:Own),ak B F L H sl σ O->ak B F L H (s'::sl) (x::σ) O)->ak B F L H (sl.set i s') (σ.set i x) (O1++O2)):=by
 induction h with
 |nil=>intro i e;simp at e
 |un g ih =>
  intro i e
  cases i with
  |zero=>simp only[getElem?_cons_zero] at e;cases e
  |succ i=>obtain⟨O1,O2,p,vs,q,h1,h2,h3,h4⟩:=ih (by simpa using e);exact⟨O1,O2,p,vs,q,h1,h2,λs' x c z=>.un (h3 s' x c z),λs' x z=>.un (h4 s' x z)⟩
 |fz r g ih =>
  intro i e
  cases i with
  |zero=>simp only[getElem?_cons_zero] at e;cases e
  |succ i=>obtain⟨O1,O2,p,vs,q,h1,h2,h3,h4⟩:=ih (by simpa using e);exact⟨O1,O2,p,vs,q,h1,h2,λs' x c z=>.fz r (h3 s' x c z),λs' x z=>.fz r (h4 s' x z)⟩
 |hs r g ih =>
  intro i e
  cases i with
  |zero=>simp only[getElem?_cons_zero] at e;cases e
  |succ i=>obtain⟨O1,O2,p,vs,q,h1,h2,h3,h4⟩:=ih (by simpa using e);exact⟨O1,O2,p,vs,q,h1,h2,λs' x c z=>.hs r (h3 s' x c z),λs' x z=>.hs r (h4 s' x z)⟩
 |nu r g ih =>
  intro i e
  cases i with
  |zero=>simp only[getElem?_cons_zero] at e;cases e
  |succ i=>obtain⟨O1,O2,p,vs,q,h1,h2,h3,h4⟩:=ih (by simpa using e);exact⟨O1,O2,p,vs,q,h1,h2,λs' x c z=>.nu r (h3 s' x c z),λs' x z=>.nu r (h4 s' x z)⟩
 |ow r g ih =>
  intro i e
  cases i with
  |zero=>simp only[getElem?_cons_zero] at e;cases e;exact⟨[],_,_,_,rfl,rfl,r,λs' x c z=>z _ _ _ g,λs' x z=>z _ _ _ g⟩
  |succ i=>obtain⟨O1,O2,p,vs,q,h1,h2,h3,h4⟩:=ih (by simpa using e);exact⟨_::O1,O2,p,vs,by rw[q]<;>rfl,h1,h2,λs' x c z=>.ow r (h3 s' x c z),λs' x z=>.ow r (h4 s' x z)⟩
 |od r g ih =>
  intro i e
  cases i with
  |zero=>simp only[getElem?_cons_zero] at e;cases e
  |succ i=>obtain⟨O1,O2,p,vs,q,h1,h2,h3,h4⟩:=ih (by simpa using e);exact⟨_::O1,O2,p,vs,by rw[q]<;>rfl,h1,h2,λs' x c z=>.od r (h3 s' x c z),λs' x z=>.od r (h4 s' x z)⟩
 |@ob _ _ _ _ _ _ _ Oc _ r g ih =>
  intro i e
  cases i with
  |zero=>simp only[getElem?_cons_zero] at e;cases e
  |succ i =>
   obtain⟨O1,O2,p,vs,q,h1,h2,h3,h4⟩:=ih (by simpa using e)
   refine⟨Oc++O1,O2,p,vs,by rw[q,append_assoc],h1,h2,λs' x c z=>?_,λs' x z=>?_⟩
   ·rw[append_assoc];exact .ob r (h3 s' x c z)
   ·rw[append_assoc];exact .ob r (h4 s' x z)
theorem ak.Hu{α:Type}[Rp K α]{kvs:List (Key×α)}(h:ak B F L H sl σ O):∀{i:Nat},sl[i]?=some (.od kvs) ->
  ∃O1 O2 p ks,O=O1++(p,.dK ks)::O2/\σ[i]?=some (some (.ref p))/\A2 (λ(x:Key×V) (y:Key×α)=>x.1=y.1/\rp K F x.2 y.2) ks kvs /\
   (∀(s':Slot K)(x:Option V)(c:Addr×HO),(∀(sl:SL K)(σ:St)(O:Own),ak B F L H sl σ O->ak B F L H (s'::sl) (x::σ) (c::O))->ak B F L H (sl.set i s') (σ.set i x) (O1++c::O2)) /\
   (∀(s':Slot K)(x:Option V),(∀(sl:SL K)(σ:St)(O:Own),ak B F L H sl σ O->ak B F L H (s'::sl) (x::σ) O)->ak B F L H (sl.set i s') (σ.set i x) (O1++O2)):=by
 induction h with
 |nil=>intro i e;simp at e
 |un g ih =>
  intro i e
  cases i with
  |zero=>simp only[getElem?_cons_zero] at e;cases e
  |succ i=>obtain⟨O1,O2,p,vs,q,h1,h2,h3,h4⟩:=ih (by simpa using e);exact⟨O1,O2,p,vs,q,h1,h2,λs' x c z=>.un (h3 s' x c z),λs' x z=>.un (h4 s' x z)⟩
 |fz r g ih =>
  intro i e
  cases i with
  |zero=>simp only[getElem?_cons_zero] at e;cases e
  |succ i=>obtain⟨O1,O2,p,vs,q,h1,h2,h3,h4⟩:=ih (by simpa using e);exact⟨O1,O2,p,vs,q,h1,h2,λs' x c z=>.fz r (h3 s' x c z),λs' x z=>.fz r (h4 s' x z)⟩
 |hs r g ih =>
  intro i e
  cases i with
  |zero=>simp only[getElem?_cons_zero] at e;cases e
  |succ i=>obtain⟨O1,O2,p,vs,q,h1,h2,h3,h4⟩:=ih (by simpa using e);exact⟨O1,O2,p,vs,q,h1,h2,λs' x c z=>.hs r (h3 s' x c z),λs' x z=>.hs r (h4 s' x z)⟩
 |nu r g ih =>
  intro i e
  cases i with
  |zero=>simp only[getElem?_cons_zero] at e;cases e
  |succ i=>obtain⟨O1,O2,p,vs,q,h1,h2,h3,h4⟩:=ih (by simpa using e);exact⟨O1,O2,p,vs,q,h1,h2,λs' x c z=>.nu r (h3 s' x c z),λs' x z=>.nu r (h4 s' x z)⟩
 |od r g ih =>
  intro i e
  cases i with
  |zero=>simp only[getElem?_cons_zero] at e;cases e;exact⟨[],_,_,_,rfl,rfl,r,λs' x c z=>z _ _ _ g,λs' x z=>z _ _ _ g⟩
  |succ i=>obtain⟨O1,O2,p,vs,q,h1,h2,h3,h4⟩:=ih (by simpa using e);exact⟨_::O1,O2,p,vs,by rw[q]<;>rfl,h1,h2,λs' x c z=>.od r (h3 s' x c z),λs' x z=>.od r (h4 s' x z)⟩
 |ow r g ih =>
  intro i e
  cases i with
  |zero=>simp only[getElem?_cons_zero] at e;cases e
  |succ i=>obtain⟨O1,O2,p,vs,q,h1,h2,h3,h4⟩:=ih (by simpa using e);exact⟨_::O1,O2,p,vs,by rw[q]<;>rfl,h1,h2,λs' x c z=>.ow r (h3 s' x c z),λs' x z=>.ow r (h4 s' x z)⟩
 |@ob _ _ _ _ _ _ _ Oc _ r g ih =>
  intro i e
  cases i with
  |zero=>simp only[getElem?_cons_zero] at e;cases e
  |succ i =>
   obtain⟨O1,O2,p,vs,q,h1,h2,h3,h4⟩:=ih (by simpa using e)
   refine⟨Oc++O1,O2,p,vs,by rw[q,append_assoc],h1,h2,λs' x c z=>?_,λs' x z=>?_⟩
   ·rw[append_assoc];exact .ob r (h3 s' x c z)
   ·rw[append_assoc];exact .ob r (h4 s' x z)
theorem ak.pU{α:Type}[Ob K α]{a:α}(h:ak B F L H sl σ O):∀{i:Nat},sl[i]?=some (.ob n a) ->
  ∃O1 Oc O2 v,O=O1++(Oc++O2)/\σ[i]?=some (some v)/\Ob.ro K (reg B F H (jt n)) v a Oc /\
   (∀(s':Slot K)(x:Option V)(c:Own),(∀(sl:SL K)(σ:St)(O:Own),ak B F L H sl σ O->ak B F L H (s'::sl) (x::σ) (c++O))->ak B F L H (sl.set i s') (σ.set i x) (O1++(c++O2))):=by
 induction h with
 |nil=>intro i e;simp at e
 |un g ih =>
  intro i e
  cases i with
  |zero=>simp only[getElem?_cons_zero] at e;cases e
  |succ i=>obtain⟨O1,Oc,O2,v,q,h1,h2,h3⟩:=ih (by simpa using e);exact⟨O1,Oc,O2,v,q,h1,h2,λs' x c z=>.un (h3 s' x c z)⟩
 |fz r g ih =>
  intro i e
  cases i with
  |zero=>simp only[getElem?_cons_zero] at e;cases e
  |succ i=>obtain⟨O1,Oc,O2,v,q,h1,h2,h3⟩:=ih (by simpa using e);exact⟨O1,Oc,O2,v,q,h1,h2,λs' x c z=>.fz r (h3 s' x c z)⟩
 |hs r g ih =>
  intro i e
  cases i with
  |zero=>simp only[getElem?_cons_zero] at e;cases e
  |succ i=>obtain⟨O1,Oc,O2,v,q,h1,h2,h3⟩:=ih (by simpa using e);exact⟨O1,Oc,O2,v,q,h1,h2,λs' x c z=>.hs r (h3 s' x c z)⟩
 |nu r g ih =>
  intro i e
  cases i with
  |zero=>simp only[getElem?_cons_zero] at e;cases e
  |succ i=>obtain⟨O1,Oc,O2,v,q,h1,h2,h3⟩:=ih (by simpa using e);exact⟨O1,Oc,O2,v,q,h1,h2,λs' x c z=>.nu r (h3 s' x c z)⟩
 |ow r g ih =>
  intro i e
  cases i with
  |zero=>simp only[getElem?_cons_zero] at e;cases e
  |succ i=>obtain⟨O1,Oc,O2,v,q,h1,h2,h3⟩:=ih (by simpa using e);exact⟨_::O1,Oc,O2,v,by rw[q]<;>rfl,h1,h2,λs' x c z=>.ow r (h3 s' x c z)⟩
 |od r g ih =>
  intro i e
  cases i with
  |zero=>simp only[getElem?_cons_zero] at e;cases e
  |succ i=>obtain⟨O1,Oc,O2,v,q,h1,h2,h3⟩:=ih (by simpa using e);exact⟨_::O1,Oc,O2,v,by rw[q]<;>rfl,h1,h2,λs' x c z=>.od r (h3 s' x c z)⟩
 |@ob _ _ _ _ _ _ _ Oc _ r g ih =>
  intro i e
  cases i with
  |zero=>simp only[getElem?_cons_zero] at e;cases e;exact⟨[],Oc,_,_,rfl,rfl,r,λs' x c z=>z _ _ _ g⟩
  |succ i =>
   obtain⟨O1,Oc',O2,v,q,h1,h2,h3⟩:=ih (by simpa using e)
   refine⟨Oc++O1,Oc',O2,v,by rw[q,append_assoc],h1,h2,λs' x c z=>?_⟩
   rw[append_assoc];exact .ob r (h3 s' x c z)
end
end
section
variable{K:PySem.W.Frag}{B:Bs}{F H F' H' L L':Hp}{O O' O1 O2:Own}{sl:SL K}{σ:St}{p:Addr}{o o':HO}
theorem W7{α:Type}{a b:List α}{x:α}:(a++x::b).Nodup↔(a++b).Nodup/\x∉a++b:=by
 have q:(a++x::b).Perm (x::(a++b)):=List.perm_middle
 rw[q.nodup_iff,nodup_cons]
 exact⟨λh=>⟨h.2,h.1⟩,λh=>⟨h.2,h.1⟩⟩
theorem Ok.add(k:Ok B F (O1++O2) H)(h:H p=none):Ok B F (O1++(p,o)::O2) (upd H p o):=by
 refine⟨λb u e=>?_,k.h0.put (k.h0.free h) o,k.fa,λx hx=>?_,?_⟩
 ·rw[zP (zV (k.fh b u e) h)];exact k.fh b u e
 ·have hx':x=(p,o)\/x∈O1++O2:=by
   rcases mem_append.mp hx with z|z
   ·exact .inr (mem_append.mpr (.inl z))
   ·rcases mem_cons.mp z with z|z
    ·exact .inl z
    ·exact .inr (mem_append.mpr (.inr z))
  rcases hx' with rfl|hx'
  ·exact⟨k.fh.free h,k.h0.free h,zW⟩
  ·obtain⟨a1,a2,a3⟩:=k.fo x hx'
   exact⟨a1,a2,by rw[zP (zV a3 h)];exact a3⟩
 ·rw[map_append,map_cons,W7,<-map_append]
  refine⟨k.nd,λz=>?_⟩
  obtain⟨x,hx,e⟩:=mem_map.mp z
  obtain⟨_,_,a3⟩:=k.fo x hx
  have e':x.1=p:=e
  rw[e',h] at a3
  cases a3
theorem Ok.one(k:Ok B F (O1++(p,o)::O2) H):F p=none/\B.H0 p=none/\H p=some o:=k.fo (p,o) (mem_append.mpr (.inr mem_cons_self))
theorem Ok.ndp(k:Ok B F (O1++(p,o)::O2) H):∀x∈O1++O2,x.1≠p:=λx hx e=>by
 have q:=k.nd
 rw[map_append,map_cons,W7,<-map_append] at q
 exact q.2 (mem_map.mpr ⟨x,hx,e⟩)
theorem Ok.drop(k:Ok B F (O1++(p,o)::O2) H):Ok B F (O1++O2) H:=by
 refine⟨k.fh,k.h0,k.fa,λx hx=>k.fo x ?_,?_⟩
 ·rcases mem_append.mp hx with z|z
  ·exact mem_append.mpr (.inl z)
  ·exact mem_append.mpr (.inr (mem_cons_of_mem _ z))
 ·have q:=k.nd
  rw[map_append,map_cons,W7,<-map_append] at q
  exact q.1
theorem Ok.chg(k:Ok B F (O1++(p,o)::O2) H)(o':HO):Ok B F (O1++(p,o')::O2) (upd H p o'):=by
 obtain⟨a1,a2,a3⟩:=k.one
 refine⟨k.fh.put a1 o',k.h0.put a2 o',k.fa,λx hx=>?_,?_⟩
 ·have hx':x=(p,o')\/x∈O1++O2:=by
   rcases mem_append.mp hx with z|z
   ·exact .inr (mem_append.mpr (.inl z))
   ·rcases mem_cons.mp z with z|z
    ·exact .inl z
    ·exact .inr (mem_append.mpr (.inr z))
  rcases hx' with rfl|hx'
  ·exact⟨a1,a2,zW⟩
  ·obtain⟨b1,b2,b3⟩:=k.drop.fo x hx'
   exact⟨b1,b2,by rw[zP (k.ndp x hx')];exact b3⟩
 ·have q:=k.nd
  rw[map_append,map_cons] at q ⊢
  exact q
theorem Ok.freeze(k:Ok B F (O1++(p,o)::O2) H):Ok B (upd F p o) (O1++O2) H:=by
 obtain⟨a1,a2,a3⟩:=k.one
 refine⟨λb u e=>?_,k.h0,λb u e=>?_,λx hx=>?_,k.drop.nd⟩
 ·by_cases q:b=p
  ·subst q;rw[zW] at e;cases e;exact a3
  ·rw[zP q] at e;exact k.fh b u e
 ·by_cases q:b=p
  ·subst q;exact .inr a2
  ·rw[zP q] at e;exact k.fa b u e
 ·obtain⟨b1,b2,b3⟩:=k.drop.fo x hx
  exact⟨by rw[zP (k.ndp x hx)];exact b1,b2,b3⟩
theorem Ut(h:H p=none):Same (lo F (O1++O2) H) (lo F (O1++(p,o)::O2) (upd H p o)):=λb u e=>by
 unfold lo at e ⊢
 by_cases q:b=p
 ·subst q
  split at e
  ·cases e
  ·rw[h] at e;cases e
 ·rw[zP q]
  have z:((O1++(p,o)::O2).any λx=>x.1==b)=((O1++O2).any λx=>x.1==b):=by
   rw[any_append,any_append,any_cons]
   have:(p==b)=false:=by simp;exactλe=>q e.symm
   simp[this]
  rw[z]
  exact e
theorem zUn:Same (lo F (O1++(p,o)::O2) H) (lo F (O1++(p,o')::O2) (upd H p o')):=λb u e=>by
 unfold lo at e ⊢
 by_cases q:b=p
 ·subst q
  rw[any_append,any_cons] at e
  simp at e
 ·rw[zP q]
  have z:((O1++(p,o)::O2).any λx=>x.1==b)=((O1++(p,o')::O2).any λx=>x.1==b):=by
   rw[any_append,any_append,any_cons,any_cons]
  rw[<-z]
  exact e
theorem lB:Same (lo F (O1++(p,o)::O2) H) (lo F (O1++O2) H):=λb u e=>by
 unfold lo at e ⊢
 split at e
 ·cases e
 ·rename_i h
  rw[if_neg]
  ·exact e
  ·rw[any_append,any_cons] at h
   rw[any_append]
   simp at h ⊢
   exact⟨h.1,h.2.1,h.2.2.2⟩
theorem jR:Same (lo F (O1++(p,o)::O2) H) (lo (upd F p o) (O1++O2) H):=λb u e=>by
 unfold lo at e ⊢
 split at e
 ·cases e
 ·rename_i h
  rw[any_append,any_cons] at h
  simp at h
  have q:b≠p:=λz=>h.2.2.1 z.symm
  rw[zP q,if_neg]
  ·exact e
  ·rw[any_append]
   simp
   exact⟨h.1,h.2.1,h.2.2.2⟩
theorem Ok.called(k:Ok B F O H)(s:Same H H'):bh B F H O (ext F H H') H':=by
 have e1:∀b o,ext F H H' b=some o->F b=some o\/H b=none:=λb o h=>by
  unfold ext at h
  cases q:H b with
  |none=>exact .inr rfl
  |some u=>rw[q] at h;exact .inl h
 refine⟨λb o h=>?_,s,⟨λb o h=>?_,k.h0.trans s,λb o h=>?_,λx hx=>?_,k.nd⟩,λb h1 h2=>?_⟩
 ·unfold ext
  rw[k.fh b o h]
  exact h
 ·unfold ext at h
  cases q:H b with
  |none=>rw[q] at h;exact h
  |some u=>rw[q] at h;rw[<-k.fh b o h];exact(s b u q).trans q.symm
 ·rcases e1 b o h with z|z
  ·exact k.fa b o z
  ·exact .inr (k.h0.free z)
 ·obtain⟨a1,a2,a3⟩:=k.fo x hx
  refine⟨?_,a2,s _ _ a3⟩
  unfold ext
  rw[a3]
  exact a1
 ·unfold ext
  cases q:H b with
  |none=>exact absurd q h2
  |some u=>exact h1
theorem QF(h0:Same B.H0 H)(s:Same H H'):Same (dif H' H) (dif (ext F H H') B.H0):=λb o h=>by
 unfold dif at h
 cases q:H b with
 |none =>
  rw[q] at h
  rw[uO (h0.free q)]
  unfold ext
  rw[q]
  exact h
 |some u=>rw[q] at h;cases h
variable{md W8 md2:Md}{α β γ:Type}[Rp K α][Rp K β][Rp K γ]{t t1 t2:TE}{m:Option α}{m1:Option β}{m2:Option γ}
def Ex(B:Bs)(sl:SL K)(md:Md)(t:TE){α:Type}[Rp K α](m:Option α):Prop :=
 ∀a,m=some a->∀(F:Hp)(O:Own)(H:Hp)(σ:St)(Q:VK),At B sl F O H σ->(∀(v:V)(F' H':Hp),bh B F H O F' H'->rp K (reg B F' H' md) v a->Q v H')->t σ H Q
def Et(B:Bs)(sl:SL K)(t:TT)(m:Option Bool):Prop :=
 ∀a,m=some a->∀(F:Hp)(O:Own)(H:Hp)(σ:St)(Q:Bool->Hp->Prop),At B sl F O H σ->(∀(F' H':Hp),bh B F H O F' H'->Q a H')->t σ H Q
inductive Ar(R:Hp):SL K->List V->Prop
 |nil:Ar R [] []
 |cons {n:Bool} {α:Type} [Rp K α] {a:α} {v:V} {sl:SL K} {vs:List V}:rp K R v a->Ar R sl vs->Ar R (.fz n a::sl) (v::vs)
def Ea(B:Bs)(sl:SL K)(md:Md)(t:TA){A:Type}(as:A->SL K)(m:Option A):Prop :=
 ∀a,m=some a->∀(F:Hp)(O:Own)(H:Hp)(σ:St)(Q:List V->Hp->Prop),At B sl F O H σ->(∀(vs:List V)(F' H':Hp),bh B F H O F' H'->Ar (reg B F' H' md) (as a) vs->Q vs H')->t σ H Q
theorem Ex.sc[Sc K α](h:Ex B sl md t m):Ex B sl W8 t m:=λa ha F O H σ Q s k=>h a ha F O H σ Q s λv F' H' g r=>k v F' H' g (QC r)
theorem Nm[Nn K α](h:Ex B sl md t m):Ex B sl md t (m.bind λa=>some (some a)):=λa ha F O H σ Q s k=>by
 cases m with
 |none=>cases ha
 |some a' =>
  cases(show some (some a')=some a from ha)
  exact h a' rfl F O H σ Q s λv F' H' g r=>k v F' H' g ⟨Nn.nn (K:=K) r,r⟩
theorem yO{n:Bool}{a:α}(i:Nat)(hs:sl[i]?=some (.fz n a)):Ex B sl (jt n) (dh i) (some a):=λa' ha F O H σ Q s k=>by
 cases ha
 obtain⟨v,h1,h2⟩:=s.2.nO hs
 exact⟨v,h1,k v F H (.refl s.1) h2⟩
theorem zD[Sc K α]{n:Bool}{a:α}(i:Nat)(hs:sl[i]?=some (.fz n a)):Ex B sl md (dh i) (some a):=(yO i hs).sc
theorem lo_le:Same (lo F O H) H:=λb o h=>by
 unfold lo at h
 split at h
 ·cases h
 ·exact h
theorem BX(k:Ok B F O H)(n:Bool):Same (reg B F H (jt n)) H:=match n with
 |true=>aP.trans k.fh
 |false=>k.fh
theorem QG{a:α}(i:Nat)(hs:sl[i]?=some (.hs a)):Ex B sl .hp (dh i) (some a):=λa' ha F O H σ Q s k=>by
 cases ha
 obtain⟨v,h1,h2⟩:=s.2.Ht hs
 exact⟨v,h1,k v F H (.refl s.1) h2⟩
theorem zE{n:Bool}{a:α}(i:Nat)(hs:sl[i]?=some (.fz n a)):Ex B sl .hp (dh i) (some a):=λa' ha F O H σ Q s k=>by
 cases ha
 obtain⟨v,h1,h2⟩:=s.2.nO hs
 exact⟨v,h1,k v F H (.refl s.1) (Rp.mono (BX s.1 n) h2)⟩
theorem wV{n:Bool}{xs:List α}(i:Nat)(hs:sl[i]?=some (.ow n xs)):Ex B sl .hp (dh i) (some xs):=λa' ha F O H σ Q s k=>by
 cases ha
 obtain⟨O1,O2,p,vs,rfl,h1,h2,_⟩:=s.2.rW hs
 exact⟨_,h1,k _ F H (.refl s.1) ⟨p,vs,rfl,s.1.one.2.2,h2.imp λ_ _=>Rp.mono (BX s.1 n)⟩⟩
theorem J3[Sc K α](a:α):Ex B sl md (tC (Sc.val K a)) (some a):=λa' ha F O H σ Q s k=>by cases ha;exact k _ F H (.refl s.1) (Sc.is.mpr rfl)
theorem zJ(i:Int):Ex B sl md (tC (.int i)) (some i):=J3 (K:=K) i
theorem vA(i:Bool):Ex B sl md (tC (.bl i)) (some i):=J3 (K:=K) i
theorem Hv(i:Str):Ex B sl md (tC (.str i)) (some i):=J3 (K:=K) i
theorem QH:Ex B sl md (tC .non) (some (none:Option α)):=λa' ha F O H σ Q s k=>by cases ha;exact k _ F H (.refl s.1) rfl
theorem m6{f:β->γ->Option α}(h:(m1.bind λa=>m2.bind λb=>f a b)=some c):∃a b,m1=some a/\m2=some b/\f a b=some c:=by
 cases m1 with
 |none=>cases h
 |some a =>
  cases m2 with
  |none=>cases h
  |some b=>exact⟨a,b,rfl,rfl,h⟩
theorem tV{f:β->γ->Option α}[Sc K α](hr:∀(a:β) (b:γ) (c:α) (v w:V) (H:Hp) (Q:VK),f a b=some c->rp K H v a->rp K H w b->Q (Sc.val K c) H->r v w H Q)(h1:Ex B sl .hp t1 m1)(h2:Ex B sl .hp t2 m2):Ex B sl md (dN r t1 t2) (m1.bind λa=>m2.bind λb=>f a b):=λc hc F O H σ Q s k=>by
 obtain⟨a,b,ha,hb,hf⟩:=m6 hc
 refine h1 a ha F O H σ _ s λv F' H' g r1=>?_
 refine h2 b hb F' O H' σ _ (s.grow g) λw F2 H2 g2 r2=>?_
 exact hr a b c v w H2 Q hf (Rp.mono g2.hh r1) r2 (k _ F2 H2 (g.trans g2) (Sc.is.mpr rfl))
theorem zU(h:Ex B sl md t m'):Et B sl (yt t) m':=λc hc F O H σ Q s k=>h c hc F O H σ _ s λv F' H' g r=>⟨c,r,k F' H' g⟩
theorem bK(h:Ex B sl md t m'):Et B sl (tB t) m':=λc hc F O H σ Q s k=>h c hc F O H σ _ s λv F' H' g r=>⟨c,r,k F' H' g⟩
theorem wY{t:TT}{n:Option Bool}(h:Et B sl t n):Et B sl (Pn t) (n.bind λc=>some !c):=λc hc F O H σ Q s k=>by
 cases n with
 |none=>cases hc
 |some c' =>
  cases(show some (!c')=some c from hc)
  exact h c' rfl F O H σ _ s λF' H' g=>k F' H' g
theorem zUp(h:Ex B sl .hp t n):Ex B sl md (G_ t) (n.bind λc=>some !c):=λc hc F O H σ Q s k=>by
 cases n with
 |none=>cases hc
 |some c' =>
  cases(show some (!c')=some c from hc)
  refine h c' rfl F O H σ _ s λv F' H' g r=>?_
  cases r
  exact⟨c',rfl,k _ F' H' g rfl⟩
theorem Np{t u:TT}{n n':Option Bool}(h:Et B sl t n)(h':Et B sl u n'):Et B sl (Pk t u) (n.bind λc=>if c=true then n' else some false):=λc hc F O H σ Q s k=>by
 cases n with
 |none=>cases hc
 |some c' =>
  refine h c' rfl F O H σ _ s λF' H' g=>?_
  cases c' with
  |true=>exact lJ (h' c (by simpa using hc) F' O H' σ _ (s.grow g) λF2 H2 g2=>k F2 H2 (g.trans g2))
  |false=>cases(show some false=some c from by simpa using hc);exact lH (k F' H' g)
theorem pW{t u:TT}{n n':Option Bool}(h:Et B sl t n)(h':Et B sl u n'):Et B sl (tOr t u) (n.bind λc=>if c=true then some true else n'):=λc hc F O H σ Q s k=>by
 cases n with
 |none=>cases hc
 |some c' =>
  refine h c' rfl F O H σ _ s λF' H' g=>?_
  cases c' with
  |true=>cases(show some true=some c from by simpa using hc);exact lJ (k F' H' g)
  |false=>exact lH (h' c (by simpa using hc) F' O H' σ _ (s.grow g) λF2 H2 g2=>k F2 H2 (g.trans g2))
theorem Nq(h:Ex B sl .hp t1 n)(h':Ex B sl .hp t2 n'):Ex B sl md (G9 t1 t2) (n.bind λc=>if c=true then n' else some false):=λc hc F O H σ Q s k=>by
 cases n with
 |none=>cases hc
 |some c' =>
  refine h c' rfl F O H σ _ s λv F' H' g r=>?_
  cases r
  refine⟨c',rfl,?_⟩
  cases c' with
  |true=>exact lJ (h' c (by simpa using hc) F' O H' σ _ (s.grow g) λv F2 H2 g2 r2=>k v F2 H2 (g.trans g2) (QC r2))
  |false=>cases(show some false=some c from by simpa using hc);exact lH (k _ F' H' g rfl)
theorem QJ(h:Ex B sl .hp t1 n)(h':Ex B sl .hp t2 n'):Ex B sl md (Pq t1 t2) (n.bind λc=>if c=true then some true else n'):=λc hc F O H σ Q s k=>by
 cases n with
 |none=>cases hc
 |some c' =>
  refine h c' rfl F O H σ _ s λv F' H' g r=>?_
  cases r
  refine⟨c',rfl,?_⟩
  cases c' with
  |true=>cases(show some true=some c from by simpa using hc);exact lJ (k _ F' H' g rfl)
  |false=>exact lH (h' c (by simpa using hc) F' O H' σ _ (s.grow g) λv F2 H2 g2 r2=>k v F2 H2 (g.trans g2) (QC r2))
theorem zUq{t:TT}{n:Option Bool}{m m':Option α}(h:Et B sl t n)(h1:Ex B sl md t1 m)(h2:Ex B sl md t2 m'):Ex B sl md (tIf t t1 t2) (n.bind λc=>if c=true then m else m'):=λc hc F O H σ Q s k=>by
 cases n with
 |none=>cases hc
 |some c' =>
  refine h c' rfl F O H σ _ s λF' H' g=>?_
  cases c' with
  |true=>exact lJ (h1 c (by simpa using hc) F' O H' σ _ (s.grow g) λv F2 H2 g2 r2=>k v F2 H2 (g.trans g2) r2)
  |false=>exact lH (h2 c (by simpa using hc) F' O H' σ _ (s.grow g) λv F2 H2 g2 r2=>k v F2 H2 (g.trans g2) r2)
theorem zO:Ea B sl md bF (λ_:Unit=>[]) (some ()):=λa ha F O H σ Q s k=>k [] F H (.refl s.1) .nil
theorem zG{A:Type}{as:A->SL K}{ma:Option A}(h1:Ex B sl md t m)(h2:Ea B sl md tr as ma):Ea B sl md (xG t tr) (λx:α×A=>.fz false x.1::as x.2) (m.bind λa=>ma.bind λb=>some (a,b)):=λc hc F O H σ Q s k=>by
 cases m with
 |none=>cases hc
 |some a =>
  cases ma with
  |none=>cases hc
  |some b =>
   cases(show some (a,b)=some c from hc)
   refine h1 a rfl F O H σ _ s λv F' H' g r1=>?_
   refine h2 b rfl F' O H' σ _ (s.grow g) λvs F2 H2 g2 r2=>?_
   exact k (v::vs) F2 H2 (g.trans g2) (.cons (Rp.mono (wE g2 md) r1) r2)
theorem QK(k:Ok B F O H)(h:H p=none)(md:Md):reg B (upd F p o) (upd H p o) md p=some o:=match md with
 |.nw=>by show dif (upd F p o) B.H0 p=_;rw[uO (k.h0.free h)];exact zW
 |.fz=>zW
 |.hp=>zW
def cap:Nat:=100000
theorem Hw(h:n<cap):n<sizeLine:=Nat.lt_trans h (by decide)
theorem zUy(h:n<=cap):n<=sizeLine:=Nat.le_trans h (by decide)
def El(B:Bs)(sl:SL K)(md:Md)(t:TA){α:Type}[Rp K α](m:Option (List α)):Prop :=
 ∀a,m=some a->∀(F:Hp)(O:Own)(H:Hp)(σ:St)(Q:List V->Hp->Prop),At B sl F O H σ->(∀(vs:List V)(F' H':Hp),bh B F H O F' H'->A2 (rp K (reg B F' H' md)) vs a->Q vs H')->t σ H Q
theorem J4:El B sl md bF (some ([]:List α)):=λa ha F O H σ Q s k=>by cases ha;exact k [] F H (.refl s.1) trivial
theorem wM(h1:Ex B sl md t m)(h2:El B sl md tr ma):El B sl md (xG t tr) (m.bind λa=>ma.bind λb=>some (a::b)):=λc hc F O H σ Q s k=>by
 cases m with
 |none=>cases hc
 |some a =>
  cases ma with
  |none=>cases hc
  |some b =>
   cases(show some (a::b)=some c from hc)
   refine h1 a rfl F O H σ _ s λv F' H' g r1=>?_
   refine h2 b rfl F' O H' σ _ (s.grow g) λvs F2 H2 g2 r2=>?_
   exact k (v::vs) F2 H2 (g.trans g2) ⟨Rp.mono (wE g2 md) r1,r2⟩
def Eo(B:Bs)(sl:SL K)(md:Md)(t:TE){α:Type}[Rp K α](m:Option (List α)):Prop :=
 ∀a,m=some a->∀(F:Hp)(O:Own)(H:Hp)(σ:St)(Q:VK),At B sl F O H σ->(∀(p:Addr)(vs:List V)(F' H':Hp),bh B F H O F' H'->H' p=none->A2 (rp K (reg B F' H' md)) vs a->Q (.ref p) (upd H' p (.lst vs)))->t σ H Q
theorem Eo.ex{m:Option (List α)}(h:Eo B sl md t m):Ex B sl md t m:=λa ha F O H σ Q s k=>h a ha F O H σ Q s λp vs F' H' g hp r=>by
 have g2:=bh.new g.ok hp (.lst vs)
 exact k _ _ _ (g.trans g2) ⟨p,vs,rfl,QK g.ok hp md,r.imp λ_ _=>Rp.mono (wE g2 md)⟩
theorem v8:Eo B sl md (C_ bF) (some ([]:List α)):=λa ha F O H σ Q s k=>by
 cases ha
 exact⟨Nat.zero_le _,λp hp=>k p [] F H (.refl s.1) hp trivial⟩
theorem J5{t:TA}{ma:Option (List α)}(h:El B sl md t ma)(hl:∀a,ma=some a->a.length<=cap):Eo B sl md (C_ t) ma:=λa ha F O H σ Q s k =>
 h a ha F O H σ _ s λvs F' H' g r=>⟨by rw[r.len];exact zUy (hl a ha),λp hp=>k p vs F' H' g hp r⟩
theorem QL(h1:Ex B sl md t1 m1)(h2:Ex B sl md t2 m2):Ex B sl md (tD (xG t1 (xG t2 bF))) (m1.bind λa=>m2.bind λb=>some (a,b)):=λc hc F O H σ Q s kk=>by
 obtain⟨a,b,ha,hb,hf⟩:=m6 hc
 cases hf
 refine h1 a ha F O H σ _ s λv F' H' g r1=>?_
 refine h2 b hb F' O H' σ _ (s.grow g) λw F2 H2 g2 r2=>?_
 refine⟨by show 2<=sizeLine;decide,λp hp=>?_⟩
 have g3:=bh.new g2.ok hp (.tup [v,w])
 exact kk _ _ _ (g.trans (g2.trans g3)) ⟨p,v,w,rfl,QK g2.ok hp md,Rp.mono (wE (g2.trans g3) md) r1,Rp.mono (wE g3 md) r2⟩
def bV(K:PySem.W.Frag)(al:Bool){A β:Type}[Rp K β](as:A->SL K)(f:A->Option β):Sp:=λvs H Q _ =>
 ∃a b Fa,Same Fa H/\f a=some b/\Ar Fa (as a) vs/\∀v H',Same H H'->rp K (if al=true then ext Fa H H' else dif H' H) v b->Q v H'
theorem zN{A:Type}{as:A->SL K}{f:A->Option β}{ma:Option A}(h:Ea B sl .hp ta as ma):Ex B sl md (JC (bV K false as f) [] E0 ta) (ma.bind f):=λc hc F O H σ Q s kk=>by
 cases ma with
 |none=>cases hc
 |some a =>
  refine h a rfl F O H σ _ s λvs F' H' g r=>?_
  rw[append_nil]
  refine⟨a,c,H',.refl _,hc,r,λv H2 s2 r2=>?_⟩
  have g2:=g.ok.called s2
  refine kk v _ H2 (g.trans g2) ?_
  have r3:=Rp.mono (QF (F:=F') g.ok.h0 s2) r2
  exact match md with
  |.nw=>r3
  |.fz=>Rp.mono aP r3
  |.hp=>Rp.mono (aP.trans g2.ok.fh) r3
end
def push{α:Type}(xs:List α)(a:α):Option (List α):=if xs.length<cap then some (xs++[a]) else none
def rY{α:Type}(xs:List α)(i:Int)(a:α):Option (List α):=(qK xs.length i).bind λj=>some (xs.set j a)
def wF(n:Int):Option LI:=if -(2^62)<=n/\n<2^62 then some ((List.range n.toNat).map Int.ofNat) else none
def xA{S α:Type}(step:S->α->Option S):List α->S->Option S
 |[],s=>some s
 |x::xs,s=>(step s x).bind λs'=>xA step xs s'
inductive Out(S β:Type)|nx (s:S)|rt (b:β)
def vK{S α β:Type}(step:S->α->Option (Out S β)):List α->S->Option (Out S β)
 |[],s=>some (.nx s)
 |x::xs,s=>(step s x).bind λo=>match o with
  |.nx s'=>vK step xs s'
  |.rt b=>some (.rt b)
def Du{S:Type}(c:S->Option Bool)(body:S->Option S):Nat->S->Option S
 |0,_=>none
 |k+1,s=>(c s).bind λb=>if b=true then(body s).bind λs'=>Du c body k s' else some s
def wB{α β:Type}(c:α->Option Bool)(f:α->Option β):List α->Option (List β)
 |[]=>some []
 |x::xs=>(c x).bind λb=>if b=true then(f x).bind λy=>(wB c f xs).bind λys=>some (y::ys) else wB c f xs
def Out.els{S β:Type}(o:Out S β)(f:S->Option β):Option β:=match o with
 |.nx s=>f s
 |.rt b=>some b
def Out.aJ{S S' β:Type}(o:Out S β)(f:S->Option (Out S' β)):Option (Out S' β):=match o with
 |.nx s=>f s
 |.rt b=>some (.rt b)
theorem W9{S α:Type}(step:S->α->Option S):∀(xs ys:List α)(s:S),xA step (xs++ys) s=(xA step xs s).bind λs'=>xA step ys s'
 |[],ys,s=>rfl
 |x::xs,ys,s=>by
  show(step s x).bind _=((step s x).bind _).bind _
  cases step s x with
  |none=>rfl
  |some s'=>exact W9 step xs ys s'
theorem zNk{S α:Type}{step:S->α->Option S}{xs:List α}{s s1:S}(h:xA step xs s=some s1){x:α}(hx:xs[i]?=some x):∃a b,xA step (xs.take i) s=some a/\step a x=some b/\xA step (xs.take (i+1)) s=some b:=by
 have e:xs=xs.take (i+1)++xs.drop (i+1):=(take_append_drop _ _).symm
 have e2:xs.take (i+1)=xs.take i++[x]:=by rw[take_add_one,hx]<;>rfl
 rw[e,W9] at h
 cases q:xA step (xs.take (i+1)) s with
 |none=>rw[q] at h;cases h
 |some b =>
  have q':=q
  rw[e2,W9] at q'
  cases z:xA step (xs.take i) s with
  |none=>rw[z] at q';cases q'
  |some a =>
   rw[z] at q'
   have q2:(step a x).bind (λs'=>some s')=some b:=q'
   refine⟨a,b,rfl,?_,rfl⟩
   cases w:step a x with
   |none=>rw[w] at q2;cases q2
   |some c=>rw[w] at q2;exact q2
section
variable{K:PySem.W.Frag}{B:Bs}{F H F' H' G:Hp}{O:Own}{sl sl2:SL K}{σ:St}{md:Md}{α β γ:Type}[Rp K α][Rp K β][Rp K γ]{t u v:TS}{te:TE}{m:Option α}{S S':Type}{al:Bool}
def Sg(B:Bs)(G:Hp)(sl:SL K)(σ:St)(H:Hp):Prop:=∃F O,Same G F/\At B sl F O H σ
def Rt(K:PySem.W.Frag){β:Type}[Rp K β](B:Bs)(al:Bool)(b:β)(v:V)(H':Hp):Prop:=Same B.H0 H'/\rp K (if al=true then ext B.Fa B.H0 H' else dif H' B.H0) v b
def Sn(B:Bs)(sl:SL K)(t:TS){S:Type}(L:S->SL K)(m:Option S):Prop :=
 ∀a,m=some a->∀(G:Hp)(D:Ends)(σ:St)(H:Hp),Sg B G sl σ H->(∀σ' H',Sg B G (L a) σ' H'->D.nx σ' H')->t D σ H
def SB(B:Bs)(sl:SL K)(t:TS)(al:Bool){β:Type}[Rp K β](m:Option β):Prop :=
 ∀b,m=some b->∀(G:Hp)(D:Ends)(σ:St)(H:Hp),Sg B G sl σ H->(∀v H',Rt K B al b v H'->D.rt v H')->t D σ H
def XE(B:Bs)(G:Hp)(al:Bool)(L:S->SL K)(D:Ends)(o:Out S β):Prop:=match o with
 |.nx s=>∀σ' H',Sg B G (L s) σ' H'->D.nx σ' H'
 |.rt b=>∀v H',Rt K B al b v H'->D.rt v H'
def Sx(B:Bs)(sl:SL K)(t:TS)(al:Bool){S β:Type}[Rp K β](L:S->SL K)(m:Option (Out S β)):Prop :=
 ∀o,m=some o->∀(G:Hp)(D:Ends)(σ:St)(H:Hp),Sg B G sl σ H->XE B G al L D o->t D σ H
theorem SB.of(h:SB B sl t al m)(q:m=m'):SB B sl t al m':=q▸h
theorem Sn.of(h:Sn B sl t L m)(q:m=m'):Sn B sl t L m':=q▸h
inductive Le:SL K->SL K->Prop
 |nil:Le [] []
 |eq {s:Slot K} {a b:SL K}:Le a b->Le (s::a) (s::b)
 |un {s:Slot K} {a b:SL K}:Le a b->Le (s::a) (.un::b)
 |fr {n:Bool} {α:Type} [Rp K α] {xs:List α} {a b:SL K}:Le a b->Le (.ow n xs::a) (.fz n xs::b)
 |old {α:Type} [Rp K α] {x:α} {a b:SL K}:Le a b->Le (.fz true x::a) (.fz false x::b)
 |fo {n:Bool} {α:Type} [Ob K α] {x:α} {a b:SL K}:Le a b->Le (.ob n x::a) (@Slot.fz K n (Ob.β K α) (Ob.lK) (Ob.val x)::b)
theorem Ok.sub(k:Ok B F O H)(s:Sublist O' O):Ok B F O' H:=⟨k.fh,k.h0,k.fa,λx hx=>k.fo x (s.subset hx),(s.map _).nodup k.nd⟩
theorem W_(s:Sublist O' O):Same (lo F O H) (lo F O' H):=λb u e=>by
 unfold lo at e ⊢
 split at e
 ·cases e
 ·rename_i h
  rw[if_neg]
  ·exact e
  ·intro z
   apply h
   rw[Bool.or_eq_true] at z ⊢
   rcases z with z|z
   ·exact .inl z
   ·refine .inr ?_
    obtain⟨x,hx,q⟩:=any_eq_true.mp z
    exact any_eq_true.mpr ⟨x,s.subset hx,q⟩
theorem Ok.rZ:∀(Oc:Own){F:Hp}{O:Own},Ok B F (P++(Oc++O)) H->∃F2,Same F F2/\Ok B F2 (P++O) H/\Same (lo F (P++(Oc++O)) H) (lo F2 (P++O) H)/\∀x∈Oc,F2 x.1=some x.2/\B.H0 x.1=none
 |[],F,O,k=>⟨F,.refl _,k,.refl _,λx hx=>(by cases hx)⟩
 | (p,o)::Oc,F,O,k=>by
  obtain⟨a1,a2,a3⟩:=k.one
  have sf:Same F (upd F p o):=aO a1 _
  obtain⟨F2,s2,k2,l2,m2⟩:=Ok.rZ Oc (k.freeze)
  refine⟨F2,sf.trans s2,k2,jR.trans l2,λx hx=>?_⟩
  rcases mem_cons.mp hx with e|hx
  ·subst e;exact⟨s2 _ _ zW,a2⟩
  ·exact m2 x hx
theorem ak.le(h:Le sl sl2):∀{F:Hp}{σ:St}{O:Own},Ok B F (P++O) H->ak B F (lo F (P++O) H) H sl σ O->∃F' O',Same F F'/\Ok B F' (P++O') H/\Same (lo F (P++O) H) (lo F' (P++O') H)/\ak B F' (lo F' (P++O') H) H sl2 σ O':=by
 induction h generalizing P with
 |nil=>intro F σ O k h;cases h;exact⟨F,[],.refl _,k,.refl _,.nil⟩
 |eq _ ih =>
  intro F σ O k h
  cases h with
  |un h=>obtain⟨F',O',a,b,c,d⟩:=ih k h;exact⟨F',O',a,b,c,.un d⟩
  |fz r h=>obtain⟨F',O',a,b,c,d⟩:=ih k h;exact⟨F',O',a,b,c,.fz (Rp.mono (wL _ a) r) d⟩
  |hs r h=>obtain⟨F',O',a,b,c,d⟩:=ih k h;exact⟨F',O',a,b,c,.hs r d⟩
  |nu r h=>obtain⟨F',O',a,b,c,d⟩:=ih k h;exact⟨F',O',a,b,c,.nu (Rp.mono (wK c) r) d⟩
  |@ow _ _ _ _ _ _ O p vs r h =>
   have e:P++(p,HO.lst vs)::O=(P++[(p,HO.lst vs)])++O:=by simp
   rw[e] at k h
   obtain⟨F',O',a,b,c,d⟩:=ih k h
   have e':(P++[(p,HO.lst vs)])++O'=P++(p,HO.lst vs)::O':=by simp
   rw[e'] at b c d
   rw[<-e] at c
   exact⟨F',_::O',a,b,c,.ow (r.imp λ_ _=>Rp.mono (wL _ a)) d⟩
  |@od _ _ _ _ _ O p vs r h =>
   have e:P++(p,HO.dK vs)::O=(P++[(p,HO.dK vs)])++O:=by simp
   rw[e] at k h
   obtain⟨F',O',a,b,c,d⟩:=ih k h
   have e':(P++[(p,HO.dK vs)])++O'=P++(p,HO.dK vs)::O':=by simp
   rw[e'] at b c d
   rw[<-e] at c
   exact⟨F',_::O',a,b,c,.od (r.imp λ_ _ z=>⟨z.1,Rp.mono a z.2⟩) d⟩
  |@ob _ _ _ _ _ _ O Oc v r h =>
   rw[<-append_assoc] at k h
   obtain⟨F',O',a,b,c,d⟩:=ih k h
   rw[append_assoc] at b c d
   rw[append_assoc] at c
   exact⟨F',Oc++O',a,b,c,.ob (Ob.mono (wL _ a) r) d⟩
 |un _ ih =>
  intro F σ O k h
  cases h with
  |un h=>obtain⟨F',O',a,b,c,d⟩:=ih k h;exact⟨F',O',a,b,c,.un d⟩
  |fz r h=>obtain⟨F',O',a,b,c,d⟩:=ih k h;exact⟨F',O',a,b,c,.un d⟩
  |hs r h=>obtain⟨F',O',a,b,c,d⟩:=ih k h;exact⟨F',O',a,b,c,.un d⟩
  |nu r h=>obtain⟨F',O',a,b,c,d⟩:=ih k h;exact⟨F',O',a,b,c,.un d⟩
  |ow r h=>obtain⟨F',O',a,b,c,d⟩:=ih k.drop (h.mono (.refl _) lB (.refl _));exact⟨F',O',a,b,lB.trans c,.un d⟩
  |od r h=>obtain⟨F',O',a,b,c,d⟩:=ih k.drop (h.mono (.refl _) lB (.refl _));exact⟨F',O',a,b,lB.trans c,.un d⟩
  |@ob _ _ _ _ _ _ O Oc v r h =>
   have sb:Sublist (P++O) (P++(Oc++O)):=Sublist.append (Sublist.refl P) (sublist_append_right Oc O)
   obtain⟨F',O',a,b,c,d⟩:=ih (k.sub sb) (h.mono (.refl _) (W_ sb) (.refl _))
   exact⟨F',O',a,b,(W_ sb).trans c,.un d⟩
 |@fr n _ _ _ _ _ _ ih =>
  intro F σ O k h
  cases h with
  |@ow _ _ _ _ _ _ O p vs r h =>
   obtain⟨a1,a2,a3⟩:=k.one
   have sf:Same F (upd F p (.lst vs)):=aO a1 _
   obtain⟨F',O',a,b,c,d⟩:=ih k.freeze (h.mono sf jR (.refl _))
   refine⟨F',O',sf.trans a,b,jR.trans c,.fz ⟨p,vs,rfl,?_,r.imp λ_ _=>Rp.mono (wL _ (sf.trans a))⟩ d⟩
   cases n with
   |true=>exact(uO a2).trans (a _ _ zW)
   |false=>exact a _ _ zW
 |old _ ih =>
  intro F σ O k h
  cases h with
  |fz r h=>obtain⟨F',O',a,b,c,d⟩:=ih k h;exact⟨F',O',a,b,c,.fz (Rp.mono (aP.trans a) r) d⟩
 |@fo n _ _ _ _ _ _ ih =>
  intro F σ O k h
  cases h with
  |@ob _ _ _ _ _ _ O Oc v r h =>
   obtain⟨F2,s2,k2,l2,m2⟩:=Ok.rZ Oc k
   obtain⟨F',O',a,b,c,d⟩:=ih k2 (h.mono s2 l2 (.refl _))
   refine⟨F',O',s2.trans a,b,l2.trans c,@ak.fz _ _ _ _ _ _ _ Ob.lK _ _ _ _ _ (Ob.lC (Ob.mono (wL _ (s2.trans a)) r) λx hx=>?_) d⟩
   obtain⟨e1,e2⟩:=m2 x hx
   cases n with
   |true=>exact(uO e2).trans (a _ _ e1)
   |false=>exact a _ _ e1
theorem Sg.le(h:Sg B G sl σ H)(l:Le sl sl2):Sg B G sl2 σ H:=by
 obtain⟨F,O,g,k,s⟩:=h
 obtain⟨F',O',a,b,_,d⟩:=ak.le (P:=[]) l k s
 exact⟨F',O',g.trans a,b,d⟩
theorem Sg.grow(g:Same G F)(h:At B sl F O' H σ)(gr:bh B F H O' F' H'):Sg B G sl σ H':=⟨F',O',g.trans gr.ff,h.grow gr⟩
theorem zQ(L:S->SL K)(s:S)(h:Le sl (L s)):Sn B sl Pu L (some s):=λa ha G D σ H q k=>by cases ha;exact k σ H (q.le h)
theorem zL{f:S->Option S'}(h1:Sn B sl t L m1)(h2:∀s,Sn B (L s) u L' (f s)):Sn B sl (kO t u) L' (m1.bind f):=λa ha G D σ H q k=>by
 cases m1 with
 |none=>cases ha
 |some s=>exact h1 s rfl G _ σ H q λσ' H' q'=>h2 s a ha G D σ' H' q' k
theorem zM{f:S->Option β}(h1:Sn B sl t L m1)(h2:∀s,SB B (L s) u al (f s)):SB B sl (kO t u) al (m1.bind f):=λa ha G D σ H q k=>by
 cases m1 with
 |none=>cases ha
 |some s=>exact h1 s rfl G _ σ H q λσ' H' q'=>h2 s a ha G D σ' H' q' k
theorem J6{f:S->Option (Out S' β)}(h1:Sn B sl t L m1)(h2:∀s,Sx B (L s) u al L' (f s)):Sx B sl (kO t u) al L' (m1.bind f):=λa ha G D σ H q k=>by
 cases m1 with
 |none=>cases ha
 |some s=>exact h1 s rfl G _ σ H q λσ' H' q'=>h2 s a ha G D σ' H' q' k
theorem Hx{f:S->Option β}(h1:Sx B sl t al L m1)(h2:∀s,SB B (L s) u al (f s)):SB B sl (kO t u) al (m1.bind λo=>o.els f):=λa ha G D σ H q k=>by
 cases m1 with
 |none=>cases ha
 |some o =>
  cases o with
  |nx s=>exact h1 _ rfl G _ σ H q λσ' H' q'=>h2 s a ha G D σ' H' q' k
  |rt b=>cases ha;exact h1 _ rfl G { D with nx:=u D } σ H q k
theorem zLf{f:S->Option (Out S' β)}(h1:Sx B sl t al L m1)(h2:∀s,Sx B (L s) u al L' (f s)):Sx B sl (kO t u) al L' (m1.bind λo=>o.aJ f):=λa ha G D σ H q k=>by
 cases m1 with
 |none=>cases ha
 |some o =>
  cases o with
  |nx s=>exact h1 _ rfl G _ σ H q λσ' H' q'=>h2 s a ha G D σ' H' q' k
  |rt b=>cases ha;exact h1 _ rfl G { D with nx:=u D } σ H q k
theorem v9(L:S->SL K)(s:S)(h:Le sl (L s)):Sx B sl Pu al L (some (.nx s):Option (Out S β)):=λa ha G D σ H q k=>by cases ha;exact k σ H (q.le h)
theorem Hy(k:Ok B F' O H')(n:Bool){v:V}{b:β}(r:rp K (reg B F' H' (jt n)) v b)(hn:n=!al):Rt K B al b v H':=by
 refine⟨k.h0,?_⟩
 cases al with
 |false=>subst hn;exact Rp.mono (wK k.fh) r
 |true =>
  subst hn
  refine Rp.mono (λb o h=>?_) r
  have h:F' b=some o:=h
  show ext B.Fa B.H0 H' b=some o
  unfold ext
  cases q:B.H0 b with
  |none=>exact k.fh b o h
  |some u =>
   rcases k.fa b o h with z|z
   ·exact z
   ·rw[q] at z;cases z
theorem yA(h:Ex B sl (jt !al) te m):SB B sl (kO (yj te) u) al m:=λb hb G D σ H s k=>by
 obtain⟨F,O,g,a⟩:=s
 exact h b hb F O H σ _ a λv F' H' gr r=>k v H' (Hy gr.ok (!al) r rfl)
theorem Dv(h:F p=none):Same (dif F H0) (dif (upd F p o) H0):=wK (aO h o)
theorem BZ{n:Bool}{xs:List α}(i:Nat)(hs:sl[i]?=some (.ow n xs))(hn:n=!al):SB B sl (kO (yj (dh i)) u) al (some xs):=λb hb G D σ H s k=>by
 cases hb
 obtain⟨F,O,g,a⟩:=s
 obtain⟨O1,O2,p,vs,rfl,h1,h2,_⟩:=a.2.rW hs
 obtain⟨a1,a2,a3⟩:=a.1.one
 refine⟨_,h1,k _ H (Hy a.1.freeze n ⟨p,vs,rfl,?_,h2.imp λ_ _=>Rp.mono ?_⟩ hn)⟩
 ·cases n with
  |true=>exact(uO a2).trans zW
  |false=>exact zW
 ·cases n with
  |true=>exact Dv a1
  |false=>exact aO a1 _
theorem uQ(hc:Et B sl c n)(h1:Sn B sl t L m1)(h2:Sn B sl u L m2):Sn B sl (yp c t u) L (n.bind λb=>if b=true then m1 else m2):=λa ha G D σ H s k=>by
 cases n with
 |none=>cases ha
 |some b =>
  obtain⟨F,O,g,z⟩:=s
  refine hc b rfl F O H σ _ z λF' H' gr=>?_
  cases b with
  |true=>exact lJ (h1 a (by simpa using ha) G D σ H' (Sg.grow g z gr) k)
  |false=>exact lH (h2 a (by simpa using ha) G D σ H' (Sg.grow g z gr) k)
theorem Hz{c:TT}{n:Option Bool}{L:S->SL K}{m1 m2:Option (Out S β)}(hc:Et B sl c n)(h1:Sx B sl t al L m1)(h2:Sx B sl u al L m2):Sx B sl (yp c t u) al L (n.bind λb=>if b=true then m1 else m2):=λa ha G D σ H s k=>by
 cases n with
 |none=>cases ha
 |some b =>
  obtain⟨F,O,g,z⟩:=s
  refine hc b rfl F O H σ _ z λF' H' gr=>?_
  cases b with
  |true=>exact lJ (h1 a (by simpa using ha) G D σ H' (Sg.grow g z gr) k)
  |false=>exact lH (h2 a (by simpa using ha) G D σ H' (Sg.grow g z gr) k)
theorem su{c:TT}{n:Option Bool}{m1 m2:Option β}(hc:Et B sl c n)(h1:SB B sl t al m1)(h2:SB B sl u al m2):SB B sl (kO (yp c t Pu) u) al (n.bind λb=>if b=true then m1 else m2):=λa ha G D σ H s k=>by
 cases n with
 |none=>cases ha
 |some b =>
  obtain⟨F,O,g,z⟩:=s
  refine hc b rfl F O H σ _ z λF' H' gr=>?_
  cases b with
  |true=>exact lJ (h1 a (by simpa using ha) G _ σ H' (Sg.grow g z gr) k)
  |false=>exact lH (h2 a (by simpa using ha) G D σ H' (Sg.grow g z gr) k)
theorem zx{c:TT}{n:Option Bool}{m1:Option β}{L:S->SL K}{m2:Option (Out S β)}(hc:Et B sl c n)(h1:SB B sl t al m1)(h2:Sx B sl u al L m2) :
  Sx B sl (kO (yp c t Pu) u) al L (n.bind λb=>if b=true then m1.bind λb=>some (.rt b) else m2):=λa ha G D σ H s k=>by
 cases n with
 |none=>cases ha
 |some b =>
  obtain⟨F,O,g,z⟩:=s
  refine hc b rfl F O H σ _ z λF' H' gr=>?_
  cases b with
  |true =>
   have e:=(show(m1.bind λb=>some (Out.rt b))=some a by simpa using ha)
   cases m1 with
   |none=>cases e
   |some b=>cases e;exact lJ (h1 b rfl G _ σ H' (Sg.grow g z gr) k)
  |false=>exact lH (h2 a (by simpa using ha) G D σ H' (Sg.grow g z gr) k)
theorem Sg.set{s:Slot K}{i:Nat}{n:Bool}{a:α}{v:V}{O:Own}(g:Same G F)(h:At B sl F O H σ)(hs:sl[i]?=some s)(ho:iW s=false)(r:rp K (reg B F H (jt n)) v a):Sg B G (sl.set i (.fz n a)) (σ.set i (some v)) H :=
 ⟨F,O,g,h.1,h.2.put (λ_ _ _ z=>.fz r z) hs ho⟩
theorem yB(n:Bool)(i:Nat)(hs:sl[i]?=some s)(ho:iW s=false)(h:Ex B sl (jt n) te m):Sn B sl (lE te (qH i)) (λa=>sl.set i (.fz n a)) m:=λa ha G D σ H s k=>by
 obtain⟨F,O,g,z⟩:=s
 exact h a ha F O H σ _ z λv F' H' gr r=>k _ _ (Sg.set (g.trans gr.ff) (z.grow gr) hs ho r)
theorem Nr(h:Ex B sl md te m):Sn B sl (Hf te) (λ_=>sl) m:=λa ha G D σ H s k=>by
 obtain⟨F,O,g,z⟩:=s
 exact h a ha F O H σ _ z λv F' H' gr r=>k _ _ (Sg.grow g z gr)
theorem At.own{s:Slot K}{i:Nat}{n:Bool}{xs:List α}{vs:List V}{p:Addr}(h:At B sl F O H σ)(hs:sl[i]?=some s)(ho:iW s=false)(hp:H p=none)(r:A2 (rp K (reg B F H (jt n))) vs xs) :
  ∃O',At B (sl.set i (.ow n xs)) F O' (upd H p (.lst vs)) (σ.set i (some (.ref p))):=by
 obtain⟨k,z0⟩:=h
 obtain⟨O1,O2,rfl,z⟩:=z0.own (s':=.ow n xs) (x:=some (.ref p)) (c:=(p,.lst vs)) (λ_ _ _ z=>.ow r z) hs ho
 exact⟨_,k.add hp,z.mono (.refl _) (Ut hp) (aO hp _)⟩
theorem uM{s:Slot K}{m:Option (List α)}(n:Bool)(i:Nat)(hs:sl[i]?=some s)(ho:iW s=false)(h:Eo B sl (jt n) te m):Sn B sl (lE te (qH i)) (λa=>sl.set i (.ow n a)) m:=λa ha G D σ H s k=>by
 obtain⟨F,O,g,z⟩:=s
 refine h a ha F O H σ _ z λp vs F' H' gr hp r=>k _ _ ?_
 obtain⟨O',z'⟩:=(z.grow gr).own hs ho hp r
 exact⟨F',O',g.trans gr.ff,z'⟩
theorem Uu(i:Nat)(hs:sl[i]?=some s)(ho:iW s=false):Sn B sl (lE zUa (qH i)) (λ_=>sl.set i (.od ([]:List (Key×α)))) (some ()):=λa ha G D σ H s k=>by
 obtain⟨F,O,g,k0,z0⟩:=s
 intro p hp
 refine k _ _ ?_
 obtain⟨O1,O2,rfl,z'⟩:=z0.own (s':=.od ([]:List (Key×α))) (x:=some (.ref p)) (c:=(p,.dK [])) (λ_ _ _ z=>.od trivial z) hs ho
 exact⟨F,_,g,k0.add hp,z'.mono (.refl _) (Ut hp) (aO hp _)⟩
theorem QM{α:Type}:∀{l:List α}{i:Nat}{x:α},l[i]?=some x->l.set i x=l
 |[],_,_,h=>by simp at h
 |_::_,0,_,h=>by simp at h;subst h;rfl
 |_::l,i+1,_,h=>congrArg _ (QM (l:=l) (i:=i) (by simpa using h))
theorem QS{P:Slot K->Bool}(hs:P s=true):∀{l:SL K}{i:Nat},l.all P=true->(l.set i s).all P=true
 |[],_,h=>h
 |_::_,0,h=>by rw[all_cons,Bool.and_eq_true] at h;rw[List.set_cons_zero,all_cons,Bool.and_eq_true];exact⟨hs,h.2⟩
 |_::l,i+1,h=>by rw[all_cons,Bool.and_eq_true] at h;rw[List.set_cons_succ,all_cons,Bool.and_eq_true];exact⟨h.1,QS hs h.2⟩
theorem At.chg{i:Nat}{n:Bool}{xs:List α}(h:At B sl F O H σ)(hs:sl[i]?=some (.ow n xs))(hh:sl.all (λs=>!oF s)=true):∃p vs,σ[i]?=some (some (.ref p))/\H p=some (.lst vs)/\A2 (rp K (reg B F H (jt n))) vs xs /\
  ∀(ws:List V)(ys:List α),A2 (rp K (reg B F H (jt n))) ws ys->∃O',At B (sl.set i (.ow n ys)) F O' (upd H p (.lst ws)) σ:=by
 obtain⟨k,z0⟩:=h
 obtain⟨O1,O2,p,vs,rfl,h1,h2,h3,_⟩:=z0.rW hs
 refine⟨p,vs,h1,k.one.2.2,h2,λws ys r=>⟨_,k.chg (.lst ws),?_⟩⟩
 have z:=h3 (.ow n ys) (some (.ref p)) (p,.lst ws) λ_ _ _ z=>.ow r z
 rw[QM h1] at z
 exact z.mut zUn (QS rfl hh)
theorem At.Dw(h:At B sl F O H σ)(hs:sl[i]?=some (.od kvs))(hh:sl.all (λs=>!oF s)=true):∃p ks,σ[i]?=some (some (.ref p))/\H p=some (.dK ks)/\A2 (λ(x:Key×V) (y:Key×α)=>x.1=y.1/\rp K F x.2 y.2) ks kvs /\
  ∀(ws:List (Key×V))(ys:List (Key×α)),A2 (λ(x:Key×V) (y:Key×α)=>x.1=y.1/\rp K F x.2 y.2) ws ys->∃O',At B (sl.set i (.od ys)) F O' (upd H p (.dK ws)) σ:=by
 obtain⟨k,z0⟩:=h
 obtain⟨O1,O2,p,vs,rfl,h1,h2,h3,_⟩:=z0.Hu hs
 refine⟨p,vs,h1,k.one.2.2,h2,λws ys r=>⟨_,k.chg (.dK ws),?_⟩⟩
 have z:=h3 (.od ys) (some (.ref p)) (p,.dK ws) λ_ _ _ z=>.od r z
 rw[QM h1] at z
 exact z.mut zUn (QS rfl hh)
theorem vC(i:Nat)(hs:sl[i]?=some (.ow n xs))(hh:sl.all (λs=>!oF s)=true)(h:Ex B sl (jt n) te m) :
  Sn B sl (Hf (Nk K "list" Um (dh i) (xG te bF))) (λys=>sl.set i (.ow n ys)) (m.bind λa=>push xs a):=λys ha G D σ H s k=>by
 cases m with
 |none=>cases ha
 |some a =>
  have ha':push xs a=some ys:=ha
  unfold push at ha'
  split at ha'
  case isFalse=>cases ha'
  rename_i hl
  cases ha'
  obtain⟨F,O,g,z⟩:=s
  obtain⟨p,vs,h1,h2,h3,_⟩:=z.chg hs hh
  refine⟨_,h1,.inl ⟨rfl,_,aV.of h2⟩,?_⟩
  refine h a rfl F O H σ _ z λv F' H' gr r=>?_
  obtain⟨p',vs',h1',h2',h3',h4'⟩:=(z.grow gr).chg hs hh
  have e:=h1.symm.trans h1'
  cases e
  obtain⟨O',z'⟩:=h4' (vs'++[v]) (xs++[a]) (h3'.snoc r)
  exact⟨p,vs',v,rfl,rfl,h2',Hw (by rw[h3'.len];exact hl),k _ _ ⟨F',O',g.trans gr.ff,z'⟩⟩
theorem QT(i:Nat)(hs:sl[i]?=some (.ow n xs))(hh:sl.all (λs=>!oF s)=true)(hv:Ex B sl (jt n) te m)(hi:Ex B sl .hp ti mi) :
  Sn B sl (lE te (PJ (dh i) ti zc)) (λys=>sl.set i (.ow n ys)) (m.bind λa=>mi.bind λk=>rY xs k a):=λys ha G D σ H s k=>by
 cases m with
 |none=>cases ha
 |some a =>
  cases mi with
  |none=>cases ha
  |some ix =>
   have ha':rY xs ix a=some ys:=ha
   obtain⟨F,O,g,z⟩:=s
   refine hv a rfl F O H σ _ z λv F' H' gr r=>?_
   obtain⟨p,vs,h1,h2,h3,_⟩:=(z.grow gr).chg hs hh
   refine⟨_,h1,?_⟩
   refine hi ix rfl F' O H' σ _ (z.grow gr) λw F2 H2 sy rw=>?_
   cases rw
   obtain⟨p',vs',h1',h2',h3',h4'⟩:=((z.grow gr).grow sy).chg hs hh
   have e:=h1.symm.trans h1'
   cases e
   unfold rY at ha'
   cases ej:qK xs.length ix with
   |none=>rw[ej] at ha';cases ha'
   |some jj =>
    rw[ej] at ha'
    cases ha'
    obtain⟨O',z'⟩:=h4' (vs'.set jj v) (xs.set jj a) (h3'.set (Rp.mono (wE sy (jt n)) r) jj)
    exact⟨p,vs',ix,jj,rfl,rfl,h2',by rw[h3'.len,ej],k _ _ ⟨F2,O',(g.trans gr.ff).trans sy.ff,z'⟩⟩
end
section
variable{K:PySem.W.Frag}{B:Bs}{F H F' H' G:Hp}{O:Own}{sl sl2:SL K}{σ:St}{md:Md}{α β γ:Type}[Rp K α][Rp K β][Rp K γ]{tb u v:TS}{te:TE}{m:Option α}{S S':Type}{al n:Bool}
theorem Uv{S α β:Type}(step:S->α->Option (Out S β)):∀(xs ys:List α)(s:S),vK step (xs++ys) s=(vK step xs s).bind λo=>o.aJ λs'=>vK step ys s'
 |[],ys,s=>rfl
 |x::xs,ys,s=>by
  show(step s x).bind _=((step s x).bind _).bind _
  cases step s x with
  |none=>rfl
  |some o =>
   cases o with
   |nx s'=>exact Uv step xs ys s'
   |rt b=>rfl
theorem zNi{S α β:Type}{step:S->α->Option (Out S β)}{xs:List α}{s a:S}{x:α}(h:vK step (xs.take i) s=some (.nx a))(hx:xs[i]?=some x):vK step (xs.take (i+1)) s=step a x:=by
 have e2:xs.take (i+1)=xs.take i++[x]:=by rw[take_add_one,hx]<;>rfl
 rw[e2,Uv,h]
 show(step a x).bind _=step a x
 cases step a x with
 |none=>rfl
 |some o=>cases o<;>rfl
theorem zQm{S α β:Type}{step:S->α->Option (Out S β)}{xs:List α}{s:S}{o:Out S β}{b:β}(h:vK step xs s=some o)(hi:vK step (xs.take i) s=some (.rt b)):o=.rt b:=by
 rw[<-take_append_drop i xs,Uv,hi] at h
 cases h
 rfl
theorem zNj{S α β:Type}{step:S->α->Option (Out S β)}{xs:List α}{s:S}{o:Out S β}(i:Nat)(h:vK step xs s=some o):∃o',vK step (xs.take i) s=some o':=by
 rw[<-take_append_drop i xs,Uv] at h
 cases q:vK step (xs.take i) s with
 |none=>rw[q] at h;cases h
 |some o'=>exact⟨o',rfl⟩
def Yl(K:PySem.W.Frag)(B:Bs)(F':Hp)(n:Bool)(J:It){α:Type}[Rp K α](xs:List α):Prop:=∀(i:Nat)(F2:Hp)(O2:Own)(H2:Hp),Same F' F2->Ok B F2 O2 H2 ->
 (xs.length<=i->J.stop i H2)/\∀x,xs[i]?=some x->J.go i H2/\∀v H3,J.M_ i H2 v H3->∃F3,bh B F2 H2 O2 F3 H3/\rp K (reg B F3 H3 (jt n)) v x
def Ei(B:Bs)(sl:SL K)(n:Bool)(wi:TI){α:Type}[Rp K α](mi:Option (List α)):Prop :=
 ∀xs,mi=some xs->∀(F:Hp)(O:Own)(H:Hp)(σ:St)(R:It->Hp->Prop),At B sl F O H σ->(∀(J:It)(F' H':Hp),bh B F H O F' H'->Yl K B F' n J xs->R J H')->wi σ H R
def Tg(B:Bs)(sl:SL K)(n:Bool)(g:TG){α:Type}[Rp K α](L:α->SL K):Prop :=
 ∀(v:V)(x:α)(F:Hp)(O:Own)(H:Hp)(σ:St)(Q:St->Hp->Prop),At B sl F O H σ->rp K (reg B F H (jt n)) v x->(∀σ',At B (L x) F O H σ'->Q σ' H)->g v σ H Q
theorem zR(i:Nat)(hs:sl[i]?=some s)(ho:iW s=false):Tg B sl n (qH i) (λx:α=>sl.set i (.fz n x)):=λv x F O H σ Q a r k=>k _ ⟨a.1,a.2.put (λ_ _ _ z=>.fz r z) hs ho⟩
theorem Dy(k:Ok B F O H)(h:reg B F H (jt n) p=some o):H p=some o:=BX k n p o h
theorem QV(i j:Nat)(hs:sl[i]?=some s)(ho:iW s=false)(hs':∀x:Slot K,(sl.set i x)[j]?=some s')(ho':iW s'=false) :
  Tg B sl n (Js K 2 (yq (qH i) (yq (qH j) Pz))) (λx:α×β=>(sl.set i (.fz n x.1)).set j (.fz n x.2)):=λv x F O H σ Q a r k=>by
 obtain⟨p,w1,w2,rfl,h1,h2,h3⟩:=r
 refine⟨p,[w1,w2],rfl,.inl (.inl (Dy a.1 h1)),rfl,w1,[w2],rfl,w2,[],rfl,rfl,?_⟩
 exact k _ ⟨a.1,(a.2.put (s':=.fz n x.1) (λ_ _ _ z=>.fz h2 z) hs ho).put (λ_ _ _ z=>.fz h3 z) (hs' _) ho'⟩
theorem xI{L:S->SL K}{Lx:S->α->SL K}{step:S->α->Option S}(s0:S)(h0:Le sl (L s0))(hi:Ei B (L s0) n wi mi)(hg:∀s,Tg B (L s) n g (Lx s))(hb:∀s x,Sn B (Lx s x) tb L (step s x)) :
  Sn B sl (Jv wi g tb) L (mi.bind λxs=>xA step xs s0):=λs1 hs1 G D σ H q k=>by
 cases mi with
 |none=>cases hs1
 |some xs =>
  have hs1:xA step xs s0=some s1:=hs1
  obtain⟨F,O,g0,a⟩:=q.le h0
  refine hi xs rfl F O H σ _ a λJ F' H' gr yl=>?_
  refine⟨λi m σ H=>m=xs.length-i/\i<=xs.length/\∃s,xA step (xs.take i) s0=some s/\Sg B F' (L s) σ H,⟨xs.length,rfl,Nat.zero_le _,s0,rfl,F',O,.refl _,a.grow gr⟩,?_⟩
  rintro i m σ H ⟨rfl,hil,s,hs,F2,O2,sf,a2⟩
  obtain⟨y1,y2⟩:=yl i F2 O2 H sf a2.1
  by_cases hlt:i<xs.length
  ·obtain⟨go,y3⟩:=y2 xs[i] (List.getElem?_eq_getElem hlt)
   obtain⟨s',s'',e1,e2,e3⟩:=zNk hs1 (List.getElem?_eq_getElem hlt)
   rw[hs] at e1
   cases e1
   refine .inr ⟨go,Sg B F' (L s''),λσ' H' z=>⟨xs.length-(i+1),by omega,rfl,hlt,s'',e3,z⟩,λv H3 yd=>?_⟩
   obtain⟨F3,g3,r3⟩:=y3 v H3 yd
   exact hg s v xs[i] F3 O2 H3 σ _ (a2.grow g3) r3 λσ' a'=>hb s xs[i] s'' e2 F' _ σ' H3 ⟨F3,O2,sf.trans g3.ff,a'⟩ λσ2 H2 z=>z
  ·have e:i=xs.length:=by omega
   subst e
   rw[take_length,hs1] at hs
   cases hs
   exact .inl ⟨y1 (Nat.le_refl _),k σ H ⟨F2,O2,(g0.trans gr.ff).trans sf,a2⟩⟩
theorem HB{L:S->SL K}{Lx:S->α->SL K}{step:S->α->Option (Out S β)}(s0:S)(h0:Le sl (L s0))(hi:Ei B (L s0) n wi mi)(hg:∀s,Tg B (L s) n g (Lx s))(hb:∀s x,Sx B (Lx s x) tb al L (step s x)) :
  Sx B sl (Jv wi g tb) al L (mi.bind λxs=>vK step xs s0):=λo ho G D σ H q k=>by
 cases mi with
 |none=>cases ho
 |some xs =>
  have ho:vK step xs s0=some o:=ho
  obtain⟨F,O,g0,a⟩:=q.le h0
  refine hi xs rfl F O H σ _ a λJ F' H' gr yl=>?_
  refine⟨λi m σ H=>m=xs.length-i/\i<=xs.length/\∃s,vK step (xs.take i) s0=some (.nx s)/\Sg B F' (L s) σ H,⟨xs.length,rfl,Nat.zero_le _,s0,rfl,F',O,.refl _,a.grow gr⟩,?_⟩
  rintro i m σ H ⟨rfl,hil,s,hs,F2,O2,sf,a2⟩
  obtain⟨y1,y2⟩:=yl i F2 O2 H sf a2.1
  by_cases hlt:i<xs.length
  ·obtain⟨go,y3⟩:=y2 xs[i] (List.getElem?_eq_getElem hlt)
   have e2:=zNi hs (List.getElem?_eq_getElem hlt)
   obtain⟨o',e3⟩:=zNj (i+1) ho
   refine .inr ⟨go,λσ H=>∃s',o'=.nx s'/\Sg B F' (L s') σ H,λσ' H' ⟨s',e,z⟩=>⟨xs.length-(i+1),by omega,rfl,hlt,s',by rw[e3,e],z⟩,λv H3 yd=>?_⟩
   obtain⟨F3,g3,r3⟩:=y3 v H3 yd
   refine hg s v xs[i] F3 O2 H3 σ _ (a2.grow g3) r3 λσ' a'=>hb s xs[i] o' (by rw[<-e2,e3]) F' _ σ' H3 ⟨F3,O2,sf.trans g3.ff,a'⟩ ?_
   cases o' with
   |nx s'=>exactλσ2 H2 z=>⟨s',rfl,z⟩
   |rt b =>
    have:=zQm ho e3
    subst this
    exact k
  ·have e:i=xs.length:=by omega
   subst e
   rw[take_length,ho] at hs
   cases hs
   exact .inl ⟨y1 (Nat.le_refl _),k σ H ⟨F2,O2,(g0.trans gr.ff).trans sf,a2⟩⟩
theorem zLh{L:S->SL K}{cM:S->Option Bool}{bM:S->Option S}(fuel:Nat)(s0:S)(h0:Le sl (L s0))(hc:∀s,Et B (L s) c (cM s))(hb:∀s,Sn B (L s) tb L (bM s)):Sn B sl (zT8 c tb) L (Du cM bM fuel s0):=λs1 hs1 G D σ H q k=>by
 refine⟨λm σ H=>∃s,Du cM bM m s=some s1/\Sg B G (L s) σ H,⟨fuel,s0,hs1,q.le h0⟩,?_⟩
 rintro m σ H ⟨s,hs,F,O,g,a⟩
 cases m with
 |zero=>cases hs
 |succ m =>
  have hs:((cM s).bind λb=>if b=true then(bM s).bind λs'=>Du cM bM m s' else some s)=some s1:=hs
  cases e:cM s with
  |none=>rw[e] at hs;cases hs
  |some b =>
   rw[e] at hs
   refine hc s b e F O H σ _ a λF' H' gr=>?_
   cases b with
   |true =>
    have hs:((bM s).bind λs'=>Du cM bM m s')=some s1:=by simpa using hs
    cases e2:bM s with
    |none=>rw[e2] at hs;cases hs
    |some s' =>
     rw[e2] at hs
     exact lJ ⟨Sg B G (L s'),λσ' H' z=>⟨m,Nat.lt_succ_self _,s',hs,z⟩,hb s s' e2 G _ σ H' (Sg.grow g a gr) λ_ _ z=>z⟩
   |false =>
    have hs:some s=some s1:=by simpa using hs
    cases hs
    exact lH (k σ H' (Sg.grow g a gr))
theorem yE{mi:Option (List α)}(h:Ex B sl (jt n) te mi):Ei B sl n (yr K te) mi:=λxs hx F O H σ R a k=>by
 refine h xs hx F O H σ _ a λv F' H' gr r=>?_
 obtain⟨p,vs,rfl,h1,h2⟩:=r
 refine⟨p,rfl,⟨vs,aV.of (BX gr.ok n p _ h1)⟩,k _ F' H' gr λi F2 O2 H2 sf k2=>?_⟩
 have hq:aV K H2 p vs:=aV.of (k2.fh _ _ (sf _ _ (by cases n with|true=>exact aP _ _ h1|false=>exact h1)))
 refine⟨λhl=>⟨vs,hq,by rw[h2.len];exact hl⟩,λx hx=>?_⟩
 obtain⟨w,hw,rw⟩:=h2.at2 hx
 refine⟨⟨vs,w,hq,hw⟩,λv H3 yd=>?_⟩
 obtain⟨e,y⟩:=yd
 subst e
 have:=(hw.symm.trans (y vs hq))
 cases this
 exact⟨F2,.refl k2,Rp.mono (wL n sf) rw⟩
theorem Xa{k i:Nat}{x:Int}(h:((List.range k).map Int.ofNat)[i]?=some x):i<k/\x=i:=by
 rw[getElem?_map] at h
 by_cases q:i<k
 ·rw[getElem?_range q] at h;cases h;exact⟨q,rfl⟩
 ·rw[List.getElem?_eq_none (by rw[length_range];omega)] at h;cases h
theorem yW(h:Ex B sl .hp te mi):Ei B sl n (Hh (xG te bF)) (mi.bind wF):=λxs hx F O H σ R a k=>by
 cases mi with
 |none=>cases hx
 |some j =>
  have hx:wF j=some xs:=hx
  unfold wF at hx
  split at hx
  case isFalse=>cases hx
  rename_i hb
  cases hx
  refine h j rfl F O H σ _ a λv F' H' gr r=>?_
  cases r
  refine⟨j,rfl,hb.1,hb.2,k _ F' H' gr λi F2 O2 H2 sf k2=>⟨λhl=>?_,λx hx=>?_⟩⟩
  ·rw[length_map,length_range] at hl;exact hl
  ·obtain⟨h1,rfl⟩:=Xa hx
   refine⟨h1,λv H3 yd=>?_⟩
   obtain⟨rfl,rfl⟩:=yd
   exact⟨F2,.refl k2,by show V.int (0+(i:Int))=V.int i;rw[Int.zero_add]⟩
def zy{α:Type}(xs:List α):List (Int×α):=((List.range xs.length).map Int.ofNat).zip xs
theorem Xb{α:Type}{xs:List α}{i:Nat}{x:Int×α}(h:(zy xs)[i]?=some x):x.1=i/\xs[i]?=some x.2:=by
 unfold zy at h
 rw[List.getElem?_zip_eq_some] at h
 exact⟨(Xa h.1).2,h.2⟩
theorem zJo{α:Type}(xs:List α):(zy xs).length=xs.length:=by unfold zy;simp
theorem Xc{mi:Option (List α)}(h:Ex B sl (jt n) te mi):Ei B sl n (zq K (xG te bF)) (mi.bind λxs=>some (zy xs)):=λxs hx F O H σ R a k=>by
 cases mi with
 |none=>cases hx
 |some zs =>
  cases(show some (zy zs)=some xs from hx)
  refine h zs rfl F O H σ _ a λv F' H' gr r=>?_
  obtain⟨p,vs,rfl,h1,h2⟩:=r
  refine⟨p,rfl,⟨vs,aV.of (BX gr.ok n p _ h1)⟩,k _ F' H' gr λi F2 O2 H2 sf k2=>?_⟩
  have hq:aV K H2 p vs:=aV.of (k2.fh _ _ (sf _ _ (by cases n with|true=>exact aP _ _ h1|false=>exact h1)))
  refine⟨λhl=>⟨vs,hq,by rw[h2.len,<-zJo];exact hl⟩,λx hx=>?_⟩
  obtain⟨e1,e2⟩:=Xb hx
  obtain⟨w,hw,rw⟩:=h2.at2 e2
  refine⟨⟨vs,w,hq,hw⟩,λv H3 yd=>?_⟩
  obtain⟨t,x',rfl,ht,rfl,y⟩:=yd
  have:=(hw.symm.trans (y vs hq))
  cases this
  have g3:=bh.new k2 ht (.tup [.int i,w])
  refine⟨_,g3,t,.int i,w,rfl,?_,?_,Rp.mono (wL n (sf.trans g3.ff)) rw⟩
  ·exact QK k2 ht (jt n)
  ·rw[e1];rfl
def yU{α β:Type}(c:α->Option Bool)(f:α->Option β)(xs:List α):Option (List β):=if xs.length<cap then wB c f xs else none
theorem Uw{α β:Type}(c:α->Option Bool)(f:α->Option β):∀(xs ys:List α),wB c f (xs++ys)=(wB c f xs).bind λa=>(wB c f ys).bind λb=>some (a++b)
 |[],ys=>by
  rw[nil_append]
  show wB c f ys=(wB c f ys).bind λb=>some ([]++b)
  cases wB c f ys<;>rfl
 |x::xs,ys=>by
  show(c x).bind _=((c x).bind _).bind _
  cases c x with
  |none=>rfl
  |some b =>
   cases b with
   |true =>
    show(f x).bind _=((f x).bind _).bind _
    cases f x with
    |none=>rfl
    |some y =>
     show(wB c f (xs++ys)).bind _=((wB c f xs).bind _).bind _
     rw[Uw c f xs ys]
     cases wB c f xs with
     |none=>rfl
     |some a =>
      show((wB c f ys).bind _).bind _=(wB c f ys).bind _
      cases wB c f ys<;>rfl
   |false=>exact Uw c f xs ys
theorem Xd{α β:Type}(c:α->Option Bool)(f:α->Option β):∀{xs:List α}{ys:List β},wB c f xs=some ys->ys.length<=xs.length
 |[],ys,h=>by cases h;exact Nat.le_refl _
 |x::xs,ys,h=>by
  have h:((c x).bind λb=>if b=true then(f x).bind λy=>(wB c f xs).bind λys=>some (y::ys) else wB c f xs)=some ys:=h
  cases e:c x with
  |none=>rw[e] at h;cases h
  |some b =>
   rw[e] at h
   cases b with
   |true =>
    have h:((f x).bind λy=>(wB c f xs).bind λys=>some (y::ys))=some ys:=by simpa using h
    cases e2:f x with
    |none=>rw[e2] at h;cases h
    |some y =>
     rw[e2] at h
     cases e3:wB c f xs with
     |none=>rw[e3] at h;cases h
     |some zs =>
      rw[e3] at h
      cases h
      exact Nat.succ_le_succ (Xd c f e3)
   |false =>
    have h:wB c f xs=some ys:=by simpa using h
    exact Nat.le_succ_of_le (Xd c f h)
theorem zNo{α β:Type}{c:α->Option Bool}{f:α->Option β}{xs:List α}{zs:List β}(i:Nat)(h:wB c f xs=some zs):∃ys,wB c f (xs.take i)=some ys:=by
 rw[<-take_append_drop i xs,Uw] at h
 cases q:wB c f (xs.take i) with
 |none=>rw[q] at h;cases h
 |some o'=>exact⟨o',rfl⟩
theorem zNp{α β:Type}{c:α->Option Bool}{f:α->Option β}{xs:List α}{zs ys:List β}{x:α}(h:wB c f (xs.take (i+1))=some zs)(hy:wB c f (xs.take i)=some ys)(hx:xs[i]?=some x) :
  (c x=some false/\zs=ys)\/∃y,c x=some true/\f x=some y/\zs=ys++[y]:=by
 have e2:xs.take (i+1)=xs.take i++[x]:=by rw[take_add_one,hx]<;>rfl
 rw[e2,Uw,hy] at h
 have h:(((c x).bind λb=>if b=true then(f x).bind λy=>some [y] else some []).bind λb=>some (ys++b))=some zs:=h
 cases e:c x with
 |none=>rw[e] at h;cases h
 |some b =>
  rw[e] at h
  cases b with
  |true =>
   have h:(((f x).bind λy=>some [y]).bind λb=>some (ys++b))=some zs:=by simpa using h
   cases e2:f x with
   |none=>rw[e2] at h;cases h
   |some y=>rw[e2] at h;cases h;exact .inr ⟨y,rfl,rfl,rfl⟩
  |false =>
   have h:some (ys++[])=some zs:=by simpa using h
   rw[append_nil] at h
   cases h
   exact .inl ⟨rfl,rfl⟩
abbrev QW:Slot K->Slot K
 |.un=>.un
 |@Slot.fz _ n _ i a=>@Slot.fz _ n _ i a
 |@Slot.hs _ _ i a=>@Slot.hs _ _ i a
 |@Slot.nu _ _ i a=>@Slot.hs _ _ i a
 |@Slot.ow _ _ _ i xs=>@Slot.hs _ _ _ xs
 |@Slot.od _ _ _ _=>.un
 |@Slot.ob _ _ _ _ _=>.un
theorem bh.lift(k:Ok B F O H)(g:bh B F H [] F' H'):bh B F H O F' H' :=
 ⟨g.ff,g.hh,⟨g.ok.fh,g.ok.h0,g.ok.fa,λx hx=>by
  obtain⟨a1,a2,a3⟩:=k.fo x hx
  exact⟨g.nw _ a1 (by rw[a3];intro z;cases z),a2,g.hh _ _ a3⟩,k.nd⟩,g.nw⟩
theorem Ok.nil(k:Ok B F O H):Ok B F [] H:=⟨k.fh,k.h0,k.fa,λx hx=>(by cases hx),(by simp)⟩
theorem ak.one(a:At B sl F O H σ)(L:Hp)(j:Nat)(hs:sl[j]?=some s):∀{sl':SL K}{σ':St},ak B F L H sl' σ' []->ak B F L H (QW s::sl') ((σ[j]?).getD none::σ') []:=λ{sl' σ'} h=>by
 cases s with
 |un=>exact .un h
 |fz n b=>obtain⟨v,h1,h2⟩:=a.2.nO hs;rw[h1];exact .fz h2 h
 |hs b=>obtain⟨v,h1,h2⟩:=a.2.Ht hs;rw[h1];exact .hs h2 h
 |nu b=>obtain⟨v,h1,h2⟩:=a.2.QD hs;rw[h1];exact .hs (Rp.mono (aP.trans lo_le) h2) h
 |ow n xs =>
  obtain⟨k,z0⟩:=a
  obtain⟨O1,O2,p,vs,rfl,h1,h2,_⟩:=z0.rW hs
  rw[h1]
  exact .hs ⟨p,vs,rfl,k.one.2.2,h2.imp λ_ _=>Rp.mono (BX k n)⟩ h
 |od kvs=>exact .un h
 |ob n a=>exact .un h
def J7(sl:SL K)(n:Nat)(ix:List Nat):SL K:=replicate n .un++ix.map λj=>QW ((sl[j]?).getD .un)
theorem DG(a:At B sl F O H σ)(L:Hp)(n:Nat):∀(ix:List Nat),(∀j∈ix,j<sl.length)->ak B F L H (J7 sl n ix) (m9 σ n ix) []:=λix hix=>by
 unfold J7 m9
 induction n with
 |zero =>
  show ak B F L H ([]++_) ([]++_) []
  rw[nil_append,nil_append]
  induction ix with
  |nil=>exact .nil
  |cons j ix ih =>
   rw[map_cons,map_cons]
   have hl:=hix j mem_cons_self
   have hj:sl[j]?=some sl[j]:=List.getElem?_eq_getElem hl
   have z:=ak.one a L j hj (ih λk hk=>hix k (mem_cons_of_mem _ hk))
   rw[show(sl[j]?).getD .un=sl[j] by rw[hj]<;>rfl]
   exact z
 |succ n ih=>exact .un ih
inductive qz:SL K->SL K->Prop
 |nil:qz [] []
 |eq {s:Slot K} {a b:SL K}:qz a b->qz (s::a) (s::b)
 |un {s:Slot K} {a b:SL K}:qz a b->qz (s::a) (.un::b)
theorem ak.le1(l:qz sl sl2):∀{σ:St}{O:Own},ak B F L H sl σ O->O=[]->ak B F L H sl2 σ []:=by
 induction l with
 |nil=>intro σ O h e;subst e;exact h
 |eq _ ih =>
  intro σ O h e
  cases h with
  |un h=>exact .un (ih h e)
  |fz r h=>exact .fz r (ih h e)
  |hs r h=>exact .hs r (ih h e)
  |nu r h=>exact .nu r (ih h e)
  |ow r h=>cases e
  |od r h=>cases e
  |ob r h =>
   obtain⟨e1,e2⟩:=List.append_eq_nil_iff.mp e
   subst e1
   exact .ob r (ih h e2)
 |un _ ih =>
  intro σ O h e
  cases h with
  |un h=>exact .un (ih h e)
  |fz r h=>exact .un (ih h e)
  |hs r h=>exact .un (ih h e)
  |nu r h=>exact .un (ih h e)
  |ow r h=>cases e
  |od r h=>cases e
  |ob r h=>exact .un (ih h (List.append_eq_nil_iff.mp e).2)
theorem ak.le0(l:qz sl sl2)(h:ak B F L H sl σ []):ak B F L H sl2 σ []:=h.le1 l rfl
theorem xB{c:α->Option Bool}{f:α->Option β}{ix:List Nat}(hix:(ix.all λj=>decide (j<sl.length))=true)(hI:jQ=J7 sl no ix)(hi:Ei B sl n wi mi)(hg:Tg B jQ n g Lx)(hc:∀x,Et B (Lx x) tc (c x))(he:∀x,Ex B (Lx x) md te (f x))(hle:∀x,qz (Lx x) jQ) :
  Eo B sl md (zp no ix wi g tc te) (mi.bind λxs=>yU c f xs):=λzs hz F O H σ Q a k=>by
 cases mi with
 |none=>cases hz
 |some xs =>
  have hz:yU c f xs=some zs:=hz
  unfold yU at hz
  split at hz
  case isFalse=>cases hz
  rename_i hcap
  have hcl:=Hw hcap
  refine hi xs rfl F O H σ _ a λJ F' H' gr yl=>?_
  have a':=a.grow gr
  refine⟨λi m ys σ2 H2=>m=xs.length-i/\i<=xs.length/\∃(F2:Hp)(ws:List β),wB c f (xs.take i)=some ws/\bh B F' H' O F2 H2/\ak B F2 (lo F2 [] H2) H2 jQ σ2 []/\A2 (rp K (reg B F2 H2 md)) ys ws,
   ⟨xs.length,rfl,Nat.zero_le _,F',[],rfl,.refl a'.1,?_,trivial⟩,?_⟩
  ·rw[hI]
   exact DG a' _ no ix λj hj=>by simpa using(all_eq_true.mp hix) j hj
  rintro i m ys σ2 H2 ⟨rfl,hil,F2,ws,hw,g2,s2,r2⟩
  have hyl:ys.length<=xs.length:=by
   rw[r2.len]
   exact Nat.le_trans (Xd c f hw) (by rw[length_take];omega)
  obtain⟨y1,y2⟩:=yl i F2 O H2 g2.ff g2.ok
  by_cases hlt:i<xs.length
  ·obtain⟨go,y3⟩:=y2 xs[i] (List.getElem?_eq_getElem hlt)
   obtain⟨ws',hw'⟩:=zNo (i+1) hz
   refine .inr ⟨go,by omega,λys σ2 H2=>∃(F2:Hp),bh B F' H' O F2 H2/\ak B F2 (lo F2 [] H2) H2 jQ σ2 []/\A2 (rp K (reg B F2 H2 md)) ys ws',λys' σ' H' ⟨F3,z1,z2,z3⟩=>⟨xs.length-(i+1),by omega,rfl,hlt,F3,ws',hw',z1,z2,z3⟩,λv H3 yd=>?_⟩
   obtain⟨F3,g3,r3⟩:=y3 v H3 yd
   have g23:=g2.trans g3
   have at3:At B jQ F3 [] H3 σ2:=⟨g3.ok.nil,s2.mono g3.ff (zP3 ⟨g3.ff,g3.hh,g3.ok.nil,g3.nw⟩) g3.hh⟩
   refine hg v xs[i] F3 [] H3 σ2 _ at3 r3 λσ4 a4=>?_
   have back:∀{F5 H5:Hp},bh B F3 H3 [] F5 H5->bh B F' H' O F5 H5/\ak B F5 (lo F5 [] H5) H5 jQ σ4 []:=λ{F5 H5} g5=>⟨g23.trans (bh.lift g3.ok g5),(a4.grow g5).2.le0 (hle xs[i])⟩
   rcases zNp hw' hw (List.getElem?_eq_getElem hlt) with⟨e1,rfl⟩|⟨y,e1,e2,rfl⟩
   ·refine hc xs[i] false e1 F3 [] H3 σ4 _ a4 λF5 H5 g5=>lH ?_
    obtain⟨z1,z2⟩:=back g5
    exact⟨F5,z1,z2,r2.imp λ_ _=>Rp.mono (wE (g3.trans (bh.lift g3.ok g5)) md)⟩
   ·refine hc xs[i] true e1 F3 [] H3 σ4 _ a4 λF5 H5 g5=>lJ ?_
    refine he xs[i] y e2 F5 [] H5 σ4 _ (a4.grow g5) λw F6 H6 g6 r6=>?_
    obtain⟨z1,z2⟩:=back (g5.trans g6)
    exact⟨F6,z1,z2,(r2.imp λ_ _=>Rp.mono (wE (g3.trans (bh.lift g3.ok (g5.trans g6))) md)).snoc r6⟩
  ·have e:i=xs.length:=by omega
   subst e
   rw[take_length,hz] at hw
   cases hw
   exact .inl ⟨y1 (Nat.le_refl _),by omega,λp hp=>k p ys F2 H2 (gr.trans g2) hp r2⟩
abbrev isF:Slot K->Bool
 |@Slot.fz _ false _ _ _=>true
 |_=>false
theorem zEh{as:SL K}(k:Nat)(hf:as.all isF=true)(r:Ar F as vs):ak ⟨F,H⟩ F L' H (as++replicate k .un) (vs.map some++replicate k none) []:=by
 induction r with
 |nil =>
  show ak _ _ _ _ ([]++_) ([]++_) []
  rw[nil_append,nil_append]
  induction k with
  |zero=>exact .nil
  |succ k ih=>exact .un ih
 |@cons n _ _ _ _ _ _ r _ ih =>
  rw[all_cons,Bool.and_eq_true] at hf
  cases n with
  |false=>exact .fz r (ih hf.2)
  |true=>exact absurd hf.1 (by simp)
theorem Ar.len(r:Ar F as vs):vs.length=as.length:=by
 induction r with
 |nil=>rfl
 |cons _ _ ih=>rw[length_cons,length_cons,ih]
theorem zLg{A:Type}{as:A->SL K}{f:A->Option β}{N:List Str}(hf:∀a,(as a).all isF=true)(hl:∀a,(as a).length=np)(hb:∀Fa a,SB ⟨Fa,H⟩ (as a++replicate (N.length-np) .un) t al (f a))(h:bV K al as f vs H Q E):t { nx:=λ_ H'=>Q .non H',rt:=Q } (L2.start N vs) H:=by
 obtain⟨a,b,Fa,s,hfa,r,q⟩:=h
 have e:L2.start N vs=vs.map some++replicate (N.length-np) none:=by
  unfold L2.start
  rw[r.len,hl]
 rw[e]
 refine hb Fa a b hfa Fa _ _ H ⟨Fa,[],.refl _,⟨s,.refl _,λb o h=>.inl h,λx hx=>(by cases hx),(by simp)⟩,zEh _ (hf a) r⟩ (λv H' z=>q v H' z.1 z.2)
theorem Xe{A:Type}{as:A->SL K}{f:A->Option β}(hl:∀a,(as a).length=np)(h:bV K al as f vs H Q E):vs.length=np:=by
 obtain⟨a,b,Fa,s,hfa,r,q⟩:=h
 rw[r.len,hl]
end
open PySem.SeqAt (EqAt RcAt RcNeAt)
class Eqv (K:PySem.W.Frag) (α:Type) [Rp K α] [DecidableEq α] where
 dep:Nat
 det:∀{H:Hp}{v:V}{a b:α},rp K H v a->rp K H v b->a=b
 z8:∀{X:Cx}{pins:List (Addr×Obj)}{σ:St}{H:Hp}{s:Shared},Inv X pins σ H s->∀{A:Around},A.units+dep<cLine->∀{v w:V}{u u':Value}{a b:α},rp K H v a->rp K H w b->RelV v u->RelV w u'->EqAt A s u u' (decide (a=b))
 J8:∀{X:Cx}{pins:List (Addr×Obj)}{σ:St}{H:Hp}{s:Shared},Inv X pins σ H s->∀{A:Around},A.units+dep<cLine->∀{v w:V}{u u':Value}{a b:α},rp K H v a->rp K H w b->RelV v u->RelV w u'->RcAt A s u u' (decide (a=b))
 J9:∀{X:Cx}{pins:List (Addr×Obj)}{σ:St}{H:Hp}{s:Shared},Inv X pins σ H s->∀{A:Around},A.units+dep<cLine->∀{v w:V}{u u':Value}{a b:α},rp K H v a->rp K H w b->RelV v u->RelV w u'->RcNeAt A s u u' (!decide (a=b))
section
variable{K:PySem.W.Frag}
theorem iC{α:Type}[BEq α][LawfulBEq α][DecidableEq α](a b:α):(a==b)=decide (a=b):=by
 by_cases h:a=b
 ·subst h;simp
 ·simp[h]
instance:Eqv K Int where
 dep:=0
 det h1 h2:=by cases h1;cases h2;rfl
 z8 _ _ _ _ _ _ _ _ _ h1 h2 r1 r2:=by cases h1;cases h2;obtain⟨t,rfl⟩:=r1;obtain⟨t',rfl⟩:=r2;rw[<-iC];exact EqAt.int_int _ _ _ _
 J8 _ _ _ _ _ _ _ _ _ h1 h2 r1 r2:=by cases h1;cases h2;obtain⟨t,rfl⟩:=r1;obtain⟨t',rfl⟩:=r2;rw[<-iC];exact RcAt.int_int _ _ _ _
 J9 _ _ _ _ _ _ _ _ _ h1 h2 r1 r2:=by cases h1;cases h2;obtain⟨t,rfl⟩:=r1;obtain⟨t',rfl⟩:=r2;rw[<-iC];exact RcNeAt.int_int _ _ _ _
instance:Eqv K Str where
 dep:=0
 det h1 h2:=by cases h1;cases h2;rfl
 z8 _ _ _ _ _ _ _ _ _ h1 h2 r1 r2:=by cases h1;cases h2;obtain⟨t,rfl⟩:=r1;obtain⟨t',rfl⟩:=r2;rw[<-iC];exact EqAt.str_str _ _ _ _
 J8 _ _ _ _ _ _ _ _ _ h1 h2 r1 r2:=by cases h1;cases h2;obtain⟨t,rfl⟩:=r1;obtain⟨t',rfl⟩:=r2;rw[<-iC];exact RcAt.str_str _ _ _ _
 J9 _ _ _ _ _ _ _ _ _ h1 h2 r1 r2:=by cases h1;cases h2;obtain⟨t,rfl⟩:=r1;obtain⟨t',rfl⟩:=r2;rw[<-iC];exact RcNeAt.str_str _ _ _ _
instance:Eqv K Bool where
 dep:=0
 det h1 h2:=by cases h1;cases h2;rfl
 z8 _ _ _ _ _ _ _ _ _ h1 h2 r1 r2:=by cases h1;cases h2;cases r1;cases r2;rw[<-iC];exact EqAt.bool_bool _ _
 J8 _ _ _ _ _ _ _ _ _ h1 h2 r1 r2:=by cases h1;cases h2;cases r1;cases r2;rw[<-iC];exact RcAt.bool_bool _ _
 J9 _ _ _ _ _ _ _ _ _ h1 h2 r1 r2:=by cases h1;cases h2;cases r1;cases r2;rw[<-iC];exact RcNeAt.bool_bool _ _
theorem Xf{a b:Int}:decide (some a=some b)=decide (a=b):=by simp
instance:Eqv K (Option Int) where
 dep:=0
 det {H v a b} h1 h2:=by
  cases a with
  |none=>cases b with
   |none=>rfl
   |some y=>exact absurd h1 h2.1
  |some x=>cases b with
   |none=>exact absurd h2 h1.1
   |some y=>cases h1.2;cases h2.2;rfl
 z8 {X pins σ H s} _ {A} _ {v w u u' a b} h1 h2 r1 r2:=by
  cases a with
  |none =>
   cases h1;cases r1
   cases b with
   |none=>cases h2;cases r2;exact EqAt.same _
   |some y=>cases h2.2;obtain⟨t',rfl⟩:=r2;exact EqAt.none_int _ _
  |some x =>
   cases h1.2;obtain⟨t,rfl⟩:=r1
   cases b with
   |none=>cases h2;cases r2;exact EqAt.int_none _ _
   |some y=>cases h2.2;obtain⟨t',rfl⟩:=r2;rw[Xf,<-iC];exact EqAt.int_int _ _ _ _
 J8 {X pins σ H s} _ {A} _ {v w u u' a b} h1 h2 r1 r2:=by
  cases a with
  |none =>
   cases h1;cases r1
   cases b with
   |none=>cases h2;cases r2;exact RcAt.none_none
   |some y=>cases h2.2;obtain⟨t',rfl⟩:=r2;exact RcAt.none_int _ _
  |some x =>
   cases h1.2;obtain⟨t,rfl⟩:=r1
   cases b with
   |none=>cases h2;cases r2;exact RcAt.int_none _ _
   |some y=>cases h2.2;obtain⟨t',rfl⟩:=r2;rw[Xf,<-iC];exact RcAt.int_int _ _ _ _
 J9 {X pins σ H s} _ {A} _ {v w u u' a b} h1 h2 r1 r2:=by
  cases a with
  |none =>
   cases h1;cases r1
   cases b with
   |none=>cases h2;cases r2;exact RcNeAt.none_none
   |some y=>cases h2.2;obtain⟨t',rfl⟩:=r2;exact RcNeAt.none_int _ _
  |some x =>
   cases h1.2;obtain⟨t,rfl⟩:=r1
   cases b with
   |none=>cases h2;cases r2;exact RcNeAt.int_none _ _
   |some y=>cases h2.2;obtain⟨t',rfl⟩:=r2;rw[Xf,<-iC];exact RcNeAt.int_int _ _ _ _
theorem A2.det{α β:Type}{R:α->β->Prop}(h:∀x y z,R x y->R x z->y=z):∀{xs:List α}{ys zs:List β},A2 R xs ys->A2 R xs zs->ys=zs
 |[],[],[],_,_=>rfl
 |_::_,_::_,_::_,h1,h2=>by rw[h _ _ _ h1.1 h2.1,A2.det h h1.2 h2.2]
 |[],_::_,_,h1,_=>h1.elim
 |[],[],_::_,_,h2=>h2.elim
 |_::_,[],_,h1,_=>h1.elim
 |_::_,_::_,[],_,h2=>h2.elim
theorem Ux{α:Type}[DecidableEq α]:∀{xs ys:List α},xs.length=ys.length->((List.range xs.length).all λj=>decide (xs[j]?=ys[j]?))=decide (xs=ys)
 |[],[],_=>by simp
 |x::xs,y::ys,h=>by
  have ih:=Ux (xs:=xs) (ys:=ys) (by simpa using h)
  rw[length_cons,List.range_succ_eq_map,all_cons,List.all_map]
  have e:((λj=>decide ((x::xs)[j]?=(y::ys)[j]?))∘Nat.succ)=λj=>decide (xs[j]?=ys[j]?):=by
   funext j
   simp
  rw[e,ih]
  by_cases h1:x=y<;>by_cases h2:xs=ys<;>simp[h1,h2]
 |[],_::_,h=>by simp at h
 |_::_,[],h=>by simp at h
theorem Nt{α:Type}[Rp K α]{xs:List α}(r:Vals vs us)(h:A2 (rp K H) vs xs)(j:Nat)(hj:j<us.toArray.size):∃v x,xs[j]?=some x/\rp K H v x/\RelV v us.toArray[j]:=by
 have l1:j<vs.length:=by rw[r.length];simpa using hj
 obtain⟨u,hu,ru⟩:=r.get (List.getElem?_eq_getElem l1)
 obtain⟨x,hx,rx⟩:=h.at1 (List.getElem?_eq_getElem l1)
 refine⟨vs[j],x,hx,rx,?_⟩
 have e1:us.toArray[j]=u:=by
  have:us[j]?=some u:=hu
  rw[List.getElem?_eq_getElem (by simpa using hj)] at this
  simpa using this
 rw[e1]
 exact ru
theorem QX{A:Around}:A.in1.units=A.units+1:=rfl
instance{α:Type}[Rp K α][DecidableEq α][Eqv K α]:Eqv K (List α) where
 dep:=Eqv.dep K α+1
 det {H v a b} h1 h2:=by
  obtain⟨p,vs,rfl,h1,r1⟩:=h1
  obtain⟨p',vs',e,h2,r2⟩:=h2
  cases e
  cases h1.symm.trans h2
  exact A2.det (R:=rp K H) (λ_ _ _ z1 z2=>Eqv.det (K:=K) z1 z2) r1 r2
 J8 {X pins σ H s} I {A} hu {v w u u' a b} h1 h2 q1 q2:=by
  obtain⟨p,vs,rfl,h1,r1⟩:=h1
  obtain⟨p',ws,rfl,h2,r2⟩:=h2
  cases q1;cases q2
  obtain⟨us,s1,p1,_⟩:=I.list (aV.of h1)
  obtain⟨us',s2,p2,_⟩:=I.list (aV.of h2)
  have n1:us.toArray.size=a.length:=by rw[size_toArray,<-r1.len];exact s1.length.symm
  have n2:us'.toArray.size=b.length:=by rw[size_toArray,<-r2.len];exact s2.length.symm
  by_cases hl:a.length=b.length
  ·have z:=RcAt.lists (e:=λj=>decide (a[j]?=b[j]?)) p1.isList p2.isList (by rw[n1,n2];exact hl) (Nat.lt_of_le_of_lt (Nat.le_add_right _ _) hu) (λj h1 h2=>by
    obtain⟨v,x,e1,e2,e3⟩:=Nt s1 r1 j h1
    obtain⟨w,y,f1,f2,f3⟩:=Nt s2 r2 j h2
    rw[e1,f1]
    have z:=Eqv.z8 (K:=K) I (A:=A.in1) (by rw[QX];omega) e2 f2 e3 f3
    simpa using z)
   rw[n1,Ux hl] at z
   exact z
  ·rw[show decide (a=b)=false by simp;intro e;exact hl (by rw[e])]
   exact RcAt.lists_lengths p1.isList p2.isList (by rw[n1,n2];exact bne_iff_ne.mpr hl) (Nat.lt_of_le_of_lt (Nat.le_add_right _ _) hu)
 J9 {X pins σ H s} I {A} hu {v w u u' a b} h1 h2 q1 q2:=by
  obtain⟨p,vs,rfl,h1,r1⟩:=h1
  obtain⟨p',ws,rfl,h2,r2⟩:=h2
  cases q1;cases q2
  obtain⟨us,s1,p1,_⟩:=I.list (aV.of h1)
  obtain⟨us',s2,p2,_⟩:=I.list (aV.of h2)
  have n1:us.toArray.size=a.length:=by rw[size_toArray,<-r1.len];exact s1.length.symm
  have n2:us'.toArray.size=b.length:=by rw[size_toArray,<-r2.len];exact s2.length.symm
  by_cases hl:a.length=b.length
  ·have z:=RcNeAt.lists (e:=λj=>decide (a[j]?=b[j]?)) p1.isList p2.isList (by rw[n1,n2];exact hl) (Nat.lt_of_le_of_lt (Nat.le_add_right _ _) hu) (λj h1 h2=>by
    obtain⟨v,x,e1,e2,e3⟩:=Nt s1 r1 j h1
    obtain⟨w,y,f1,f2,f3⟩:=Nt s2 r2 j h2
    rw[e1,f1]
    have z:=Eqv.z8 (K:=K) I (A:=A.in1) (by rw[QX];omega) e2 f2 e3 f3
    simpa using z)
   rw[n1,Ux hl] at z
   exact z
  ·rw[show decide (a=b)=false by simp;intro e;exact hl (by rw[e])]
   exact RcNeAt.lists_lengths p1.isList p2.isList (by rw[n1,n2];exact bne_iff_ne.mpr hl) (Nat.lt_of_le_of_lt (Nat.le_add_right _ _) hu)
 z8 {X pins σ H s} I {A} hu {v w u u' a b} h1 h2 q1 q2:=by
  obtain⟨p,vs,rfl,h1,r1⟩:=h1
  obtain⟨p',ws,rfl,h2,r2⟩:=h2
  cases q1;cases q2
  by_cases hp:p=p'
  ·subst hp
   cases h1.symm.trans h2
   rw[show a=b from A2.det (R:=rp K H) (λ_ _ _ z1 z2=>Eqv.det (K:=K) z1 z2) r1 r2]
   simp
   exact EqAt.same _
  ·refine EqAt.of_refs hp ?_
   obtain⟨us,s1,p1,_⟩:=I.list (aV.of h1)
   obtain⟨us',s2,p2,_⟩:=I.list (aV.of h2)
   have n1:us.toArray.size=a.length:=by rw[size_toArray,<-r1.len];exact s1.length.symm
   have n2:us'.toArray.size=b.length:=by rw[size_toArray,<-r2.len];exact s2.length.symm
   by_cases hl:a.length=b.length
   ·have z:=RcAt.lists (e:=λj=>decide (a[j]?=b[j]?)) p1.isList p2.isList (by rw[n1,n2];exact hl) (Nat.lt_of_le_of_lt (Nat.le_add_right _ _) hu) (λj h1 h2=>by
     obtain⟨v,x,e1,e2,e3⟩:=Nt s1 r1 j h1
     obtain⟨w,y,f1,f2,f3⟩:=Nt s2 r2 j h2
     rw[e1,f1]
     have z:=Eqv.z8 (K:=K) I (A:=A.in1) (by rw[QX];omega) e2 f2 e3 f3
     simpa using z)
    rw[n1,Ux hl] at z
    exact z
   ·rw[show decide (a=b)=false by simp;intro e;exact hl (by rw[e])]
    exact RcAt.lists_lengths p1.isList p2.isList (by rw[n1,n2];exact bne_iff_ne.mpr hl) (Nat.lt_of_le_of_lt (Nat.le_add_right _ _) hu)
theorem zSv{α β:Type}[DecidableEq α][DecidableEq β](a b:α×β):((List.range (min 2 2)).all (λj=>if j=0 then decide (a.1=b.1) else decide (a.2=b.2))&&((2:Nat)==2))=decide (a=b):=by
 obtain⟨a1,a2⟩:=a
 obtain⟨b1,b2⟩:=b
 by_cases h1:a1=b1<;>by_cases h2:a2=b2<;>simp[range_succ,h1,h2]
theorem vals2(h:Vals [v1,v2] us):∃u1 u2,us=[u1,u2]/\RelV v1 u1/\RelV v2 u2:=by
 cases h with
 |cons a1 h=>cases h with
  |cons a2 h=>cases h;exact⟨_,_,rfl,a1,a2⟩
section
variable{α β:Type}[Rp K α][DecidableEq α][Eqv K α][Rp K β][DecidableEq β][Eqv K β]{X:Cx}{pins:List (Addr×Obj)}{σ:St}{H:Hp}{s:Shared}{A:Around}{a b:α×β}{p p':Addr}{v1 v2 w1 w2:V}
theorem zMz(I:Inv X pins σ H s)(hu:A.units+(Eqv.dep K α+Eqv.dep K β+1)<cLine)(r1:rp K H v1 a.1)(r2:rp K H v2 a.2)(z1:rp K H w1 b.1)(z2:rp K H w2 b.2)(a1:RelV v1 u1)(a2:RelV v2 u2)(b1:RelV w1 t1)(b2:RelV w2 t2) :
  ∀(j:Nat)(h1:j < #[u1,u2].size)(h2:j < #[t1,t2].size),EqAt A.in1 s #[u1,u2][j] #[t1,t2][j] (if j=0 then decide (a.1=b.1) else decide (a.2=b.2)):=by
 intro j h1 h2
 have hj:j=0\/j=1:=by
  have:j<2:=h1
  omega
 rcases hj with rfl|rfl
 ·exact Eqv.z8 (K:=K) I (A:=A.in1) (by rw[QX];omega) r1 z1 a1 b1
 ·exact Eqv.z8 (K:=K) I (A:=A.in1) (by rw[QX];omega) r2 z2 a2 b2
theorem Xg(I:Inv X pins σ H s)(hu:A.units+(Eqv.dep K α+Eqv.dep K β+1)<cLine)(h1:H p=some (.tup [v1,v2]))(h2:H p'=some (.tup [w1,w2]))(r1:rp K H v1 a.1)(r2:rp K H v2 a.2)(z1:rp K H w1 b.1)(z2:rp K H w2 b.2) :
  RcAt A s (.ref p) (.ref p') (decide (a=b))/\RcNeAt A s (.ref p) (.ref p') (!decide (a=b)):=by
 obtain⟨us,s1,p1,_⟩:=I.tuple (.inl (.inl h1))
 obtain⟨us',s2,p2,_⟩:=I.tuple (.inl (.inl h2))
 obtain⟨u1,u2,rfl,a1,a2⟩:=vals2 s1
 obtain⟨t1,t2,rfl,b1,b2⟩:=vals2 s2
 have he:=zMz (A:=A) I hu r1 r2 z1 z2 a1 a2 b1 b2
 have hu':A.units<cLine:=Nat.lt_of_le_of_lt (Nat.le_add_right _ _) hu
 have q1:=RcAt.tuples p1 p2 hu' he
 have q2:=RcNeAt.tuples p1 p2 hu' he
 rw[<-zSv]
 exact⟨q1,q2⟩
end
instance{α β:Type}[Rp K α][DecidableEq α][Eqv K α][Rp K β][DecidableEq β][Eqv K β]:Eqv K (α×β) where
 dep:=Eqv.dep K α+Eqv.dep K β+1
 det {H v a b} h1 h2:=by
  obtain⟨p,v1,v2,rfl,h1,r1,r2⟩:=h1
  obtain⟨p',w1,w2,e,h2,q1,q2⟩:=h2
  cases e
  cases h1.symm.trans h2
  exact Prod.ext (Eqv.det (K:=K) r1 q1) (Eqv.det (K:=K) r2 q2)
 J8 {X pins σ H s} I {A} hu {v w u u' a b} h1 h2 q1 q2:=by
  obtain⟨p,v1,v2,rfl,h1,r1,r2⟩:=h1
  obtain⟨p',w1,w2,rfl,h2,z1,z2⟩:=h2
  cases q1;cases q2
  exact(Xg I hu h1 h2 r1 r2 z1 z2).1
 J9 {X pins σ H s} I {A} hu {v w u u' a b} h1 h2 q1 q2:=by
  obtain⟨p,v1,v2,rfl,h1,r1,r2⟩:=h1
  obtain⟨p',w1,w2,rfl,h2,z1,z2⟩:=h2
  cases q1;cases q2
  exact(Xg I hu h1 h2 r1 r2 z1 z2).2
 z8 {X pins σ H s} I {A} hu {v w u u' a b} h1 h2 q1 q2:=by
  obtain⟨p,v1,v2,rfl,h1,r1,r2⟩:=h1
  obtain⟨p',w1,w2,rfl,h2,z1,z2⟩:=h2
  cases q1;cases q2
  by_cases hp:p=p'
  ·subst hp
   cases h1.symm.trans h2
   rw[show a=b from Prod.ext (Eqv.det (K:=K) r1 z1) (Eqv.det (K:=K) r2 z2)]
   simp
   exact EqAt.same _
  ·exact EqAt.of_refs hp (Xg I hu h1 h2 r1 r2 z1 z2).1
def DK(K:PySem.W.Frag)(α:Type)[Rp K α][DecidableEq α](neg:Bool):R2:=λx y H Q=>∃a b:α,rp K H x a/\rp K H y b/\Q (.bl (if neg=true then !decide (a=b) else decide (a=b))) H
theorem uZ(K:PySem.W.Frag)(α:Type)[Rp K α][DecidableEq α][Eqv K α]{X:Cx}(hr:bJ k X.A)(hd:Eqv.dep K α<=64:=by exact Nat.le_of_ble_eq_true rfl):iB X (compareOp .Eq) (DK K α false):=by
 intro pins s σ H x y v u Q I rx ry h
 obtain⟨a,b,h1,h2,q⟩:=h
 exact Eqv.J8 (K:=K) I (A:=X.A) (by have:=hr.units;omega) h1 h2 rx ry _ _ _ _ ⟨.bl (decide (a=b)),H,I,rfl,q⟩
theorem wg(K:PySem.W.Frag)(α:Type)[Rp K α][DecidableEq α][Eqv K α]{X:Cx}(hr:bJ k X.A)(hd:Eqv.dep K α<=64:=by exact Nat.le_of_ble_eq_true rfl):iB X (compareOp .NotEq) (DK K α true):=by
 intro pins s σ H x y v u Q I rx ry h
 obtain⟨a,b,h1,h2,q⟩:=h
 exact Eqv.J9 (K:=K) I (A:=X.A) (by have:=hr.units;omega) h1 h2 rx ry _ _ _ _ ⟨.bl (!decide (a=b)),H,I,rfl,q⟩
variable{B:Bs}{sl:SL K}{md W8:Md}{α β:Type}[Rp K α][Rp K β]{t1 t2 t:TE}
theorem qM[DecidableEq α]{m1 m2:Option α}(h1:Ex B sl .hp t1 m1)(h2:Ex B sl .hp t2 m2):Ex B sl md (dN (DK K α false) t1 t2) (m1.bind λa=>m2.bind λb=>some (decide (a=b))) :=
 tV (f:=λa b=>some (decide (a=b))) (λa b c v w H Q e r1 r2 q=>by cases e;exact⟨a,b,r1,r2,q⟩) h1 h2
theorem wj[DecidableEq α]{m1 m2:Option α}(h1:Ex B sl .hp t1 m1)(h2:Ex B sl .hp t2 m2):Ex B sl md (dN (DK K α true) t1 t2) (m1.bind λa=>m2.bind λb=>some (!decide (a=b))) :=
 tV (f:=λa b=>some (!decide (a=b))) (λa b c v w H Q e r1 r2 q=>by cases e;exact⟨a,b,r1,r2,q⟩) h1 h2
section
variable{m1 m2:Option Int}
theorem Nu{g:Int->Int->V}{f:Int->Int->α}[Sc K α](hg:∀i j,g i j=Sc.val K (f i j))(h1:Ex B sl .hp t1 m1)(h2:Ex B sl .hp t2 m2):Ex B sl md (dN (pJ g) t1 t2) (m1.bind λa=>m2.bind λb=>some (f a b)) :=
 tV (f:=λa b=>some (f a b)) (λa b c v w H Q e r1 r2 q=>by cases e;cases r1;cases r2;exact⟨a,b,rfl,rfl,by rw[hg];exact q⟩) h1 h2
theorem xO(h1:Ex B sl .hp t1 m1)(h2:Ex B sl .hp t2 m2):Ex B sl md (dN (pJ λi j=>.int (i+j)) t1 t2) (m1.bind λa=>m2.bind λb=>some (a+b)):=Nu (λ_ _=>rfl) h1 h2
theorem Uy(h1:Ex B sl .hp t1 m1)(h2:Ex B sl .hp t2 m2):Ex B sl md (dN (pJ λi j=>.int (i-j)) t1 t2) (m1.bind λa=>m2.bind λb=>some (a-b)):=Nu (λ_ _=>rfl) h1 h2
theorem DN(h1:Ex B sl .hp t1 m1)(h2:Ex B sl .hp t2 m2):Ex B sl md (dN (pJ λi j=>.bl (decide (i<j))) t1 t2) (m1.bind λa=>m2.bind λb=>some (decide (a<b))):=Nu (λ_ _=>rfl) h1 h2
theorem Uz(h1:Ex B sl .hp t1 m1)(h2:Ex B sl .hp t2 m2):Ex B sl md (dN (pJ λi j=>.bl (decide (j<i))) t1 t2) (m1.bind λa=>m2.bind λb=>some (decide (b<a))):=Nu (λ_ _=>rfl) h1 h2
theorem HD(h1:Ex B sl .hp t1 m1)(h2:Ex B sl .hp t2 m2):Ex B sl md (dN (pJ λi j=>.bl (decide (j<=i))) t1 t2) (m1.bind λa=>m2.bind λb=>some (decide (b<=a))):=Nu (λ_ _=>rfl) h1 h2
def mulM(a b:Int):Option Int:=if(-(2^64)<a/\a<2^64)\/(-(2^64)<b/\b<2^64) then some (a*b) else none
def bT(a b:Int):Option Int:=if 0<b then some (a%b) else none
def iD(a b:Int):Option Int:=if 0<b/\b<1073741824 then some (a/b) else none
def oG(a b:Int):Option Int:=if 0<=b/\b<=1000000/\a.natAbs<2^64 then some (a^b.toNat) else none
theorem J_(h1:Ex B sl .hp t1 m1)(h2:Ex B sl .hp t2 m2):Ex B sl md (dN (rI CP λi j=>.int (i*j)) t1 t2) (m1.bind λa=>m2.bind λb=>mulM a b) :=
 tV (f:=mulM) (λa b c v w H Q e r1 r2 q=>by
  unfold mulM at e
  split at e
  case isFalse=>cases e
  rename_i hc
  cases e;cases r1;cases r2
  exact⟨a,b,rfl,rfl,hc,q⟩) h1 h2
theorem wJ(h1:Ex B sl .hp t1 m1)(h2:Ex B sl .hp t2 m2):Ex B sl md (dN (rI (λ_ j=>0<j) λi j=>.int (i%j)) t1 t2) (m1.bind λa=>m2.bind λb=>bT a b) :=
 tV (f:=bT) (λa b c v w H Q e r1 r2 q=>by
  unfold bT at e
  split at e
  case isFalse=>cases e
  rename_i hc
  cases e;cases r1;cases r2
  exact⟨a,b,rfl,rfl,hc,q⟩) h1 h2
theorem z_(h1:Ex B sl .hp t1 m1)(h2:Ex B sl .hp t2 m2):Ex B sl md (dN (rI Qa λi j=>.int (i/j)) t1 t2) (m1.bind λa=>m2.bind λb=>iD a b) :=
 tV (f:=iD) (λa b c v w H Q e r1 r2 q=>by
  unfold iD at e
  split at e
  case isFalse=>cases e
  rename_i hc
  cases e;cases r1;cases r2
  exact⟨a,b,rfl,rfl,hc,q⟩) h1 h2
theorem Xh(h1:Ex B sl .hp t1 m1)(h2:Ex B sl .hp t2 m2):Ex B sl md (dN (rI CN λi j=>.int (i^j.toNat)) t1 t2) (m1.bind λa=>m2.bind λb=>oG a b) :=
 tV (f:=oG) (λa b c v w H Q e r1 r2 q=>by
  unfold oG at e
  split at e
  case isFalse=>cases e
  rename_i hc
  cases e;cases r1;cases r2
  exact⟨a,b,rfl,rfl,hc,q⟩) h1 h2
end
theorem A2.aH(h:A2 R vs xs)(e:L2.aH xs i=some a):∃v,L2.aH vs i=some v/\R v a:=by
 unfold L2.aH at e ⊢
 rw[h.len]
 cases q:qK xs.length i with
 |none=>rw[q] at e;cases e
 |some j=>rw[q] at e;exact h.at2 e
theorem yS{m1:Option (List α)}{m2:Option Int}(h1:Ex B sl md t1 m1)(h2:Ex B sl .hp t2 m2):Ex B sl md (dN (tL K) t1 t2) (m1.bind λxs=>m2.bind λi=>L2.aH xs i):=λc hc F O H σ Q s k=>by
 obtain⟨xs,i,e1,e2,e3⟩:=m6 hc
 refine h1 xs e1 F O H σ _ s λv F' H' g r1=>?_
 refine h2 i e2 F' O H' σ _ (s.grow g) λw F2 H2 g2 r2=>?_
 cases r2
 obtain⟨p,vs,rfl,z1,z2⟩:=r1
 obtain⟨u,y1,y2⟩:=z2.aH e3
 have hle:Same (reg B F' H' md) H2:=(match md with
  |.nw=>aP.trans g.ok.fh
  |.fz=>g.ok.fh
  |.hp=>.refl _:Same (reg B F' H' md) H').trans g2.hh
 exact⟨p,vs,i,u,rfl,rfl,aV.of (hle _ _ z1),y1,k u F2 H2 (g.trans g2) (Rp.mono (wE g2 md) y2)⟩
theorem Ka{m:Option (α×β)}(h1:Ex B sl md t1 m)(h2:Ex B sl .hp t2 (some (0:Int))):Ex B sl md (dN (kZ K) t1 t2) (m.bind λx=>some x.1):=λc hc F O H σ Q s k=>by
 cases m with
 |none=>cases hc
 |some x =>
  cases(show some x.1=some c from hc)
  refine h1 x rfl F O H σ _ s λv F' H' g r1=>?_
  refine h2 0 rfl F' O H' σ _ (s.grow g) λw F2 H2 g2 r2=>?_
  cases r2
  obtain⟨p,v1,v2,rfl,z1,z2,z3⟩:=r1
  have hle:Same (reg B F' H' md) H2:=(match md with
   |.nw=>aP.trans g.ok.fh
   |.fz=>g.ok.fh
   |.hp=>.refl _:Same (reg B F' H' md) H').trans g2.hh
  exact⟨p,[v1,v2],0,v1,rfl,rfl,.inl (.inl (hle _ _ z1)),rfl,k v1 F2 H2 (g.trans g2) (Rp.mono (wE g2 md) z2)⟩
theorem Kc{m:Option (α×β)}(h1:Ex B sl md t1 m)(h2:Ex B sl .hp t2 (some (1:Int))):Ex B sl md (dN (kZ K) t1 t2) (m.bind λx=>some x.2):=λc hc F O H σ Q s k=>by
 cases m with
 |none=>cases hc
 |some x =>
  cases(show some x.2=some c from hc)
  refine h1 x rfl F O H σ _ s λv F' H' g r1=>?_
  refine h2 1 rfl F' O H' σ _ (s.grow g) λw F2 H2 g2 r2=>?_
  cases r2
  obtain⟨p,v1,v2,rfl,z1,z2,z3⟩:=r1
  have hle:Same (reg B F' H' md) H2:=(match md with
   |.nw=>aP.trans g.ok.fh
   |.fz=>g.ok.fh
   |.hp=>.refl _:Same (reg B F' H' md) H').trans g2.hh
  exact⟨p,[v1,v2],1,v2,rfl,rfl,.inl (.inl (hle _ _ z1)),rfl,k v2 F2 H2 (g.trans g2) (Rp.mono (wE g2 md) z3)⟩
abbrev DP(K:PySem.W.Frag):List V->Hp->VK->Prop:=λxs H Q=>∃p ys,xs=[.ref p]/\(aV K H p ys\/ou K H p ys)/\Q (.int ys.length) H
theorem wQ{m:Option (List α)}(h:Ex B sl .hp t m):Ex B sl md (rT (DP K) (xG t bF)) (m.bind λxs=>some (xs.length:Int)):=λc hc F O H σ Q s k=>by
 cases m with
 |none=>cases hc
 |some xs =>
  cases(show some (xs.length:Int)=some c from hc)
  refine h xs rfl F O H σ _ s λv F' H' g r1=>?_
  obtain⟨p,vs,rfl,z1,z2⟩:=r1
  exact⟨p,vs,rfl,.inl (aV.of z1),k _ F' H' g (by show V.int vs.length=V.int xs.length;rw[z2.len])⟩
abbrev HF(K:PySem.W.Frag):List V->Hp->VK->Prop:=λxs H Q=>∃p ys,xs=[V.ref p]/\(aV K H p ys\/ou K H p ys)/\∀l,H l=none->Q (.ref l) (upd H l (.lst ys))
theorem A2.sc{F F':Hp}[Sc K α]{vs:List V}{xs:List α}(h:A2 (rp K F) vs xs):A2 (rp K F') vs xs:=h.imp λ_ _=>QC
theorem uS[Sc K α]{m:Option (List α)}(h:Ex B sl .hp t m):Eo B sl md (rT (HF K) (xG t bF)) m:=λc hc F O H σ Q s k=>by
 refine h c hc F O H σ _ s λv F' H' g r1=>?_
 obtain⟨p,vs,rfl,z1,z2⟩:=r1
 exact⟨p,vs,rfl,.inl (aV.of z1),λl hl=>k l vs F' H' g hl z2.sc⟩
class Fl (K:PySem.W.Frag) (α:Type) [Rp K α] [Sc K α] [DecidableEq α]:Prop where
 flat:∀a:α,BP (Sc.val K a)=true
 eq:∀a b:α,Dr (Sc.val K a) (Sc.val K b)=decide (a=b)
instance:Fl K Int:=⟨λ_=>rfl,λa b=>by show(a==b)=_;exact iC a b⟩
instance:Fl K Str:=⟨λ_=>rfl,λa b=>by show(a==b)=_;exact iC a b⟩
instance:Fl K Bool:=⟨λ_=>rfl,λa b=>by show(a==b)=_;exact iC a b⟩
instance:Fl K (Option Int):=⟨λa=>by cases a<;>rfl,λa b=>by
 cases a with
 |none=>cases b with
  |none=>rfl
  |some y=>rfl
 |some x=>cases b with
  |none=>rfl
  |some y=>show(x==y)=_;rw[iC];simp⟩
theorem A2.vals[Sc K α]:∀{vs:List V}{xs:List α},A2 (rp K F) vs xs->vs=xs.map (Sc.val K)
 |[],[],_=>rfl
 |_::_,_::_,h=>by rw[map_cons,Sc.is.mp h.1,A2.vals h.2]
 |[],_::_,h=>h.elim
 |_::_,[],h=>h.elim
theorem QZ[Sc K α][DecidableEq α][Fl K α](a:α):∀xs:List α,inV (Sc.val K a) (xs.map (Sc.val K))=decide (a∈xs)
 |[]=>by simp[inV]
 |x::xs=>by
  have ih:=QZ a xs
  unfold inV at ih ⊢
  rw[map_cons,any_cons,ih,Fl.eq]
  by_cases h1:x=a
  ·subst h1;simp
  ·by_cases h2:a∈xs<;>simp[h1,h2,Ne.symm h1]
theorem UG[Sc K α][DecidableEq α][Fl K α](xs:List α):(xs.map (Sc.val K)).all BP=true:=by
 rw[List.all_map,all_eq_true]
 intro x _
 exact Fl.flat x
theorem HJ[Sc K α][DecidableEq α][Fl K α]{m1:Option α}{m2:Option (List α)}(h1:Ex B sl .hp t1 m1)(h2:Ex B sl .hp t2 m2):Ex B sl md (dN (Hr K false) t1 t2) (m1.bind λa=>m2.bind λxs=>some (decide (a∈xs))) :=
 tV (f:=λa xs=>some (decide (a∈xs))) (λa b c v w H Q e r1 r2 q=>by
  cases e
  obtain⟨p,vs,rfl,z1,z2⟩:=r2
  have ev:=Sc.is.mp r1
  have es:=z2.vals
  subst ev es
  refine⟨p,_,rfl,.inl (aV.of z1),Fl.flat a,UG b,?_⟩
  have:=QZ (K:=K) a b
  simp only[Bool.false_eq_true,if_false]
  rw[this]
  exact q) h1 h2
theorem Kd[Sc K α][DecidableEq α][Fl K α]{m1:Option α}{m2:Option (List α)}(h1:Ex B sl .hp t1 m1)(h2:Ex B sl .hp t2 m2):Ex B sl md (dN (Hr K true) t1 t2) (m1.bind λa=>m2.bind λxs=>some (!decide (a∈xs))) :=
 tV (f:=λa xs=>some (!decide (a∈xs))) (λa b c v w H Q e r1 r2 q=>by
  cases e
  obtain⟨p,vs,rfl,z1,z2⟩:=r2
  have ev:=Sc.is.mp r1
  have es:=z2.vals
  subst ev es
  refine⟨p,_,rfl,.inl (aV.of z1),Fl.flat a,UG b,?_⟩
  have:=QZ (K:=K) a b
  simp only[if_true]
  rw[this]
  exact q) h1 h2
theorem DQ{m:Option (Option α)}(h:Ex B sl .hp t m):Ex B sl md (Pj t) (m.bind λa=>some a.isNone):=λc hc F O H σ Q s k=>by
 cases m with
 |none=>cases hc
 |some a =>
  cases(show some a.isNone=some c from hc)
  refine h a rfl F O H σ _ s λv F' H' g r1=>?_
  cases a with
  |none=>cases r1;exact k _ F' H' g rfl
  |some x=>rw[decide_eq_false r1.1];exact k _ F' H' g rfl
theorem zQr{m:Option (Option α)}(h:Ex B sl .hp t m):Ex B sl md (G8 t) (m.bind λa=>some a.isSome):=λc hc F O H σ Q s k=>by
 cases m with
 |none=>cases hc
 |some a =>
  cases(show some a.isSome=some c from hc)
  refine h a rfl F O H σ _ s λv F' H' g r1=>?_
  cases a with
  |none=>cases r1;exact k _ F' H' g rfl
  |some x=>rw[decide_eq_false r1.1];exact k _ F' H' g rfl
theorem tW{m:Option (Option α)}(h:Ex B sl md t m):Ex B sl md t (m.bind λa=>a):=λc hc F O H σ Q s k=>by
 cases m with
 |none=>cases hc
 |some a =>
  cases a with
  |none=>cases hc
  |some x =>
   have e:x=c:=Option.some.inj hc
   subst e
   exact h (some x) rfl F O H σ _ s λv F' H' g r1=>k v F' H' g r1.2
theorem zQp{m:Option tQ}(h:Ex B sl .hp t m):Ex B sl md (rT (DP K) (xG t bF)) (m.bind λxs=>some (xs.ns.length:Int)):=λc hc F O H σ Q s k=>by
 cases m with
 |none=>cases hc
 |some xs =>
  cases(show some (xs.ns.length:Int)=some c from hc)
  refine h xs rfl F O H σ _ s λv F' H' g r1=>?_
  obtain⟨p,rfl,z1⟩:=r1
  exact⟨p,_,rfl,.inl z1,k _ F' H' g (by show V.int (xs.ns.map V.int).length=V.int xs.ns.length;rw[length_map])⟩
theorem DW(h:L2.aH ns i=some z):L2.aH (ns.map V.int) i=some (.int z):=by
 unfold L2.aH at h ⊢
 rw[length_map]
 cases q:qK ns.length i with
 |none=>rw[q] at h;cases h
 |some j =>
  rw[q] at h
  show(ns.map V.int)[j]?=_
  have h:ns[j]?=some z:=h
  rw[getElem?_map,h]<;>rfl
theorem Ke{m1:Option tQ}{m2:Option Int}(h1:Ex B sl .hp t1 m1)(h2:Ex B sl .hp t2 m2):Ex B sl md (dN (tL K) t1 t2) (m1.bind λxs=>m2.bind λi=>L2.aH xs.ns i) :=
 tV (f:=λ(xs:tQ) (i:Int)=>L2.aH xs.ns i) (λa b c v w H Q e r1 r2 q=>by
  have r2:w=.int b:=r2
  subst r2
  obtain⟨p,rfl,z1⟩:=r1
  have q:Q (.int c) H:=q
  exact⟨p,a.ns.map V.int,b,.int c,rfl,rfl,z1,DW e,q⟩) h1 h2
theorem DX{m1 m2:Option Int}(h1:Ex B sl .hp t1 m1)(h2:Ex B sl .hp t2 m2):Ex B sl md (rT (λxs H Q=>∃i j,xs=[.int i,.int j]/\Q (.int (if j > i then j else i)) H) (xG t1 (xG t2 bF))) (m1.bind λa=>m2.bind λb=>some (max a b)):=λc hc F O H σ Q s k=>by
 obtain⟨a,b,e1,e2,e3⟩:=m6 hc
 cases e3
 refine h1 a e1 F O H σ _ s λv F' H' g r1=>?_
 refine h2 b e2 F' O H' σ _ (s.grow g) λw F2 H2 g2 r2=>?_
 cases r1;cases r2
 exact⟨a,b,rfl,by rw[show(if b > a then b else a)=max a b by split<;>omega];exact k _ F2 H2 (g.trans g2) rfl⟩
class Ty (K:PySem.W.Frag) (α:Type) [Rp K α] where
 ty:Value
 is:∀{H:Hp}{v:V}{a:α},rp K H v a->jx K H v ty
instance:Ty K Int:=⟨.type "int",λh=>by cases h;exact .int _⟩
instance:Ty K Bool:=⟨.type "bool",λh=>by cases h;exact .bl _⟩
instance:Ty K Str:=⟨.type "str",λh=>by cases h;exact .str _⟩
instance:Ty K (List α):=⟨.type "list",λ⟨p,vs,e,h,_⟩=>by rw[e];exact .lst h⟩
instance:Ty K (α×β):=⟨.type "tuple",λ⟨p,_,_,e,h,_⟩=>by rw[e];exact .tup h⟩
theorem DY[Ty K α]{c:Value}{y:V}{b:Bool}{m:Option α}(hb:kitOne K (Ty.ty K α) c=some b)(hy:RelV y c)(h:Ex B sl .hp t m):Ex B sl md (rT (J2 K c) (xG t (xG (tC y) bF))) (m.bind λ_=>some b):=λd hd F O H σ Q s k=>by
 cases m with
 |none=>cases hd
 |some a =>
  cases(show some b=some d from hd)
  refine h a rfl F O H σ _ s λv F' H' g r1=>?_
  exact⟨v,y,_,b,rfl,hy,Ty.is r1,hb,k _ F' H' g rfl⟩
end
def src(xss:List LI)(j:Nat):LI:=((List.range xss.length).filter λk=>decide ((j:Int)∈xss.getD k [])).map Int.ofNat
theorem iI{α:Type}{p q:α->Bool}:∀{l:List α},(∀x∈l,p x=q x)->l.filter p=l.filter q
 |[],_=>rfl
 |a::l,h=>by
  rw[filter_cons,filter_cons,h a mem_cons_self,iI λx hx=>h x (mem_cons_of_mem _ hx)]
theorem zR6(xss:List LI)(xs:LI)(j:Nat):src (xss++[xs]) j=src xss j++(if(j:Int)∈xs then[(xss.length:Int)] else[]):=by
 unfold src
 rw[length_append,List.length_singleton,range_succ,List.filter_append,map_append]
 congr 1
 ·congr 1
  refine iI λk hk=>?_
  have hk':k<xss.length:=mem_range.mp hk
  rw[getD_eq_getElem?_getD,getD_eq_getElem?_getD,getElem?_append_left hk']
 ·rw[filter_cons,List.filter_nil,getD_eq_getElem?_getD,getElem?_append_right (Nat.le_refl _),Nat.sub_self]
  by_cases h:(j:Int)∈xs
  ·simp[h]
  ·simp[h]
theorem zR5{xss:List LI}{i:Nat}{xs:LI}(h:xss[i]?=some xs)(j:Nat):src (xss.take (i+1)) j=src (xss.take i) j++(if(j:Int)∈xs then[(i:Int)] else[]):=by
 have hi:i<xss.length:=(List.getElem?_eq_some_iff.mp h).1
 rw[take_add_one,h]
 have e:(some xs:Option LI).toList=[xs]:=rfl
 rw[e,zR6,length_take,Nat.min_eq_left (Nat.le_of_lt hi)]
theorem D_(xss:List LI)(j:Nat):(src xss j).length<=xss.length:=by
 unfold src
 rw[length_map]
 exact Nat.le_trans (length_filter_le _ _) (by rw[length_range];exact Nat.le_refl _)
theorem int_at{ns:LI}{i:Nat}{y:V}(h:(ns.map V.int)[i]?=some y):∃z,y=.int z/\ns[i]?=some z:=by
 rw[getElem?_map] at h
 cases e:ns[i]? with
 |none=>rw[e] at h;cases h
 |some z=>rw[e] at h;exact⟨z,(Option.some.inj h).symm,rfl⟩
theorem Kf{bs:List Addr}{i:Nat}{y:V}(h:(bs.map V.ref)[i]?=some y):∃b,y=.ref b/\bs[i]?=some b:=by
 rw[getElem?_map] at h
 cases e:bs[i]? with
 |none=>rw[e] at h;cases h
 |some z=>rw[e] at h;exact⟨z,(Option.some.inj h).symm,rfl⟩
theorem Eb{bs:List Addr}{i:Nat}{b:Addr}(h:bs[i]?=some b):(bs.map V.ref)[i]?=some (.ref b):=by rw[getElem?_map,h]<;>rfl
theorem yV{α:Type}{xs:List α}{x:α}(h:xs[i]?=some x):i<xs.length:=(List.getElem?_eq_some_iff.mp h).1
theorem zP1{i:Nat}(h:i<1920):((i:Int)).natAbs.log2<1920:=by
 rw[Int.natAbs_natCast]
 exact Nat.lt_of_le_of_lt (Nat.log2_le_self i) h
theorem zGb{ns:LI}(nd:ns.Nodup)(h:ns[i]?=some z):¬z∈ns.take i:=λhz=>by
 obtain⟨j,hj⟩:=mem_iff_getElem?.mp hz
 have hji:j<i:=by
  have:=yV hj
  rw[length_take] at this
  omega
 rw[getElem?_take_of_lt hji] at hj
 have hi:=yV h
 have hjl:=yV hj
 rw[List.getElem?_eq_getElem hi] at h
 rw[List.getElem?_eq_getElem hjl] at hj
 have e:ns[j]=ns[i]:=(Option.some.inj hj).trans (Option.some.inj h).symm
 have:=(getElem_inj nd).mp e
 omega
theorem uR{α:Type}{ns:List α}{z x:α}(h:ns[i]?=some z):x∈ns.take (i+1)↔x∈ns.take i\/x=z:=by
 rw[take_add_one,h]
 simp
def pX(K:PySem.W.Frag)(H:Hp)(bs:List Addr)(xss:List LI):Prop:=bs.length=xss.length/\∀(i:Nat)(b:Addr),bs[i]?=some b->∃xs:LI,xss[i]?=some xs/\aV K H b (xs.map V.int)
theorem pX.same(r:pX K H bs xss)(s:Same H H'):pX K H' bs xss:=⟨r.1,λi b h=>let⟨xs,h1,h2⟩:=r.2 i b h;⟨xs,h1,s.seq h2⟩⟩
def UJ(n:Nat)(xss:List LI):Prop:=xss.length=n/\∀xs∈xss,xs≠[]/\xs.Nodup/\xs.length<=100/\∀z∈xs,0<=z/\z<(n:Int)
def pY(H:Hp)(cs:List Addr)(row:Nat->LI):Prop:=∀(j:Nat)(c:Addr),cs[j]?=some c->H c=some (.lst ((row j).map V.int))
structure Bl(K:PySem.W.Frag)(mg:Str->Option Value):Prop where
 len:mg "len" = none
 range:mg "range" = none
 B_:mg "isinstance" = none
 int:mg "int" = none
 bool:mg "bool" = none
 list:mg "list" = none
 enum:mg "enumerate" = none
 ii:kitOne K (.type "int") (.type "int")=some true
 ib:kitOne K (.type "int") (.type "bool")=some false
 ll:kitOne K (.type "list") (.type "list")=some true
theorem Q0:kitOne K (.type "int") (.type "int")=some true:=rfl
theorem Q5:kitOne K (.type "list") (.type "list")=some true:=rfl
theorem Q6:kitOne K (.type "int") (.type "bool")=some false:=by
 first|rfl|(unfold kitOne PySem.W.kitCls;decide +kernel)
theorem Ec:bootBuiltins "isinstance" = some (.builtin "isinstance"):=by decide +kernel
theorem Xi:bootBuiltins "int" = some (.type "int"):=by decide +kernel
theorem zRj:bootBuiltins "bool" = some (.type "bool"):=by decide +kernel
theorem Aa:bootBuiltins "list" = some (.type "list"):=by decide +kernel
structure News(H H':Hp)(cs:List Addr)(xss:List (List V)):Prop where
 len:cs.length=xss.length
 at_:∀(i:Nat)(c:Addr),cs[i]?=some c->∃xs,xss[i]?=some xs/\H' c=some (.lst xs)
 new:∀c∈cs,H c=none
 nd:cs.Nodup
theorem News.nil:News H H' [] []:=⟨rfl,λi c h=>(by simp at h),λc h=>(by cases h),nodup_nil⟩
theorem News.snoc(n:News H H1 cs xss)(s:Same H H1)(h:H1 l=none):News H (upd H1 l (.lst xs)) (cs++[l]) (xss++[xs]):=by
 have hl:∀c∈cs,c≠l:=λc hc e=>by
  obtain⟨i,hi⟩:=mem_iff_getElem?.mp hc
  obtain⟨ys,_,q⟩:=n.at_ i c hi
  rw[e,h] at q
  cases q
 refine⟨by rw[length_append,length_append,n.len]<;>rfl,λi c hc=>?_,λc hc=>?_,?_⟩
 ·by_cases hi:i<cs.length
  ·rw[getElem?_append_left hi] at hc
   obtain⟨ys,h1,h2⟩:=n.at_ i c hc
   refine⟨ys,?_,?_⟩
   ·rw[getElem?_append_left (by rw[<-n.len];exact hi)];exact h1
   ·rw[zP (hl c (mem_of_getElem? hc))];exact h2
  ·rw[getElem?_append_right (by omega)] at hc
   have hi2:i-cs.length=0:=by
    have:=yV hc
    simp at this
    omega
   rw[hi2] at hc
   have e:l=c:=Option.some.inj hc
   subst e
   refine⟨xs,?_,zW⟩
   rw[getElem?_append_right (by rw[<-n.len];omega),<-n.len,hi2]<;>rfl
 ·rcases mem_append.mp hc with hc|hc
  ·exact n.new c hc
  ·rw[mem_singleton.mp hc];exact s.free h
 ·rw[nodup_append]
  refine⟨n.nd,by simp,λa ha b hb e=>?_⟩
  rw[mem_singleton.mp hb] at e
  exact hl a ha e
theorem News.Q7(n:News H H' cs xss)(h:H' r=none):r∉cs:=λhc=>by
 obtain⟨i,hi⟩:=mem_iff_getElem?.mp hc
 obtain⟨ys,_,q⟩:=n.at_ i r hi
 rw[h] at q
 cases q
structure aD(C:Addr) where
 steps:List LI
 marks:List (Str×LI)
 fair:List LI
 sources:List LI
def Xj:List Str:=["many","next_of","before","marked","fair_at","names_at"]
def srcs(xss:List LI):List LI:=(List.range xss.length).map (src xss)
def hid(H:Hp)(p:Addr):Hp:=λb=>if b=p then none else H b
section
variable{K:PySem.W.Frag}{C:Addr}
instance:Rp K (aD C):=⟨λF v m=>∃p dx fs vS vM vF vB,v=.ref p/\F p=some (.ins C dx fs)/\fs.lookup ("steps":Str)=some vS/\rp K F vS m.steps/\fs.lookup ("marks":Str)=some vM/\rp K F vM m.marks/\fs.lookup ("fair":Str)=some vF/\rp K F vF m.fair /\
 fs.lookup ("sources":Str)=some vB/\rp K F vB m.sources/\∀g∈Xj,fs.lookup g=none,
 λs ⟨p,dx,fs,vS,vM,vF,vB,h1,h2,h3,h4,h5,h6,h7,h8,h9,h10,h11⟩=>⟨p,dx,fs,vS,vM,vF,vB,h1,s _ _ h2,h3,Rp.mono s h4,h5,Rp.mono s h6,h7,Rp.mono s h8,h9,Rp.mono s h10,h11⟩⟩
instance:Nn K (aD C):=⟨λ⟨_,_,_,_,_,_,_,h,_⟩=>by rw[h];intro e;cases e⟩
theorem Ed(ns:LI):A2 (rp K F) (ns.map V.int) ns:=A2.of_map (R:=rp K F) (f:=V.int) (λ_=>rfl) ns
theorem zRm:∀{cs:List Addr}{xss:List LI},cs.length=xss.length->(∀(i:Nat)(c:Addr),cs[i]?=some c->∃xs,xss[i]?=some xs/\F c=some (.lst (xs.map V.int)))->A2 (rp K F) (cs.map V.ref) xss
 |[],[],_,_=>trivial
 |c::cs,xs::xss,hl,h=>by
  obtain⟨ys,e1,e2⟩:=h 0 c rfl
  cases e1
  exact⟨⟨c,_,rfl,e2,Ed _⟩,zRm (by simpa using hl) λi c' hc=>h (i+1) c' hc⟩
 |[],_::_,hl,_=>by simp at hl
 |_::_,[],hl,_=>by simp at hl
theorem zOi{xss:List LI}(h:i<xss.length):(srcs xss)[i]?=some (src xss i):=by
 unfold srcs
 rw[getElem?_map,getElem?_range h]
 rfl
theorem Ef{cs:List Addr}{xss:List LI}(hl:cs.length=xss.length)(n:pY H' cs (src xss))(h:∀c∈cs,∀o,H' c=some o->D c=some o):A2 (rp K D) (cs.map V.ref) (srcs xss):=by
 refine zRm (by rw[hl];unfold srcs;simp) λi c hc=>?_
 have hi:=yV hc
 exact⟨_,zOi (by omega),h c (mem_of_getElem? hc) _ (n i c hc)⟩
end
section
variable{K:PySem.W.Frag}{B:Bs}{F H F' H' G:Hp}{O:Own}{sl:SL K}{σ:St}{md:Md}{α β:Type}[Rp K α][Rp K β]{te ta:TE}{C:Addr}
theorem Xk{pr:aD C->α}(cl:Cls K C)(na:aU K C f)(hp:∀(R:Hp) (v:V) (x:aD C),rp K R v x->∃p dx fs w,v=.ref p/\R p=some (.ins C dx fs)/\fs.lookup f=some w/\rp K R w (pr x))(h:Ex B sl md ta m) :
  Ex B sl md (tu K ta f) (m.bind λx=>some (pr x)):=λc hc F O H σ Q s k=>by
 cases m with
 |none=>cases hc
 |some x =>
  cases(show some (pr x)=some c from hc)
  refine h x rfl F O H σ _ s λv F' H' g r=>?_
  obtain⟨p,dx,fs,w,rfl,h1,h2,h3⟩:=hp _ v x r
  have hle:Same (reg B F' H' md) H':=match md with
   |.nw=>aP.trans g.ok.fh
   |.fz=>g.ok.fh
   |.hp=>.refl _
  exact⟨p,C,dx,fs,w,rfl,hle _ _ h1,cl,na,h2,k w F' H' g h3⟩
theorem zJm{m:Option (aD C)}(cl:Cls K C)(na:aU K C "steps")(h:Ex B sl md ta m):Ex B sl md (tu K ta "steps") (m.bind λx=>some x.steps) :=
 Xk cl na (λR v x ⟨p,dx,fs,vS,vM,vF,vB,h1,h2,h3,h4,_⟩=>⟨p,dx,fs,vS,h1,h2,h3,h4⟩) h
theorem Xl{m:Option (aD C)}(cl:Cls K C)(na:aU K C "fair")(h:Ex B sl md ta m):Ex B sl md (tu K ta "fair") (m.bind λx=>some x.fair) :=
 Xk cl na (λR v x ⟨p,dx,fs,vS,vM,vF,vB,h1,h2,_,_,_,_,h7,h8,_⟩=>⟨p,dx,fs,vF,h1,h2,h7,h8⟩) h
theorem zKz{m:Option (aD C)}(cl:Cls K C)(na:aU K C "sources")(h:Ex B sl md ta m):Ex B sl md (tu K ta "sources") (m.bind λx=>some x.sources) :=
 Xk cl na (λR v x ⟨p,dx,fs,vS,vM,vF,vB,h1,h2,_,_,_,_,_,_,h9,h10,_⟩=>⟨p,dx,fs,vB,h1,h2,h9,h10⟩) h
theorem uK{A:Type}{as:A->SL K}{f:aD C×A->Option β}{ma:Option A}(hg:g∈Xj)(h0:Ex B sl .hp ta mm)(h:Ea B sl .hp t as ma) :
  Ex B sl md (Qf C g (bV K false (λx:aD C×A=>.fz false x.1::as x.2) f) [] E0 ta t) (mm.bind λx=>ma.bind λa=>f (x,a)):=λc hc F O H σ Q s kk=>by
 cases mm with
 |none=>cases hc
 |some x =>
  cases ma with
  |none=>cases hc
  |some a =>
   have hc:f (x,a)=some c:=hc
   refine h0 x rfl F O H σ _ s λv F1 H1 g1 r1=>?_
   obtain⟨p,dx,fs,vS,vM,vF,vB,rfl,h2,h3,h4,h5,h6,h7,h8,h9,h10,h11⟩:=id r1
   refine⟨p,dx,fs,rfl,h2,h11 g hg,?_⟩
   refine h a rfl F1 O H1 σ _ (s.grow g1) λvs F' H' g2 r=>?_
   rw[append_nil]
   refine⟨(x,a),c,H',.refl _,hc,.cons (Rp.mono g2.hh r1) r,λv H2 s2 r2=>?_⟩
   have g3:=g2.ok.called s2
   refine kk v _ H2 (g1.trans (g2.trans g3)) ?_
   have r3:=Rp.mono (QF (F:=F') g2.ok.h0 s2) r2
   exact match md with
   |.nw=>r3
   |.fz=>Rp.mono aP r3
   |.hp=>Rp.mono (aP.trans g3.ok.fh) r3
def En(B:Bs)(sl:SL K)(t:TE){α:Type}[Rp K α](m:Option α):Prop :=
 ∀a,m=some a->∀(F:Hp)(O:Own)(H:Hp)(σ:St)(Q:VK),At B sl F O H σ->(∀(v:V)(F' H1 H2:Hp),bh B F H O F' H1->Same H1 H2->rp K (dif H2 H1) v a->Q v H2)->t σ H Q
theorem Eh{A:Type}{as:A->SL K}{f:A->Option β}{ta:TA}{ma:Option A}(h:Ea B sl .hp ta as ma):En B sl (JC (bV K false as f) [] E0 ta) (ma.bind f):=λc hc F O H σ Q s kk=>by
 cases ma with
 |none=>cases hc
 |some a =>
  refine h a rfl F O H σ _ s λvs F' H' g r=>?_
  rw[append_nil]
  exact⟨a,c,H',.refl _,hc,r,λv H2 s2 r2=>kk v F' H' H2 g s2 r2⟩
theorem En.ex{m:Option α}(h:En B sl te m):Ex B sl md te m:=λc hc F O H σ Q s kk=>h c hc F O H σ Q s λv F' H1 H2 g s2 r2=>by
 have g2:=g.ok.called s2
 refine kk v _ H2 (g.trans g2) ?_
 have r3:=Rp.mono (QF (F:=F') g.ok.h0 s2) r2
 exact match md with
 |.nw=>r3
 |.fz=>Rp.mono aP r3
 |.hp=>Rp.mono (aP.trans g2.ok.fh) r3
structure Ej where
 n:Unit
instance:Rp K Ej:=⟨λF v _=>∃p vs,v=.ref p/\F p=some (.lst vs),λs ⟨p,vs,h1,h2⟩=>⟨p,vs,h1,s _ _ h2⟩⟩
class IsL (K:PySem.W.Frag) (α:Type) [Rp K α]:Prop where
 il:∀{F:Hp}{v:V}{a:α},rp K F v a->∃p vs,v=.ref p/\F p=some (.lst vs)
instance:IsL K (List α):=⟨λ⟨p,vs,h1,h2,_⟩=>⟨p,vs,h1,h2⟩⟩
instance:IsL K Ej:=⟨λh=>h⟩
abbrev wk:Slot K->Bool
 |@Slot.hs _ _ _ _=>true
 |@Slot.nu _ _ _ _=>true
 |_=>false
theorem ak.calm(h:ak B F L H sl σ O)(hn:sl.all (λs=>!wk s)=true):ak B F L' H' sl σ O:=by
 induction h with
 |nil=>exact .nil
 |un _ ih=>exact .un (ih (by rw[all_cons,Bool.and_eq_true] at hn;exact hn.2))
 |fz r _ ih=>exact .fz (Rp.mono (wL _ (.refl _)) r) (ih (by rw[all_cons,Bool.and_eq_true] at hn;exact hn.2))
 |hs r _ ih=>rw[all_cons,Bool.and_eq_true] at hn;exact absurd hn.1 (by simp)
 |nu r _ ih=>rw[all_cons,Bool.and_eq_true] at hn;exact absurd hn.1 (by simp)
 |ow r _ ih=>exact .ow (r.imp λ_ _=>Rp.mono (wL _ (.refl _))) (ih (by rw[all_cons,Bool.and_eq_true] at hn;exact hn.2))
 |od r _ ih=>exact .od r (ih (by rw[all_cons,Bool.and_eq_true] at hn;exact hn.2))
 |ob r _ ih=>exact .ob (Ob.mono (wL _ (.refl _)) r) (ih (by rw[all_cons,Bool.and_eq_true] at hn;exact hn.2))
instance(n:Nat)(xss:List LI):Decidable (UJ n xss):=by unfold UJ;infer_instance
theorem Xm{s:Slot K}(i:Nat)(hs:sl[i]?=some (.fz n x))(h:Ex B sl .hp te m):Sn B sl (PN i te (T8 f)) (λa=>sl.set i (.fz true a)) (m.bind λy=>some (f x y)):=λa ha G D σ H s k=>by
 cases m with
 |none=>cases ha
 |some y =>
  cases(show some (f x y)=some a from ha)
  obtain⟨F,O,g,z⟩:=s
  obtain⟨v,h1,h2⟩:=z.2.nO hs
  have h2:v=.int x:=Sc.is.mp h2
  subst h2
  refine⟨_,h1,h y rfl F O H σ _ z λw F' H' gr r=>?_⟩
  cases r
  exact⟨x,y,rfl,rfl,k _ _ (Sg.set (n:=true) (a:=f x y) (g.trans gr.ff) (z.grow gr) hs rfl rfl)⟩
end
section
variable{K:PySem.W.Frag}{X:Cx}
theorem UL(K:PySem.W.Frag)(h:X.K=K:=by rfl):iB X (compareOp .In) (Hr K false):=by subst h;exact zPi
theorem Kg(K:PySem.W.Frag)(h:X.K=K:=by rfl):iB X (compareOp .NotIn) (Hr K true):=by subst h;exact zI0
theorem aL(K:PySem.W.Frag)(h:X.K=K:=by rfl):Qm X (tL K):=by subst h;exact zP8
theorem bB(K:PySem.W.Frag)(h:X.K=K:=by rfl):Qm X (kZ K):=by subst h;exact JQ
theorem xT(K:PySem.W.Frag)(h:X.K=K:=by rfl):qy X (.builtin "len") (DP K):=by subst h;exact zJw
theorem Ek(K:PySem.W.Frag)(h:X.K=K:=by rfl):qy X (.type "list") (HF K):=by subst h;exact zJv
theorem Em(K:PySem.W.Frag)(hc:∀y u,RelV y c->RelV y u->u=c)(h:X.K=K:=by rfl):qy X (.builtin "isinstance") (J2 K c):=by subst h;exact zTw hc
theorem Nv(K:PySem.W.Frag)(he:PE X e ta)(h:X.K=K:=by rfl)(hb:attributeBase e f X.env (eval e X.env)=eval e X.env:=by rfl):PE X (.Attribute e f pos) (tu K ta f):=by subst h;exact zUh he hb
theorem yD(K:PySem.W.Frag)(hl:PE X l tl)(h:X.K=K:=by rfl):PI X tg l (yr K tl):=by subst h;exact V_ hl
theorem Xn(K:PySem.W.Frag)(hm:X.mg "enumerate" = none)(ha:PA X [a] ta)(h:X.K=K:=by rfl)(hg:Gl X "enumerate":=by rfl)(hs:starEach [a] X.env=[(false,eval a X.env)]:=by rfl) :
  PI X (.Tuple elts k tp) (.Call (.Name "enumerate" p) [a] [] pos) (zq K ta):=by subst h;exact zPb hg hm ha hs
theorem sE(K:PySem.W.Frag){o e:Expr}{es:List Expr}{to:TE}{t:TA}{name:Str}{apos cpos:Pos}{T id:String}{r:V->List V->Hp->VK->Prop}(pa:PlainAttrs T)(slot:PySem.Slot T name id)(hty:typeOf (.builtin id)=pure (.type "method_descriptor"))(hm:Qp X id r)(ho:PE X o to)(ha:PA X (e::es) t)(h:X.K=K:=by rfl)(hbase:attributeBase o name X.env (eval o X.env)=eval o X.env:=by rfl)(hfew:((backTo cpos (starEach (e::es) X.env)).all (λx=>!x.1)&&(backToKw cpos (keywordEach [] X.env)).all (λx=>x.1.isSome)
   && decide ((e::es).length+([]:List Keyword).length+(if([]:List Keyword).isEmpty then 0 else 1)<30))=true:=by rfl)(hline:(apos.endLine==cpos.line)=true:=by rfl)(hs:starEach (e::es) X.env=(false,eval e X.env)::starEach es X.env:=by rfl)(hplain:(backTo cpos (starEach es X.env)).any (·.1)=false:=by rfl) :
  PE X (.Call (.Attribute o name apos) (e::es) [] cpos) (Nk K T r to t):=by subst h;exact Hs pa slot hty hm ho ha hbase hfew hline hs hplain
theorem zUj(K:PySem.W.Frag){o:Expr}{to:TE}{name:Str}{apos cpos:Pos}{T id:String}{r:V->List V->Hp->VK->Prop}(pa:PlainAttrs T)(slot:PySem.Slot T name id)(hty:typeOf (.builtin id)=pure (.type "method_descriptor"))(hm:Qp X id r)(ho:PE X o to)(h:X.K=K:=by rfl)(hbase:attributeBase o name X.env (eval o X.env)=eval o X.env:=by rfl)(hline:(apos.endLine==cpos.line)=true:=by rfl):PE X (.Call (.Attribute o name apos) [] [] cpos) (Ds K T r to):=by subst h;exact JV pa slot hty hm ho hbase hline
theorem Kh:bootBuiltins "max" = some (.builtin "max"):=by decide +kernel
theorem Kl:bootBuiltins "min" = some (.builtin "min"):=by decide +kernel
theorem Km:bootBuiltins "all" = some (.builtin "all"):=by decide +kernel
theorem Xo:bootBuiltins "sorted" = some (.builtin "sorted"):=by decide +kernel
theorem wu:Et B sl J0 (some true):=λa ha F O H σ Q s k=>by cases ha;exact k F H (.refl s.1)
theorem Xp{S:Type}{L:S->SL K}{m:Option S}(l:Le sl sl2)(h:Sn B sl2 t L m):Sn B sl t L m:=λa ha G D σ H q k=>h a ha G D σ H (q.le l) k
theorem Ko{α:Type}:∀c:List α,some []=some c->c.length<=0:=λc h=>by cases h;exact Nat.le_refl _
theorem uN{α:Type}{m:Option α}{ma:Option (List α)}(h:∀b,ma=some b->b.length<=n):∀c,(m.bind λa=>ma.bind λb=>some (a::b))=some c->c.length<=n+1:=λc e=>by
 cases m with
 |none=>cases e
 |some a =>
  cases ma with
  |none=>cases e
  |some b=>cases e;exact Nat.succ_le_succ (h b rfl)
theorem bnd{α β:Type}(a:α)(f:α->Option β):(some a).bind f=f a:=(λ(x:Option α) (e:x=some a)=>by subst e;rfl:∀x:Option α,x=some a->x.bind f=f a) _ rfl
def fuel:Nat:=100000
structure bC(P:Program)(w:World)(K:PySem.W.Frag)(mg:Str->Option Value)(base:Heap)(k:Nat)(x:Str)(ps:List Str)(sp:Sp):Prop where
 ex:∃f fd,aB P w K mg base aZ k f fd ps sp/\Binds K fd ps []/\keepIn K (.ref f)=true/\mg x=some (.ref f)
structure dM(P:Program)(w:World)(K:PySem.W.Frag)(mg:Str->Option Value)(base:Heap)(k:Nat)(C:Addr)(m:Str)(ps:List Str)(sp:Sp):Prop where
 ex:∃f fd,aB P w K mg base aZ k f fd ps sp/\Binds K fd ps []/\Meth K C m f
 cl:Cls K C
theorem bC.mono(c:bC P w K mg base j x ps sp)(h:j<=k):bC P w K mg base k x ps sp:=by
 obtain⟨f,fd,h1,h2⟩:=c.ex
 exact⟨f,fd,h1.mono h,h2⟩
theorem dM.mono(c:dM P w K mg base j C x ps sp)(h:j<=k):dM P w K mg base k C x ps sp:=by
 obtain⟨f,fd,h1,h2⟩:=c.ex
 exact⟨⟨f,fd,h1.mono h,h2⟩,c.cl⟩
theorem yC(c:bC X.prog X.w X.K X.mg X.base k x ps sp)(hr:bJ k X.A)(ha:PA X (e::es) t)(hg:Gl X x:=by rfl)(hdb:(x==("__debug__":Str))=false:=by decide)(he:starEach (e::es) X.env=(false,eval e X.env)::starEach es X.env:=by rfl)(hpl:(backTo pos (starEach es X.env)).any (·.1)=false:=by rfl):PE X (.Call (.Name x p) (e::es) [] pos) (JC sp [] E0 t):=by
 obtain⟨f,fd,h1,h2,h3,h4⟩:=c.ex
 exact Df h1 hr hg h4 h3 h2 .nil Uo ha hdb he hpl
theorem Kq(c:dM X.prog X.w X.K X.mg X.base k C m ps sp)(hr:bJ k X.A)(he:PE X o ta)(ha:PA X (e::es) t)(hst:starEach (e::es) X.env=(false,eval e X.env)::starEach es X.env:=by rfl)(hpl:(backTo pos (starEach es X.env)).any (·.1)=false:=by rfl)(ht:eval (.Call (.Attribute o m apos) (e::es) [] pos) X.env=(do
   let ov <-eval o X.env
   standAt apos.atName
   let(f,first) <-holding [ov] (getMethod ov m pl)
   callWith pos f first (backTo pos (starEach (e::es) X.env)) (backToKw pos (keywordEach [] X.env))):=by rfl):PE X (.Call (.Attribute o m apos) (e::es) [] pos) (Qf C m sp [] E0 ta t):=by
 obtain⟨f,fd,h1,h2,h3⟩:=c.ex
 exact Dg he c.cl h3 h1 hr h2 .nil Uo ha hst hpl ht
theorem Q8(c:dM X.prog X.w X.K X.mg X.base k C m ps sp)(hr:bJ k X.A)(he:PE X o ta)(ht:eval (.Call (.Attribute o m apos) [] [] pos) X.env=(do
   let ov <-eval o X.env
   standAt apos.atName
   let(f,first) <-holding [ov] (getMethod ov m pl)
   callWith pos f first (backTo pos (starEach [] X.env)) (backToKw pos (keywordEach [] X.env))):=by rfl):PE X (.Call (.Attribute o m apos) [] [] pos) (Qf C m sp [] E0 ta bF):=by
 obtain⟨f,fd,h1,h2,h3⟩:=c.ex
 exact zSr he c.cl h3 h1 hr h2 .nil Uo ht
end
section
variable{P:Program}{w:World}{K:PySem.W.Frag}{mg:Str->Option Value}{base:Heap}
theorem yP{A β:Type}[Rp K β]{as:A->SL K}{fM:A->Option β}(F:bH K x qual st f fd)(S:ao N ps (zK st))(hf:∀a,(as a).all isF=true)(hl:∀a,(as a).length=ps.length)(hb:∀(cdv:Value) (A:Around) (outer:List Env) (s:Shared) (H:Hp) (E:XK),bJ k (A.deeper (PyProof.Rows.envOfC qual (zK st) s.heap.objs.size f cdv)) ->
   ∃t,pI (lF aZ P w K mg base N qual (zK st) f cdv A outer s H E).yh (xX st) t/\∀Fa a,SB ⟨Fa,H⟩ (as a++replicate (N.length-ps.length) .un) t al (fM a)) :
  aB P w K mg base aZ (k+1) f fd ps (bV K al as fM) :=
 F.ok S (λvs H Q E h=>Xe hl h) λcdv A outer s H vs Q E hr h=>by
  obtain⟨t,p,q⟩:=hb cdv A outer s H E hr
  exact⟨t,p,zLg hf hl q h⟩
end
def W{α:Type}(m:Option α)(P:α->Prop):Prop:=∃a,m=some a/\P a
section
variable{α β S:Type}
theorem aj:W (some a) P↔P a:=⟨λ⟨_,e,h⟩=>by cases e;exact h,λh=>⟨a,rfl,h⟩⟩
theorem sH:W (none:Option α) P↔False:=⟨λ⟨_,e,_⟩=>(by cases e),False.elim⟩
theorem zC{m:Option α}:W (m.bind f) Q↔W m λa=>W (f a) Q:=by
 cases m with
 |none=>exact⟨λ⟨_,e,_⟩=>(by cases e),λ⟨_,e,_⟩=>(by cases e)⟩
 |some a=>exact⟨λh=>⟨a,rfl,h⟩,λ⟨_,e,h⟩=>by cases e;exact h⟩
theorem Ep:W ((Out.nx s:Out S β).els f) Q↔W (f s) Q:=Iff.rfl
theorem Ab{S':Type}{f:S->Option (Out S' β)}{Q:Out S' β->Prop}:W ((Out.nx s:Out S β).aJ f) Q↔W (f s) Q:=Iff.rfl
theorem W.imp{Q:α->Prop}(h:W m P)(f:∀a,P a->Q a):W m Q:=let⟨a,e,p⟩:=h;⟨a,e,f a p⟩
theorem pZ:W (bT a b) Q↔0<b/\Q (a%b):=by
 unfold bT
 split
 ·rename_i h;rw[aj];exact⟨λq=>⟨h,q⟩,λq=>q.2⟩
 ·rename_i h;rw[sH];exact⟨False.elim,λq=>h q.1⟩
theorem Ac:W (iD a b) Q↔(0<b/\b<1073741824)/\Q (a/b):=by
 unfold iD
 split
 ·rename_i h;rw[aj];exact⟨λq=>⟨h,q⟩,λq=>q.2⟩
 ·rename_i h;rw[sH];exact⟨False.elim,λq=>h q.1⟩
theorem UW:W (mulM a b) Q↔((-(2^64)<a/\a<2^64)\/(-(2^64)<b/\b<2^64))/\Q (a*b):=by
 unfold mulM
 split
 ·rename_i h;rw[aj];exact⟨λq=>⟨h,q⟩,λq=>q.2⟩
 ·rename_i h;rw[sH];exact⟨False.elim,λq=>h q.1⟩
theorem U0:W (oG a b) Q↔(0<=b/\b<=1000000/\a.natAbs<2^64)/\Q (a^b.toNat):=by
 unfold oG
 split
 ·rename_i h;rw[aj];exact⟨λq=>⟨h,q⟩,λq=>q.2⟩
 ·rename_i h;rw[sH];exact⟨False.elim,λq=>h q.1⟩
theorem Ca:W (push xs a) Q↔xs.length<cap/\Q (xs++[a]):=by
 unfold push
 split
 ·rename_i h;rw[aj];exact⟨λq=>⟨h,q⟩,λq=>q.2⟩
 ·rename_i h;rw[sH];exact⟨False.elim,λq=>h q.1⟩
def rng(n:Int):LI:=(List.range n.toNat).map Int.ofNat
theorem xZ:W (wF n) Q↔(-(2^62)<=n/\n<2^62)/\Q (rng n):=by
 unfold wF rng
 split
 ·rename_i h;rw[aj];exact⟨λq=>⟨h,q⟩,λq=>q.2⟩
 ·rename_i h;rw[sH];exact⟨False.elim,λq=>h q.1⟩
theorem wG(h:0<=n):((rng n).length:Int)=n:=by
 unfold rng
 rw[length_map,length_range]
 omega
theorem wz{n:Int}{i:Nat}{x:Int}(h:(rng n)[i]?=some x):x=i/\(i:Int)<n:=by
 obtain⟨a,b⟩:=Xa h
 exact⟨b,by omega⟩
theorem cO:x∈rng n↔0<=x/\x<n:=by
 unfold rng
 rw[mem_map]
 constructor
 ·rintro⟨a,h,rfl⟩
  rw[mem_range] at h
  exact⟨Int.natCast_nonneg _,by show(a:Int)<n;omega⟩
 ·intro⟨h1,h2⟩
  exact⟨x.toNat,mem_range.mpr (by omega),by show((x.toNat:Nat):Int)=x;omega⟩
theorem uP(h:0<=i):L2.aH xs i=xs[i.toNat]?:=by
 unfold L2.aH qK
 rw[if_pos h]
 by_cases q:i<xs.length
 ·rw[if_pos q];rfl
 ·rw[if_neg q,List.getElem?_eq_none (by omega)];rfl
theorem fB(h0:0<=i):W (L2.aH xs i) Q↔∃a,xs[i.toNat]?=some a/\Q a:=by
 rw[uP h0]
 exact Iff.rfl
theorem zSf{xs:List α}{i:Int}{a:α}(h0:0<=i)(h1:i<xs.length):rY xs i a=some (xs.set i.toNat a):=by
 unfold rY qK
 rw[if_pos h0,if_pos h1]
 rfl
theorem Nx{xs:List α}{i:Int}{a:α}{Q:List α->Prop}(h0:0<=i)(h1:i<xs.length):W (rY xs i a) Q↔Q (xs.set i.toNat a):=by
 rw[zSf h0 h1,aj]
theorem xE{step:S->α->Option S}{Q:S->Prop}(I:Nat->S->Prop)(h0:I 0 s)(hs:∀i x s,xs[i]?=some x->I i s->W (step s x) (I (i+1)))(hd:∀s,I xs.length s->Q s):W (xA step xs s) Q:=by
 have key:∀(ys:List α)(i:Nat)(s:S),(∀j x,ys[j]?=some x->xs[i+j]?=some x)->i+ys.length=xs.length->I i s->W (xA step ys s) Q:=by
  intro ys
  induction ys with
  |nil=>intro i s _ hl h;exact⟨s,rfl,hd s ((show i=xs.length from hl)▸h)⟩
  |cons y ys ih =>
   intro i s hy hl h
   show W ((step s y).bind λs'=>xA step ys s') Q
   rw[zC]
   refine(hs i y s (hy 0 y rfl) h).imp λs' h'=>ih (i+1) s' (λj x hx=>?_) (by rw[length_cons] at hl;omega) h'
   have:=hy (j+1) x (by simpa using hx)
   rw[show i+1+j=i+(j+1) by omega]
   exact this
 exact key xs 0 s (λj x h=>by rw[Nat.zero_add];exact h) (Nat.zero_add _) h0
theorem zGk{step:S->α->Option (Out S β)}:vK step (x::xs) s=(step s x).bind λo=>o.aJ λs'=>vK step xs s':=by
 rw[vK]
 congr 1
theorem Kr{step:S->α->Option (Out S β)}{Q:Out S β->Prop}(I:Nat->S->Prop)(h0:I 0 s)(hs:∀i x s,xs[i]?=some x->I i s->W (step s x) λo=>∃s',o=.nx s'/\I (i+1) s')(hd:∀s,I xs.length s->Q (.nx s)):W (vK step xs s) Q:=by
 have key:∀(ys:List α)(i:Nat)(s:S),(∀j x,ys[j]?=some x->xs[i+j]?=some x)->i+ys.length=xs.length->I i s->W (vK step ys s) Q:=by
  intro ys
  induction ys with
  |nil=>intro i s _ hl h;exact⟨.nx s,rfl,hd s ((show i=xs.length from hl)▸h)⟩
  |cons y ys ih =>
   intro i s hy hl h
   rw[zGk,zC]
   refine(hs i y s (hy 0 y rfl) h).imp ?_
   rintro o ⟨s',rfl,h'⟩
   refine ih (i+1) s' (λj x hx=>?_) (by rw[length_cons] at hl;omega) h'
   have:=hy (j+1) x (by simpa using hx)
   rw[show i+1+j=i+(j+1) by omega]
   exact this
 exact key xs 0 s (λj x h=>by rw[Nat.zero_add];exact h) (Nat.zero_add _) h0
theorem zRn{c:S->Option Bool}{body:S->Option S}(I:S->Prop)(μ:S->Nat)(h0:I s)(hk:μ s<k)(hs:∀s,I s->W (c s) λb=>if b=true then W (body s) λs'=>I s'/\μ s'<μ s else Q s):W (Du c body k s) Q:=by
 induction k generalizing s with
 |zero=>omega
 |succ k ih =>
  show W ((c s).bind λb=>if b=true then(body s).bind λs'=>Du c body k s' else some s) Q
  rw[zC]
  refine(hs s h0).imp λb h=>?_
  cases b with
  |true =>
   have h:W (body s) λs'=>I s'/\μ s'<μ s:=by simpa using h
   simp only[if_true]
   rw[zC]
   exact h.imp λs' ⟨h1,h2⟩=>ih h1 (by omega)
  |false=>simpa[aj] using h
theorem zJs(c:α->Bool)(f:α->β):∀xs:List α,wB (λx=>some (c x)) (λx=>some (f x)) xs=some ((xs.filter c).map f)
 |[]=>rfl
 |x::xs=>by
  have ih:=zJs c f xs
  show(some (c x)).bind _=_
  cases h:c x with
  |true =>
   show((some (f x)).bind λy=>(wB _ _ xs).bind λys=>some (y::ys))=_
   rw[ih,filter_cons,if_pos h]
   rfl
  |false =>
   show wB _ _ xs=_
   rw[ih,filter_cons,if_neg (by rw[h];decide)]
theorem zU7(c:α->Bool)(f:α->β):W (yU (λx=>some (c x)) (λx=>some (f x)) xs) Q↔xs.length<cap/\Q ((xs.filter c).map f):=by
 unfold yU
 split
 ·rename_i h;rw[zJs,aj];exact⟨λq=>⟨h,q⟩,λq=>q.2⟩
 ·rename_i h;rw[sH];exact⟨False.elim,λq=>h q.1⟩
theorem zQn(xs:List α):xs.filter (λ_=>true)=xs:=List.filter_eq_self.mpr λ_ _=>rfl
theorem HN(f:α->β):W (yU (λ_=>some true) (λx=>some (f x)) xs) Q↔xs.length<cap/\Q (xs.map f):=by
 rw[zU7 (λ_=>true) f,zQn]
theorem w5[Decidable c]:W (if c then a else b) Q↔(c->W a Q)/\(¬c->W b Q):=by
 by_cases h:c
 ·rw[if_pos h];exact⟨λq=>⟨λ_=>q,λn=>absurd h n⟩,λq=>q.1 h⟩
 ·rw[if_neg h];exact⟨λq=>⟨λn=>absurd n h,λ_=>q⟩,λq=>q.2 h⟩
theorem yH(h:n<=1000):n<cap:=Nat.lt_of_le_of_lt h (by decide)
def eY(n:Int)(xs:LI):Prop:=xs.Pairwise (· < ·)/\∀x∈xs,0<=x/\x<n
theorem eY.nodup(h:eY n xs):xs.Nodup:=h.1.imp λq=>Int.ne_of_lt q
theorem Xq:eY n []:=⟨.nil,λx h=>by cases h⟩
theorem Xr(h:eY k xs)(h0:0<=k)(hk:k<n):eY n (xs++[k]):=by
 refine⟨List.pairwise_append.mpr ⟨h.1,by simp,λx hx y hy=>?_⟩,λx hx=>?_⟩
 ·rw[mem_singleton.mp hy];exact(h.2 x hx).2
 ·rcases mem_append.mp hx with q|q
  ·have:=h.2 x q;omega
  ·rw[mem_singleton.mp q];omega
theorem Xu(h:eY n xs)(l:n<=m):eY m xs:=⟨h.1,λx hx=>by have:=h.2 x hx;omega⟩
theorem xD:∀{n:Nat}{xs:LI},xs.Nodup->(∀x∈xs,0<=x/\x<(n:Int))->xs.length<=n
 |0,xs,_,h=>by
  cases xs with
  |nil=>exact Nat.le_refl _
  |cons x xs=>have:=h x mem_cons_self;omega
 |n+1,xs,nd,h=>by
  by_cases q:(n:Int)∈xs
  ·have l:=List.length_erase_of_mem q
   have ih:=xD (n:=n) (xs:=xs.erase (n:Int)) (nd.erase _) λx hx=>by
    have h1:=h x (List.mem_of_mem_erase hx)
    have h2:x≠(n:Int):=λe=>by rw[e] at hx;exact(List.Nodup.not_mem_erase nd) hx
    omega
   omega
  ·have ih:=xD (n:=n) nd λx hx=>by
    have h1:=h x hx
    have h2:x≠(n:Int):=λe=>q (e▸hx)
    omega
   omega
end
end Ts
namespace L2
open PySem PySem.Spec PyProof.Rows
theorem Q9:∀{ns:LI}{its:List Value},Vals (ns.map V.int) its->IntsAre its ns
 |[],[],_=>.nil
 |n::ns,_::its,h=>by
  cases h with
  |cons r t =>
   obtain⟨k,rfl⟩:=r
   exact .cons n k (Q9 t)
theorem uD:∀{ns:LI}{its:List Value},IntsAre its ns->Vals (ns.map V.int) its
 |_,_,.nil=>.nil
 |_,_,.cons n t h=>.cons ⟨t,rfl⟩ (uD h)
section
variable{X:Cx}
def HS(K:PySem.W.Frag)(R:Int->Int->Prop):List V->Hp->VK->Prop:=λxs H Q=>∃(p:Addr)(ns:LI),xs=[.ref p]/\aV K H p (ns.map V.int)/\ns≠[]/\∀M,M∈ns->(∀a∈ns,R M a)->Q (.int M) H
theorem zTy{arr:Array (Int×Tok)}(hns:ns=arr.toList.map (·.1))(j:Nat)(hj:j<arr.size):numAt arr j∈ns:=by
 have e:=numAt_eq arr j
 rw[e,hns]
 refine PySem.getD_mem ?_
 rw[length_map,length_toList]
 exact hj
theorem zRc(K:PySem.W.Frag)(hc:X.calm=true)(hK:X.K=K:=by rfl):qy X (.builtin "min") (HS K (· <= ·)):=by
 subst hK
 intro pins s σ H xs us Q I r h
 obtain⟨p,ns,rfl,hq,hne,q⟩:=h
 obtain⟨u,rfl,rx⟩:=CV r
 cases rx
 obtain⟨its,r',pl,hz⟩:=I.list hq
 have hi:=Q9 r'
 obtain⟨arr,e⟩:=hi.allInts.items
 have hns:ns=arr.toList.map (·.1):=(hi.numsOf.symm.trans (congrArg numsOf (show its=(intItems arr).toList by rw[<-e]))).trans (nums_intItems arr)
 have hsz:0<arr.size:=by
  cases z:arr.size with
  |zero =>
   exfalso
   apply hne
   rw[hns,Array.eq_empty_of_size_eq_zero z]
   rfl
  |succ k=>omega
 have hl:=pl.isList
 rw[e] at hl
 refine min_intList (I.ok.hd hc) hl hsz λv h' tk hv hk=>?_
 obtain⟨t,rfl⟩:=intItems_at hv
 obtain⟨b1,b2⟩:=argBest_lt (numAt arr) (arr.size-1)
 refine⟨.int (numAt arr (argBest (λi j=>decide (numAt arr i<numAt arr j)) (arr.size-1))),H,I.kept hk,⟨t,rfl⟩,q _ (zTy hns _ (by omega)) λa ha=>?_⟩
 rw[hns] at ha
 obtain⟨j,hj,rfl⟩:=PySem.mem_getD ha
 rw[length_map,length_toList] at hj
 have z:=b2 j (by omega)
 rw[numAt_eq arr j] at z
 exact z
def HW(K:PySem.W.Frag):List V->Hp->VK->Prop:=λxs H Q=>∃(p:Addr)(ns:LI),xs=[.ref p]/\aV K H p (ns.map V.int)/\ns.length<64/\∀(l:Addr)(ns':LI),H l=none->ns'.Perm ns->ns'.Pairwise (· <= ·)->Q (.ref l) (upd H l (.lst (ns'.map V.int)))
theorem zGs(K:PySem.W.Frag)(hK:X.K=K:=by rfl):qy X (.builtin "sorted") (HW K):=by
 subst hK
 intro pins s σ H xs us Q I r h
 obtain⟨p,ns,rfl,hq,h64,q⟩:=h
 obtain⟨u,rfl,rx⟩:=CV r
 cases rx
 obtain⟨its,r',pl,hz⟩:=I.list hq
 have hl:=r'.length
 rw[length_map] at hl
 refine sorted_ints pl.isList (Q9 r') (by omega) λout ns' a1 a2 a3=>?_
 obtain⟨e,he⟩:=sortedAll_at s.heap its out
 have fr:H (s.heap.objs.size+1)=none:=I.hok.fresh (Nat.le_succ _)
 refine⟨.ref (s.heap.objs.size+1),_,I.laid (t':=s.toks) (o:=.lst (ns'.map V.int)) (λb ob w=>sortedAll_old w) (Nat.le_succ _) ?_,rfl,q _ ns' fr a2 a3⟩
 refine⟨?_,out.toList,e,uD a1,?_⟩
 ·rw[length_map,a2.length_eq]
  exact Nat.le_of_lt (Nat.lt_trans h64 (by decide))
 ·rw[toArray_toList]
  exact he
theorem zKb{bs:List Bool}(r:Vals (bs.map V.bl) its):TruthOf prog w A (λi v=>its.toArray[i]?=some v) (λi=>bs.getD i false):=by
 intro i v s Q E hv hq
 have hv:its[i]?=some v:=by simpa using hv
 have hi:i<bs.length:=by
  have:=(List.getElem?_eq_some_iff.mp hv).1
  rw[<-r.length,length_map] at this
  exact this
 obtain⟨u,h1,h2⟩:=r.get (i:=i) (x:=.bl bs[i]) (by rw[getElem?_map,List.getElem?_eq_getElem hi]<;>rfl)
 rw[hv] at h1
 cases h1
 cases h2
 have hq:Q (bs.getD i false) s:=hq
 rw[getD_eq_getElem?_getD,List.getElem?_eq_getElem hi] at hq
 exact wpAny_truthy_bool hq
theorem zO1{bs:List Bool}:((List.range bs.length).all λi=>bs.getD i false)=bs.all id:=by
 rw[Bool.eq_iff_iff,all_eq_true,all_eq_true]
 constructor
 ·intro h x hx
  obtain⟨i,hi,e⟩:=getElem_of_mem hx
  have z:=h i (mem_range.mpr hi)
  rw[getD_eq_getElem?_getD,List.getElem?_eq_getElem hi,e] at z
  exact z
 ·intro h i hi
  have hi:=mem_range.mp hi
  rw[getD_eq_getElem?_getD,List.getElem?_eq_getElem hi]
  exact h _ (getElem_mem hi)
def zUf(K:PySem.W.Frag)(f:List Bool->Bool):List V->Hp->VK->Prop:=λxs H Q=>∃(p:Addr)(bs:List Bool),xs=[.ref p]/\aV K H p (bs.map V.bl)/\Q (.bl (f bs)) H
theorem Q_{s:Shared}{h':Heap}(hk:∀b o,b∉[s.heap.objs.size]->(s.heap.push { cls:=.type "list_iterator",data:=.fields #[.ref l,.int 0 0] }).get? b=some o->h'.get? b=some o) :
  ∀b o,s.heap.get? b=some o->h'.get? b=some o:=λb o e=>hk b o (λm=>Nat.lt_irrefl _ (mem_singleton.mp m▸lt_size e)) (get?_push_of_some _ e)
theorem zRg(K:PySem.W.Frag)(hc:X.calm=true)(hK:X.K=K:=by rfl):qy X (.builtin "all") (zUf K λbs=>bs.all id):=by
 subst hK
 intro pins s σ H xs us Q I r h
 obtain⟨p,bs,rfl,hq,q⟩:=h
 obtain⟨u,rfl,rx⟩:=CV r
 cases rx
 obtain⟨its,r',pl,hz⟩:=I.list hq
 have hl:=pl.isList
 have hlt:p<s.heap.objs.size:=by obtain⟨_,e,_⟩:=hl;exact lt_size e
 refine call_all_walk (wpAny_pyIter_list hl ?_)
 refine⟨_,_,_,_,_,_,_,rfl,Walks.list (A:=X.A.in1) (I.ok.hd hc) s.heap.objs.size p (Nat.ne_of_lt hlt) its.toArray,⟨⟨_,get?_push_size _ rfl,rfl,rfl⟩,hl.push _⟩,zKb r',λh' tk hk=>?_⟩
 have hn:its.toArray.size=bs.length:=by
  rw[size_toArray,<-r'.length,length_map]
 rw[hn,zO1]
 exact⟨.bl (bs.all id),H,I.kept (Q_ hk),rfl,q⟩
end
section
variable{prog:Program}{w:World}{A:Around}{R:Result->Shared->Prop}{It:Addr}{fp wr:List Addr}{n:Nat}{P:Nat->Value->Prop}{St:Nat->Heap->Prop}{kw:List (Str×Value)}
end
def Xv(prog:Program)(w:World)(A:Around)(Q:Value->Shared->Prop)(E:Value->Shared->Prop):Fin->Shared->Prop:=λfin s'=>match fin with|.done f=>(match(Except.ok f:Result) with|.ok (.ret v)=>Q v s'|.ok _=>False|.error e=>E e s')|.again c'=>c'.quiet=true/\codeAny (model prog w) A c' (λr s'=>match r with|.ok (.ret v)=>Q v s'|.ok _=>False|.error e=>E e s') s'
theorem zJu{prog:Program}{w:World}{A:Around}{E:Value->Shared->Prop}{s:Shared}{id:String}{b:Builtin}{us:List Value}{kw:List (Str×Value)}{Q:Value->Shared->Prop}(hk:builtinKind id=none)(hp:plainId id=true)(hb:entryFor table id=some b)(ha:argsOk id ⟨us,kw⟩)(hc:wpAny (model prog w) A.in1 (b ⟨us,kw⟩) (Xv prog w A Q E) E s) :
  wpAny (model prog w) A (call (.builtin id) us kw) Q E s:=by
 refine wpAny_call (codeAny_call_builtin hp hb (by
  simp only[checkBuiltinCall,hk]
  cases z:Manifest.signature? id with
  |none=>exact wpAny_pure hc
  |some sig =>
   have e:Bind.checkArgs id sig ⟨us,kw⟩=pure ():=by simpa only[argsOk,z] using ha
   simp only[e]
   exact wpAny_pure hc))
section
variable{X:Cx}{e e2:Expr}{te td:TE}{p pos kpos:Pos}
def HX(R:V->Prop):List V->Prop
 |[x]=>R x
 |_=>False
theorem Ks(r:Vals vs us)(q:HX R vs):∃x u,vs=[x]/\us=[u]/\RelV x u/\R x:=by
 cases r with
 |nil=>exact q.elim
 |cons rx t =>
  cases t with
  |nil=>exact⟨_,_,rfl,rfl,rx,q⟩
  |cons _ _=>exact q.elim
end
end L2
namespace Ts
open PySem L2
def Xw:LI->Int
 |[]=>0
 |[x]=>x
 |x::xs=>max x (Xw xs)
def iG:LI->Int
 |[]=>0
 |[x]=>x
 |x::xs=>min x (iG xs)
theorem U3:∀{ns:LI}{a:Int},a∈ns->iG ns<=a
 |[x],a,h=>by rw[mem_singleton.mp h];exact Int.le_refl _
 |x::y::ns,a,h=>by
  show min x (iG (y::ns))<=a
  rcases mem_cons.mp h with rfl|h
  ·omega
  ·have:=U3 h;omega
theorem Ku:∀{ns:LI},ns≠[]->iG ns∈ns
 |[x],_=>by simp[iG]
 |x::y::ns,_=>by
  show min x (iG (y::ns))∈_
  have:=Ku (ns:=y::ns) (by simp)
  by_cases q:x<=iG (y::ns)
  ·rw[show min x (iG (y::ns))=x by omega];exact mem_cons_self
  ·rw[show min x (iG (y::ns))=iG (y::ns) by omega];exact mem_cons_of_mem _ this
def tX(ns:LI):Option Int:=if ns=[] then none else some (iG ns)
def Ra(ns:LI):LI:=ns.mergeSort (λa b=>decide (a<=b))
def qN(ns:LI):Option LI:=if ns.length<64 then some (Ra ns) else none
theorem vX(ns:LI):(Ra ns).Perm ns:=List.mergeSort_perm _ _
theorem Xx(ns:LI):(Ra ns).Pairwise (· <= ·):=by
 have:=List.pairwise_mergeSort (le:=λa b:Int=>decide (a<=b)) (λa b c h1 h2=>by simp at *;omega) (λa b=>by simp;omega) ns
 exact this.imp λh=>by simpa using h
theorem Xy:∀{xs ys:LI},xs.Perm ys->xs.Pairwise (· <= ·)->ys.Pairwise (· <= ·)->xs=ys
 |[],ys,p,_,_=>(Perm.nil_eq p)
 |x::xs,[],p,_,_=>by have:=p.length_eq;simp at this
 |x::xs,y::ys,p,h1,h2=>by
  have a1:=pairwise_cons.mp h1
  have a2:=pairwise_cons.mp h2
  have e:x=y:=by
   have q1:x∈y::ys:=p.subset mem_cons_self
   have q2:y∈x::xs:=p.symm.subset mem_cons_self
   rcases mem_cons.mp q1 with q1|q1
   ·exact q1
   ·rcases mem_cons.mp q2 with q2|q2
    ·exact q2.symm
    ·have:=a1.1 y q2;have:=a2.1 x q1;omega
  subst e
  rw[Xy (Perm.cons_inv p) a1.2 a2.2]
section
variable{K:PySem.W.Frag}{B:Bs}{sl:SL K}{md:Md}{t t1 t2:TE}{n:Bool}
theorem Er(h:Ex B sl .hp t m):Ex B sl md (rT (HS K (· <= ·)) (xG t bF)) (m.bind tX):=λc hc F O H σ Q s k=>by
 cases m with
 |none=>cases hc
 |some ns =>
  have hc:tX ns=some c:=hc
  unfold tX at hc
  split at hc
  ·cases hc
  rename_i hne
  cases hc
  refine h ns rfl F O H σ _ s λv F' H' g r1=>?_
  obtain⟨p,vs,rfl,z1,z2⟩:=r1
  have z3:vs=ns.map V.int:=z2.vals
  subst z3
  refine⟨p,ns,rfl,aV.of z1,hne,λM m1 m2=>?_⟩
  have e:M=iG ns:=by have:=U3 m1;have:=m2 _ (Ku hne);omega
  rw[e]
  exact k _ F' H' g rfl
theorem zQv(h:Ex B sl .hp t m):Eo B sl md (rT (HW K) (xG t bF)) (m.bind qN):=λc hc F O H σ Q s k=>by
 cases m with
 |none=>cases hc
 |some ns =>
  have hc:qN ns=some c:=hc
  unfold qN at hc
  split at hc
  case isFalse=>cases hc
  rename_i hl
  cases hc
  refine h ns rfl F O H σ _ s λv F' H' g r1=>?_
  obtain⟨p,vs,rfl,z1,z2⟩:=r1
  have z3:vs=ns.map V.int:=z2.vals
  subst z3
  refine⟨p,ns,rfl,aV.of z1,hl,λl ns' hn p1 p2=>?_⟩
  rw[Xy (p1.trans (vX ns).symm) p2 (Xx ns)]
  exact k l _ F' H' g hn (Ed _)
theorem zTo(h:Ex B sl .hp t m):Ex B sl md (rT (zUf K f) (xG t bF)) (m.bind λbs=>some (f bs)):=λc hc F O H σ Q s k=>by
 cases m with
 |none=>cases hc
 |some bs =>
  cases(show some (f bs)=some c from hc)
  refine h bs rfl F O H σ _ s λv F' H' g r1=>?_
  obtain⟨p,vs,rfl,z1,z2⟩:=r1
  have z3:vs=bs.map V.bl:=z2.vals
  subst z3
  exact⟨p,bs,rfl,aV.of z1,k _ F' H' g rfl⟩
theorem Es(h:Ex B sl .hp t m):Ex B sl md (tUn (rU λi=>.int (-i)) t) (m.bind λa=>some (-a)):=λc hc F O H σ Q s k=>by
 cases m with
 |none=>cases hc
 |some a =>
  cases(show some (-a)=some c from hc)
  refine h a rfl F O H σ _ s λv F' H' g r1=>?_
  cases r1
  exact⟨a,rfl,k _ F' H' g rfl⟩
end
section
variable{β:Type}
def gK(kvs:List (Key×β))(k:Key):Option β:=(kvs.find? λkv=>decide (kv.1=k)).map (·.2)
def pK(kvs:List (Key×β))(k:Key)(v:β):List (Key×β):=if(kvs.any λkv=>decide (kv.1=k))=true then kvs.map (λkv=>if kv.1=k then(kv.1,v) else kv) else kvs++[(k,v)]
abbrev bU(kvs:List (Key×β))(k:Int):Option β:=gK kvs (Sum.inl k)
def dput(kvs:List (Key×β))(k:Int)(v:β):Option (List (Key×β)):=if kvs.length<cap then some (pK kvs (Sum.inl k) v) else none
theorem zQk:∀{kvs:List (Key×β)}{k:Key},(kvs.any λkv=>decide (kv.1=k))=(gK kvs k).isSome
 |[],_=>rfl
 |x::kvs,k=>by
  unfold gK
  rw[any_cons,find?_cons]
  by_cases e:x.1=k
  ·rw[decide_eq_true e];rfl
  ·rw[decide_eq_false e,Bool.false_or];exact zQk
theorem Xz:∀(kvs:List (Key×β))(k j:Key)(v:β),gK (pK kvs k v) j=if j=k then some v else gK kvs j:=λkvs k j v=>by
 unfold pK
 cases a:(kvs.any λkv=>decide (kv.1=k)) with
 |true =>
  rw[if_pos rfl]
  induction kvs with
  |nil=>cases a
  |cons x kvs ih =>
   unfold gK at ih ⊢
   rw[map_cons,find?_cons,find?_cons]
   by_cases e:x.1=k
   ·rw[if_pos e]
    by_cases f:j=k
    ·subst f
     rw[decide_eq_true (show(x.1,v).1=j from e),if_pos rfl];rfl
    ·rw[decide_eq_false (show¬(x.1,v).1=j fromλz=>f (z.symm.trans e)),if_neg f]
     show Option.map (λx=>x.2) (List.find? (λkv=>decide (kv.1=j)) (List.map (λkv=>if kv.1=k then(kv.1,v) else kv) kvs))=Option.map (λx=>x.2) (List.find? (λkv=>decide (kv.1=j)) kvs)
     clear ih a
     induction kvs with
     |nil=>rfl
     |cons y kvs ih =>
      rw[map_cons,find?_cons,find?_cons]
      by_cases g:y.1=k
      ·rw[if_pos g,decide_eq_false (show¬(y.1,v).1=j fromλz=>f (z.symm.trans g))];exact ih
      ·rw[if_neg g]
       by_cases h:y.1=j
       ·rw[decide_eq_true h]
       ·rw[decide_eq_false h];exact ih
   ·rw[if_neg e]
    have a':(kvs.any λkv=>decide (kv.1=k))=true:=by rw[any_cons,decide_eq_false e,Bool.false_or] at a;exact a
    by_cases f:x.1=j
    ·rw[decide_eq_true f,if_neg λz=>e (f.trans z)]
    ·rw[decide_eq_false f];exact ih a'
 |false =>
  rw[if_neg (by decide)]
  unfold gK
  rw[List.find?_append]
  have hn:kvs.find? (λkv=>decide (kv.1=k))=none:=by
   rw[List.find?_eq_none]
   intro x hx
   have:=any_eq_false.mp a x hx
   exact this
  by_cases f:j=k
  ·subst f;rw[hn,if_pos rfl];simp
  ·rw[if_neg f]
   cases kvs.find? (λkv=>decide (kv.1=j)) with
   |none=>simp[Ne.symm f]
   |some y=>rfl
theorem XC(kvs:List (Key×β))(k:Key)(v:β):(pK kvs k v).length<=kvs.length+1:=by
 unfold pK
 split
 ·rw[length_map];omega
 ·rw[length_append];exact Nat.le_refl _
end
section
variable{K:PySem.W.Frag}{α:Type}[Rp K α]
abbrev DR(K:PySem.W.Frag){α:Type}[Rp K α](F:Hp):Key×V->Key×α->Prop:=λx y=>x.1=y.1/\rp K F x.2 y.2
theorem A2.any:∀{ks:List (Key×V)}{kvs:List (Key×α)},A2 (DR K F) ks kvs->(ks.any λkv=>decide (kv.1=k))=(kvs.any λkv=>decide (kv.1=k))
 |[],[],_=>rfl
 |_::_,_::_,h=>by rw[any_cons,any_cons,h.1.1,A2.any h.2]
 |[],_::_,h=>h.elim
 |_::_,[],h=>h.elim
theorem A2.val:∀{ks:List (Key×V)}{kvs:List (Key×α)},A2 (DR K F) ks kvs->(gK kvs k=none/\gA ks k=none)\/∃a v,gK kvs k=some a/\gA ks k=some v/\rp K F v a
 |[],[],_=>.inl ⟨rfl,rfl⟩
 |x::ks,y::kvs,h=>by
  unfold gK gA
  rw[find?_cons,find?_cons,h.1.1]
  by_cases e:y.1=k
  ·rw[decide_eq_true e];exact .inr ⟨y.2,x.2,rfl,rfl,h.1.2⟩
  ·rw[decide_eq_false e];exact A2.val h.2
 |[],_::_,h=>h.elim
 |_::_,[],h=>h.elim
theorem A2.Rb(r:rp K F v a):∀{ks:List (Key×V)}{kvs:List (Key×α)},A2 (DR K F) ks kvs->A2 (DR K F) (ks.map λkv=>if kv.1=k then(kv.1,v) else kv) (kvs.map λkv=>if kv.1=k then(kv.1,a) else kv)
 |[],[],_=>trivial
 |x::ks,y::kvs,h=>by
  rw[map_cons,map_cons]
  refine⟨?_,A2.Rb r h.2⟩
  by_cases e:x.1=k
  ·rw[if_pos e,if_pos (h.1.1▸e)];exact⟨h.1.1,r⟩
  ·rw[if_neg e,if_neg (h.1.1▸e)];exact h.1
 |[],_::_,h=>h.elim
 |_::_,[],h=>h.elim
theorem A2.put{F:Hp}{k:Key}{v:V}{a:α}(r:rp K F v a){ks:List (Key×V)}{kvs:List (Key×α)}(h:A2 (DR K F) ks kvs):A2 (DR K F) (putK ks k v) (pK kvs k a):=by
 unfold putK pK
 rw[h.any]
 split
 ·exact h.Rb r
 ·exact h.snoc ⟨rfl,r⟩
structure Dc(α:Type) where
 kv:List (Key×α)
instance:Rp K (Dc α):=⟨λF v d=>∃p ks,v=.ref p/\F p=some (.dK ks)/\A2 (DR K F) ks d.kv,λs ⟨p,ks,h1,h2,h3⟩=>⟨p,ks,h1,s _ _ h2,h3.imp λ_ _ z=>⟨z.1,Rp.mono s z.2⟩⟩⟩
instance:Nn K (Dc α):=⟨λ⟨_,_,h,_⟩=>by rw[h];intro e;cases e⟩
variable{B:Bs}{sl:SL K}{md:Md}{t t2:TE}{F H G:Hp}{O:Own}{σ:St}{u:TS}{al:Bool}
theorem Ny{kvs:List (Key×α)}(i:Nat)(hs:sl[i]?=some (.od kvs)):Ex B sl .hp (dh i) (some (Dc.mk kvs)):=λa' ha F O H σ Q s k=>by
 cases ha
 obtain⟨k0,z0⟩:=s
 obtain⟨O1,O2,p,ks,rfl,h1,h2,_⟩:=z0.Hu hs
 exact⟨_,h1,k _ F H (.refl k0) ⟨p,ks,rfl,k0.one.2.2,h2.imp λ_ _ z=>⟨z.1,Rp.mono k0.fh z.2⟩⟩⟩
theorem Kv{m:Option Int}{m2:Option (Dc α)}(h:Ex B sl .hp t m)(h2:Ex B sl .hp t2 m2):Ex B sl md (JH t t2) (m.bind λk=>m2.bind λd=>some (bU d.kv k).isSome):=λc hc F O H σ Q s kk=>by
 obtain⟨k,d,e1,e2,e3⟩:=m6 hc
 cases e3
 refine h k e1 F O H σ _ s λv F' H' g r1=>?_
 refine h2 d e2 F' O H' σ _ (s.grow g) λw F2 H2 g2 r2=>?_
 cases r1
 obtain⟨p,ks,rfl,z1,z2⟩:=r2
 refine⟨p,_,rfl,kY.k (k:=Sum.inl k) z1,?_⟩
 have e:(gA ks (Sum.inl k:Key)).isSome=(bU d.kv k).isSome:=by
  rcases z2.val (k:=Sum.inl k) with⟨q1,q2⟩|⟨a,v,q1,q2,_⟩
  ·show _=(gK d.kv (Sum.inl k)).isSome;rw[q1,q2];rfl
  ·show _=(gK d.kv (Sum.inl k)).isSome;rw[q1,q2];rfl
 rw[e]
 exact kk _ F2 H2 (g.trans g2) rfl
theorem zJn{m:Option Int}{m2:Option (Dc α)}(h:Ex B sl .hp t m)(h2:Ex B sl .hp t2 m2):Ex B sl md (zOf t t2) (m.bind λk=>m2.bind λd=>some !(bU d.kv k).isSome):=λc hc F O H σ Q s kk=>by
 obtain⟨k,d,e1,e2,e3⟩:=m6 hc
 cases e3
 refine h k e1 F O H σ _ s λv F' H' g r1=>?_
 refine h2 d e2 F' O H' σ _ (s.grow g) λw F2 H2 g2 r2=>?_
 cases r1
 obtain⟨p,ks,rfl,z1,z2⟩:=r2
 refine⟨p,_,rfl,kY.k (k:=Sum.inl k) z1,?_⟩
 have e:(gA ks (Sum.inl k:Key)).isSome=(bU d.kv k).isSome:=by
  rcases z2.val (k:=Sum.inl k) with⟨q1,q2⟩|⟨a,v,q1,q2,_⟩
  ·show _=(gK d.kv (Sum.inl k)).isSome;rw[q1,q2];rfl
  ·show _=(gK d.kv (Sum.inl k)).isSome;rw[q1,q2];rfl
 rw[e]
 exact kk _ F2 H2 (g.trans g2) rfl
theorem U4{kvs:List (Key×α)}{m:Option α}{mi:Option Int}{te ti:TE}(i:Nat)(hs:sl[i]?=some (.od kvs))(hh:sl.all (λs=>!oF s)=true)(hv:Ex B sl .fz te m)(hi:Ex B sl .hp ti mi) :
  Sn B sl (yx (dh i) ti te) (λys=>sl.set i (.od ys)) (m.bind λa=>mi.bind λk=>dput kvs k a):=λys ha G D σ H s k=>by
 obtain⟨a,ix,e1,e2,e3⟩:=m6 ha
 unfold dput at e3
 split at e3
 case isFalse=>cases e3
 rename_i hl
 cases e3
 obtain⟨F,O,g,z⟩:=s
 refine hv a e1 F O H σ _ z λv F' H' gr r=>?_
 obtain⟨p,ks,h1,h2,h3,_⟩:=(z.grow gr).Dw hs hh
 refine⟨_,h1,?_⟩
 refine hi ix e2 F' O H' σ _ (z.grow gr) λw F2 H2 sy rw=>?_
 cases rw
 obtain⟨p',ks',h1',h2',h3',h4'⟩:=((z.grow gr).grow sy).Dw hs hh
 have e:=h1.symm.trans h1'
 cases e
 obtain⟨O',z'⟩:=h4' (putK ks' (Sum.inl ix) v) (pK kvs (Sum.inl ix) a) (h3'.put (Rp.mono sy.ff r))
 exact⟨p,_,rfl,tH.k (k:=Sum.inl ix) h2' (Hw (by rw[h3'.len];exact hl)),k _ _ ⟨F2,O',(g.trans gr.ff).trans sy.ff,z'⟩⟩
end
end Ts
namespace L2
open PySem PySem.Spec PyProof.Rows
def XD(lo:Int)(n:Nat):It:=⟨λi _=>i<n,λi H x H'=>H'=H/\x=.int (lo-i),λi _=>n<=i⟩
theorem zOb{P:Program}{w:World}{K:PySem.W.Frag}{tg:Expr}(it:Addr)(lo:Int)(n:Nat):Turn P w K tg (XD lo n) [it] it (λi h=>IsRangeIter h it (lo+(i:Nat)*(-1)) ((n:Int)-(i:Nat)) (-1)) where
 mem:=mem_singleton.mpr rfl
 obj:=λi h st b hb=>by
  have e:b=it:=mem_singleton.mp hb
  subst e
  refine⟨_,st,λv z=>?_⟩
  have z':Data.fields _=Data.cell v:=z
  cases z'
 keep:=λi h h' st k=>k it (mem_singleton.mpr rfl) _ st
 item:=by
  intro X hP hw hK hc i pins s σ H E I hf st hg
  subst hP hw hK
  obtain⟨f0,f1,f2,f3,f4,f5⟩:=hf it (mem_singleton.mpr rfl)
  have Wk:=Walks.range (prog:=X.prog) (w:=X.w) (I.ok.hd hc) it lo (-1) n
  refine Wk.item i s _ _ hg st λv h' tk hv st' kk=>?_
  obtain⟨t,rfl⟩:=hv
  have I1:Inv X pins σ H { s with heap:=h',toks:=tk }:=I.turned (λb o hb e=>kk b o (λz=>hb (mem_singleton.mp z)) e) f0 f1 f3 f4 f5
  refine⟨_,rfl,P0 (s:={ s with heap:=h',toks:=tk }) (n:="range_iterator") st' rfl rfl (by decide) ⟨.int (lo-i),H,I1,⟨t,?_⟩,⟨rfl,rfl⟩,st',λb hb=>(hf b hb).1⟩⟩
  rw[show lo+(i:Int)*(-1)=lo-i by omega]
 done:=by
  intro X hP hw hK hc i pins s σ H E I hf st hg
  subst hP hw hK
  obtain⟨f0,f1,f2,f3,f4,f5⟩:=hf it (mem_singleton.mpr rfl)
  refine wpAny_pyNext_range_end (I.ok.hd hc) st ?_ λh' eb=>⟨rfl,I.turned (t':=s.toks) (λb o hb e=>eb b o hb e) f0 f1 f3 f4 f5⟩
  have:n<=i:=hg
  omega
 self:=λ_ _ _ _ _ st h=>wpAny_pyIter_rangeiter st h
section
variable{X:Cx}{tg:Expr}
theorem Eu{pins:List (Addr×Obj)}{σ:St}{H:Hp}{s:Shared}{R:It->Hp->Prop}{E:Value->Shared->Prop}{lo hi:Int}{t u v:Tok}{tk:Nat}(I:Inv X pins σ H s)(hs:Builtin.Range.small lo hi (-1)=true)(hz:Builtin.Range.rangeSize lo hi (-1)=(((lo-hi).toNat:Nat):Int))(q:R (XD lo (lo-hi).toNat) H):wpAny (model X.prog X.w) X.A (pyIter (.ref s.heap.objs.size)) (PIE X pins σ tg R) E { s with heap:=s.heap.push { cls:=.type "range",data:=.fields #[.int lo t,.int hi u,.int (-1) v] },toks:=tk }:=by
 refine wpAny_pyIter_range (IsRange.new ..) hs ?_
 have I1:Inv X pins σ H { s with heap:=s.heap.push { cls:=.type "range",data:=.fields #[.int lo t,.int hi u,.int (-1) v] },toks:=tk }:=I.kept λb o e=>get?_push_of_some _ e
 generalize hg:s.heap.push { cls:=.type "range",data:=.fields #[.int lo t,.int hi u,.int (-1) v] }=g at I1
 refine⟨g.objs.size,[g.objs.size],_,_,H,rfl,I1.kept (t':=tk) λb o e=>get?_push_of_some _ e,zOb _ lo (lo-hi).toNat,?_,λb hb=>?_,q⟩
 ·show IsRangeIter _ _ (lo+((0:Nat):Int)*(-1)) ((((lo-hi).toNat:Nat):Int)-((0:Nat):Int)) (-1)
  rw[show lo+((0:Nat):Int)*(-1)=lo by omega,show(((lo-hi).toNat:Nat):Int)-((0:Nat):Int)=Builtin.Range.rangeSize lo hi (-1) by rw[hz];omega]
  exact get?_push_size _ rfl
 ·have e:b=g.objs.size:=mem_singleton.mp hb
  subst e
  exact I1.oA (Nat.le_refl _) (I1.hok.fresh (Nat.le_refl _))
theorem zIq(a b:Int):Builtin.Range.rangeSize a b (-1)=(((a-b).toNat:Nat):Int):=by
 unfold Builtin.Range.rangeSize
 rw[if_neg (by decide)]
 show(if a > b then(a-b-1)/1+1 else 0)=_
 rw[Int.ediv_one]
 split<;>omega
theorem zMv(h1:-(2^61)<=a)(h2:a<2^61)(h3:-(2^61)<=b)(h4:b<2^61):Builtin.Range.small a b (-1)=true:=by
 unfold Builtin.Range.small
 rw[zIq]
 simp only[Builtin.Range.rangeFitsLong,Bool.and_eq_true,Bool.or_eq_true,decide_eq_true_eq,beq_iff_eq,show¬((-1:Int) > 0) by decide,if_false]
 omega
def HY(ta:TA):TI:=λσ H R=>ta σ H λvs H1=>∃i j:Int,vs=[.int i,.int j,.int (-1)]/\(-(2^61)<=i/\i<2^61 /\ -(2^61)<=j/\j<2^61)/\R (XD i (i-j).toNat) H1
theorem Ew(hg:Gl X "range")(hm:X.mg "range" = none)(ha:PA X [a,b,c] ta)(hs:starEach [a,b,c] X.env=[(false,eval a X.env),(false,eval b X.env),(false,eval c X.env)]:=by rfl)(hs2:starEach [b,c] X.env=[(false,eval b X.env),(false,eval c X.env)]:=by rfl) :
  PI X tg (.Call (.Name "range" p) [a,b,c] [] pos) (HY ta):=by
 intro pins s σ H R I h
 refine Call_ (yg I hg hm boot_range (PyProof.Rows.callWith_type1 (aJ (ha pos pins s σ H _ I h) λus s1 ⟨vs,H1,I1,r1,q1⟩=>?_) (by rw[hs,hs2]) (by rw[hs2];rfl)))
 obtain⟨i,j,e,⟨q1,q2,q3,q4⟩,q⟩:=q1
 subst e
 cases r1 with
 |cons r rr =>
  cases rr with
  |cons r' rr =>
   cases rr with
   |cons r'' rr =>
    cases rr
    obtain⟨t,rfl⟩:=r
    obtain⟨t',rfl⟩:=r'
    obtain⟨t'',rfl⟩:=r''
    exact call_range_3 (by decide) (Eu I1 (zMv q1 q2 q3 q4) (zIq i j) q) (.inl (PyProof.noPylong_small (by decide)))
end
end L2
namespace Ts
open PySem L2
def Rf(i j:Int):Option LI:=if -(2^61)<=i/\i<2^61 /\ -(2^61)<=j/\j<2^61 then some ((List.range (i-j).toNat).map λk=>i-Int.ofNat k) else none
theorem Kw:W (Rf i j) Q↔(-(2^61)<=i/\i<2^61 /\ -(2^61)<=j/\j<2^61)/\Q ((List.range (i-j).toNat).map λk=>i-Int.ofNat k):=by
 unfold Rf
 split
 ·rename_i h;rw[aj];exact⟨λq=>⟨h,q⟩,λq=>q.2⟩
 ·rename_i h;rw[sH];exact⟨False.elim,λq=>h q.1⟩
section
variable{K:PySem.W.Frag}{B:Bs}{sl:SL K}{t1 t2 t3:TE}{n:Bool}
theorem zQ1(h:((List.range k).map λj=>a-Int.ofNat j)[i]?=some x):i<k/\x=a-i:=by
 rw[getElem?_map] at h
 by_cases q:i<k
 ·rw[getElem?_range q] at h;cases h;exact⟨q,rfl⟩
 ·rw[List.getElem?_eq_none (by rw[length_range];omega)] at h;cases h
theorem Ey(h1:Ex B sl .hp t1 m1)(h2:Ex B sl .hp t2 m2)(h3:Ex B sl .hp t3 (some (-1:Int))):Ei B sl n (HY (xG t1 (xG t2 (xG t3 bF)))) (m1.bind λa=>m2.bind λb=>Rf a b):=λxs hx F O H σ R a k=>by
 obtain⟨i,j,e1,e2,e3⟩:=m6 hx
 unfold Rf at e3
 split at e3
 case isFalse=>cases e3
 rename_i hb
 cases e3
 refine h1 i e1 F O H σ _ a λv F' H' gr r=>?_
 refine h2 j e2 F' O H' σ _ (a.grow gr) λw F2 H2 g2 r2=>?_
 refine h3 (-1) rfl F2 O H2 σ _ ((a.grow gr).grow g2) λw3 F3 H3 g3 r3=>?_
 cases r
 cases r2
 cases r3
 refine⟨i,j,rfl,hb,k _ F3 H3 (gr.trans (g2.trans g3)) λq F4 O4 H4 sf k4=>⟨λhl=>?_,λx hx=>?_⟩⟩
 ·rw[length_map,length_range] at hl;exact hl
 ·obtain⟨h1,rfl⟩:=zQ1 hx
  refine⟨h1,λv H5 yd=>?_⟩
  obtain⟨rfl,rfl⟩:=yd
  exact⟨F4,.refl k4,rfl⟩
end
section
variable{K:PySem.W.Frag}{B:Bs}{sl:SL K}{md:Md}{t:TE}{u:TS}{al:Bool}{α:Type}[Rp K α]
abbrev Rg:List V->Hp->VK->Prop:=λxs H Q=>(∃i,xs=[.int i]/\Q (.int i) H)\/∃k,xs=[.bl k]/\Q (.int (if k then 1 else 0)) H
theorem Ez(h:Ex B sl .hp t m):Ex B sl md (rT Rg (xG t bF)) (m.bind λb=>some (if b=true then(1:Int) else 0)):=λc hc F O H σ Q s k=>by
 cases m with
 |none=>cases hc
 |some b =>
  cases(show some (if b=true then(1:Int) else 0)=some c from hc)
  refine h b rfl F O H σ _ s λv F' H' g r1=>?_
  cases r1
  exact .inr ⟨b,rfl,k _ F' H' g rfl⟩
theorem zSg{n:Bool}{xs:List α}(i:Nat)(hs:sl[i]?=some (.ow n xs))(hn:n=!al):SB B sl (kO (yj (dh i)) u) al (some (some xs)):=λb hb G D σ H s k=>by
 cases hb
 exact BZ (u:=u) i hs hn xs rfl G { D with rt:=D.rt } σ H s λv H' r=>k v H' ⟨r.1,Nn.nn (K:=K) r.2,r.2⟩
end
end Ts
namespace L2
open PySem PySem.Spec PyProof.Rows
section
variable{X:Cx}
def zUe:List V->Hp->VK->Prop:=λxs H Q=>∃(p:Addr)(ks:List (Key×V))(ns:LI),xs=[.ref p]/\H p=some (.dK ks)/\ks.map (·.1)=ns.map Sum.inl/\ns.length<64 /\
 ∀(l:Addr)(ns':LI),H l=none->ns'.Perm ns->ns'.Pairwise (· <= ·)->Q (.ref l) (upd H l (.lst (ns'.map V.int)))
theorem zJf:∀{ns:LI}{us:List Value},us.length=ns.length->(∀(i:Nat)(v:Value),us[i]?=some v->∃n:Int,ns[i]?=some n/\(xN P w).is (Sum.inl n) v=true)->IntsAre us ns
 |[],[],_,_=>.nil
 |n::ns,v::us,hl,h=>by
  obtain⟨m,e,k⟩:=h 0 v rfl
  cases e
  have e:∃t,v=.int n t:=Value.isInt_shape k
  obtain⟨t,rfl⟩:=e
  exact .cons n t (zJf (P:=P) (w:=w) (Nat.succ.inj hl) λi v hv=>h (i+1) v hv)
 |[],_::_,hl,_=>by cases hl
 |_::_,[],hl,_=>by cases hl
theorem KV.Ky{ks:List (Key×V)}{vs:List (Key×Value)}(r:KV ks vs):ks.map (·.1)=vs.map (·.1):=by
 unfold KV at r
 induction r with
 |nil=>rfl
 |cons h _ ih=>rw[map_cons,map_cons,h.1,ih]
theorem zNq(hc:X.calm=true):qy X (.builtin "sorted") zUe:=by
 intro pins s σ H xs us Q I r h
 obtain⟨p,ks,ns,rfl,hp,hk,h64,q⟩:=h
 obtain⟨u,rfl,rx⟩:=CV r
 cases rx
 obtain⟨hz,lo,vs,rel,dd⟩:=yw I.hok hp
 obtain⟨ep,hat⟩:=dd.dictAt
 have key:=rel.Ky
 have hvl:vs.length=ns.length:=by
  have:=congrArg length (key.symm.trans hk)
  rw[length_map,length_map] at this
  exact this
 have hsl:ns.length<=sizeLine:=Nat.le_of_lt (Nat.lt_trans h64 (by decide))
 refine PySem.Calls.call_function_entry kind_sorted plain_sorted entry_sorted (args_sorted1 _) ?_
 unfold Builtin.«sorted»
 refine wpAny_bind (m:=checkCount "sorted" 1 1 _) (wpAny_pure ?_)
 refine wpAny_bind (PySem.W.kdu_collect (A:=X.A.in1) (PySem.W.kdl_dict (knd:=xN X.prog X.w) (kvs:=vs) (ep:=ep) lo) (I.ok.hd hc) hat (by rw[hvl];exact hsl) λh' tk acc hkeep hacc=>?_)
 have hal:acc.toList.length=ns.length:=by rw[length_toList,<-hvl];exact hacc.1
 have hI:IntsAre acc.toList ns:=zJf (P:=X.prog) (w:=X.w) hal λi v hv=>by
  obtain⟨k,x,e1,e2⟩:=hacc.2 i v (by rw[<-getElem?_toList];exact hv)
  have e3:(vs.map (·.1))[i]?=some k:=by rw[getElem?_map,e1];rfl
  rw[<-key,hk,getElem?_map] at e3
  cases z:ns[i]? with
  |none=>rw[z] at e3;cases e3
  |some n =>
   rw[z] at e3
   cases e3
   exact⟨n,rfl,e2⟩
 refine wpAny_bind (wpAny_newList ?_ (by rw[hal];exact hsl))
 have hoL:(h'.push (seqObj "list" acc.toList.toArray 0)).get? h'.objs.size=some (seqObj "list" acc.toList.toArray 0):=get?_push_size _ rfl
 show wpAny _ _ _ _ _ { s with heap:=h'.push (seqObj "list" acc.toList.toArray 0),toks:=tk }
 have I':=I.kept (t':=tk) hkeep
 refine wpAny_bind (wpAny_holding (wpAny_call_entry slot_list_sort ⟨_,hoL,rfl⟩ entry_list_sort (list_sort_tree hoL hI (by omega) λout ns' a1 a2 a3=>⟨_,rfl,?_⟩) (args_list_sort _)))
 refine wpAny_pure ⟨_,rfl,?_⟩
 obtain⟨e,he⟩:=sortedHeap_at (out:=out) hoL
 refine⟨.ref h'.objs.size,_,I'.laid (t':=tk) (o:=.lst (ns'.map V.int)) (λb ob w=>?_) (Nat.le_refl _) ?_,rfl,q _ ns' (I'.hok.fresh (Nat.le_refl _)) a2 a3⟩
 ·have hb:h'.get? b=some ob:=w
  have hlt:=lt_size hb
  rw[sortedHeap_old (Nat.ne_of_lt hlt) (by rw[size_push'];exact Nat.lt_succ_of_lt hlt),Heap.get?_push_ne _ _ _ (Nat.ne_of_lt hlt)]
  exact hb
 ·refine⟨?_,out.toList,e,uD a1,?_⟩
  ·rw[length_map,a2.length_eq];exact hsl
  ·rw[toArray_toList];exact he
end
end L2
namespace Ts
open PySem L2
section
variable{K:PySem.W.Frag}{B:Bs}{sl:SL K}{md:Md}{t:TE}{α:Type}[Rp K α]
def Ad{β:Type}:List (Key×β)->Option LI
 |[]=>some []
 | (.inl k,_)::r=>(Ad r).bind λns=>some (k::ns)
 | (.inr _,_)::_=>none
theorem zL1{β:Type}:∀{kvs:List (Key×β)}{ns:LI},Ad kvs=some ns->kvs.map (·.1)=ns.map Sum.inl
 |[],ns,h=>by cases h;rfl
 | (.inl k,v)::r,ns,h=>by
  unfold Ad at h
  cases e:Ad r with
  |none=>rw[e] at h;cases h
  |some ms=>rw[e] at h;cases h;rw[map_cons,map_cons,zL1 e]
 | (.inr _,_)::_,ns,h=>by cases h
theorem A2.keys:∀{ks:List (Key×V)}{kvs:List (Key×α)},A2 (DR K F) ks kvs->ks.map (·.1)=kvs.map (·.1)
 |[],[],_=>rfl
 |_::_,_::_,h=>by rw[map_cons,map_cons,h.1.1,A2.keys h.2]
 |[],_::_,h=>h.elim
 |_::_,[],h=>h.elim
theorem zTp{m:Option (Dc α)}(h:Ex B sl .hp t m):Eo B sl md (rT zUe (xG t bF)) (m.bind λd=>(Ad d.kv).bind qN):=λc hc F O H σ Q s k=>by
 cases m with
 |none=>cases hc
 |some d =>
  have hc:(Ad d.kv).bind qN=some c:=hc
  cases e:Ad d.kv with
  |none=>rw[e] at hc;cases hc
  |some ns =>
   rw[e] at hc
   have hc:qN ns=some c:=hc
   unfold qN at hc
   split at hc
   case isFalse=>cases hc
   rename_i hl
   cases hc
   refine h d rfl F O H σ _ s λv F' H' g r1=>?_
   obtain⟨p,ks,rfl,z1,z2⟩:=r1
   refine⟨p,ks,ns,rfl,z1,z2.keys.trans (zL1 e),hl,λl ns' hn p1 p2=>?_⟩
   rw[Xy (p1.trans (vX ns).symm) p2 (Xx ns)]
   exact k l _ F' H' g hn (Ed _)
theorem zSc(i j:Nat)(hj:sl[j]?=some (.fz n x))(hs:sl[i]?=some s)(ho:iW s=false):Sn B sl (lE (za [(dh j,tC (.bl b))]) (qH i)) (λkvs=>sl.set i (.od kvs)) (some [((Sum.inl x:Key),b)]):=λa ha G D σ H s k=>by
 cases ha
 obtain⟨F,O,g,k0,z0⟩:=s
 obtain⟨v,hv,rv⟩:=z0.nO hj
 cases rv
 intro p hp
 refine⟨_,hv,?_⟩
 refine⟨zW,[(Sum.inl x,.bl b)],rfl,by show 1<=15;omega,k _ _ ?_⟩
 obtain⟨O1,O2,rfl,z'⟩:=z0.own (s':=.od [((Sum.inl x:Key),b)]) (x:=some (.ref p)) (c:=(p,.dK [(Sum.inl x,.bl b)])) (λ_ _ _ z=>.od ⟨⟨rfl,rfl⟩,trivial⟩ z) hs ho
 rw[show upd (upd H p (.dK [])) p (.dK (Ni [] [(Sum.inl x,V.bl b)]))=upd H p (.dK [(Sum.inl x,V.bl b)]) from Cq]
 exact⟨F,_,g,k0.add hp,z'.mono (.refl _) (Ut hp) (aO hp _)⟩
variable{S:Type}{n:Bool}{tb:TS}
end
end Ts
namespace L2
open PySem
theorem zSs(hk:PE X k tk)(hv:PE X v tv):PE X (.Dict [some k] [v] pos) (za [(tk,tv)]):=Dk (zSq hk hv Dj) rfl rfl (by simp) (by show 1<=15;omega)
open PySem PySem.Spec PyProof.Rows
def Its(x:Str):It:=⟨λi _=>i<x.cps.size,λi H v H'=>H'=H/\∃c,x.cps[i]?=some c/\v=.str ⟨#[c]⟩,λi _=>x.cps.size<=i⟩
theorem zMu{P:Program}{w:World}{K:PySem.W.Frag}{tg:Expr}(it:Addr)(x:Str)(t:Tok):Turn P w K tg (Its x) [it] it (λi h=>h.IsStrIter it "str_ascii_iterator" x t i) where
 mem:=mem_singleton.mpr rfl
 obj:=λi h st b hb=>by
  have e:b=it:=mem_singleton.mp hb
  subst e
  obtain⟨o,ho,hc,hd⟩:=st
  refine⟨o,ho,λv z=>?_⟩
  rw[hd] at z
  cases z
 keep:=λi h h' st k=>by
  obtain⟨o,ho,r⟩:=st
  exact⟨o,k it (mem_singleton.mpr rfl) _ ho,r⟩
 item:=by
  intro X hP hw hK hc i pins s σ H E I hf st hg
  subst hP hw hK
  obtain⟨f0,f1,f2,f3,f4,f5⟩:=hf it (mem_singleton.mpr rfl)
  refine(Walks.strAscii (prog:=X.prog) (w:=X.w) (I.ok.hd hc) it x t).item i s _ _ hg st λv h' tk hv st' kk=>?_
  obtain⟨c,u,hx,rfl⟩:=hv
  have I1:Inv X pins σ H { s with heap:=h',toks:=tk }:=I.turned (λb o hb e=>kk b o (λz=>hb (mem_singleton.mp z)) e) f0 f1 f3 f4 f5
  obtain⟨o,ho,hc,hd⟩:=id st'
  exact⟨_,rfl,P0 (s:={ s with heap:=h',toks:=tk }) (n:="str_ascii_iterator") ho hc hd (by decide) ⟨.str ⟨#[c]⟩,H,I1,⟨u,rfl⟩,⟨rfl,c,hx,rfl⟩,st',λb hb=>(hf b hb).1⟩⟩
 done:=by
  intro X hP hw hK hc i pins s σ H E I hf st hg
  subst hP hw hK
  obtain⟨f0,f1,f2,f3,f4,f5⟩:=hf it (mem_singleton.mpr rfl)
  exact wpAny_pyNext_ascii_end (I.ok.hd hc) st (Array.getElem?_eq_none hg) λh' eb=>⟨rfl,I.turned (t':=s.toks) (λb o hb e=>eb b o hb e) f0 f1 f3 f4 f5⟩
 self:=λ_ _ _ _ _ st h=>wpAny_pyIter_striter_ascii st h
theorem zN8{P:Program}{w:World}{K:PySem.W.Frag}{tg:Expr}(it:Addr)(x:Str)(t:Tok):Turn P w K tg (Its x) [it] it (λi h=>h.IsStrIter it "str_iterator" x t i) where
 mem:=mem_singleton.mpr rfl
 obj:=λi h st b hb=>by
  have e:b=it:=mem_singleton.mp hb
  subst e
  obtain⟨o,ho,hc,hd⟩:=st
  refine⟨o,ho,λv z=>?_⟩
  rw[hd] at z
  cases z
 keep:=λi h h' st k=>by
  obtain⟨o,ho,r⟩:=st
  exact⟨o,k it (mem_singleton.mpr rfl) _ ho,r⟩
 item:=by
  intro X hP hw hK hc i pins s σ H E I hf st hg
  subst hP hw hK
  obtain⟨f0,f1,f2,f3,f4,f5⟩:=hf it (mem_singleton.mpr rfl)
  refine(Walks.strWide (prog:=X.prog) (w:=X.w) (I.ok.hd hc) it x t).item i s _ _ hg st λv h' tk hv st' kk=>?_
  obtain⟨c,u,hx,rfl⟩:=hv
  have I1:Inv X pins σ H { s with heap:=h',toks:=tk }:=I.turned (λb o hb e=>kk b o (λz=>hb (mem_singleton.mp z)) e) f0 f1 f3 f4 f5
  obtain⟨o,ho,hc,hd⟩:=id st'
  exact⟨_,rfl,P0 (s:={ s with heap:=h',toks:=tk }) (n:="str_iterator") ho hc hd (by decide) ⟨.str ⟨#[c]⟩,H,I1,⟨u,rfl⟩,⟨rfl,c,hx,rfl⟩,st',λb hb=>(hf b hb).1⟩⟩
 done:=by
  intro X hP hw hK hc i pins s σ H E I hf st hg
  subst hP hw hK
  obtain⟨f0,f1,f2,f3,f4,f5⟩:=hf it (mem_singleton.mpr rfl)
  exact wpAny_pyNext_wide_end (I.ok.hd hc) st (Array.getElem?_eq_none hg) λh' eb=>⟨rfl,I.turned (t':=s.toks) (λb o hb e=>eb b o hb e) f0 f1 f3 f4 f5⟩
 self:=λ_ _ _ _ _ st h=>wpAny_pyIter_striter_wide st h
section
variable{X:Cx}{tg:Expr}
def Rh(tl:TE):TI:=λσ H R=>tl σ H λx H1=>∃y,x=.str y/\R (Its y) H1
theorem Kz(hl:PE X l tl):PI X tg l (Rh tl):=by
 intro pins s σ H R I h
 refine aJ (hl pins s σ H _ I h) λv s1 ⟨x,H1,I1,r1,q1⟩=>?_
 obtain⟨y,e,q⟩:=q1
 subst e
 obtain⟨t,rfl⟩:=r1
 have fp:∀b∈[s1.heap.objs.size],kW X pins H1 b:=λb hb=>by
  have e:b=s1.heap.objs.size:=mem_singleton.mp hb
  subst e
  exact I1.oA (Nat.le_refl _) (I1.hok.fresh (Nat.le_refl _))
 cases ha:y.cps.all (· < 128)
 ·exact wpAny_pyIter_wide ha ⟨s1.heap.objs.size,[s1.heap.objs.size],_,_,H1,rfl,I1.kept (t':=s1.toks) λb o e=>get?_push_of_some _ e,zN8 _ y t,⟨_,get?_push_size _ rfl,rfl,rfl⟩,fp,q⟩
 ·exact wpAny_pyIter_ascii ha ⟨s1.heap.objs.size,[s1.heap.objs.size],_,_,H1,rfl,I1.kept (t':=s1.toks) λb o e=>get?_push_of_some _ e,zMu _ y t,⟨_,get?_push_size _ rfl,rfl,rfl⟩,fp,q⟩
end
end L2
namespace Ts
open PySem L2
section
variable{K:PySem.W.Frag}{B:Bs}{sl:SL K}{md:Md}{t ta tb tc:TE}{n:Bool}
def H_(x:Str):List Str:=x.cps.toList.map λc=>(⟨#[c]⟩:Str)
theorem KC(h:Ex B sl .hp t mi):Ei B sl n (Rh t) (mi.bind λx=>some (H_ x)):=λxs hx F O H σ R a k=>by
 cases mi with
 |none=>cases hx
 |some x =>
  cases(show some (H_ x)=some xs from hx)
  refine h x rfl F O H σ _ a λv F' H' gr r=>?_
  cases r
  refine⟨x,rfl,k _ F' H' gr λi F2 O2 H2 sf k2=>⟨λhl=>?_,λy hy=>?_⟩⟩
  ·show x.cps.size<=i
   unfold H_ at hl
   rw[length_map,length_toList] at hl
   exact hl
  ·unfold H_ at hy
   rw[getElem?_map,getElem?_toList] at hy
   cases e:x.cps[i]? with
   |none=>rw[e] at hy;cases hy
   |some c =>
    rw[e] at hy
    cases hy
    have hi:i<x.cps.size:=(Array.getElem?_eq_some_iff.mp e).1
    refine⟨hi,λv H3 yd=>?_⟩
    obtain⟨rfl,c',e',rfl⟩:=yd
    rw[e] at e'
    cases e'
    exact⟨F2,.refl k2,rfl⟩
theorem U5{f g:Int->Int->Bool}(h1:Ex B sl .hp ta m1)(h2:Ex B sl .hp tb m2)(h3:Ex B sl .hp tc m3) :
  Ex B sl md (Wg (pJ λi j=>.bl (f i j)) (pJ λi j=>.bl (g i j)) ta tb tc) (m1.bind λa=>m2.bind λb=>if f a b=true then m3.bind λc=>some (g b c) else some false):=λd hd F O H σ Q s k=>by
 obtain⟨a,b,e1,e2,e3⟩:=m6 hd
 refine h1 a e1 F O H σ _ s λv F' H' g1 r1=>?_
 refine h2 b e2 F' O H' σ _ (s.grow g1) λw F2 H2 g2 r2=>?_
 cases r1
 cases r2
 refine⟨a,b,rfl,rfl,_,rfl,?_⟩
 by_cases q:f a b=true
 ·rw[if_pos q] at e3 ⊢
  cases m3 with
  |none=>cases e3
  |some c =>
   cases(show some (g b c)=some d from e3)
   refine h3 c rfl F2 O H2 σ _ ((s.grow g1).grow g2) λu F3 H3 g3 r3=>?_
   cases r3
   exact⟨b,c,rfl,rfl,k _ F3 H3 ((g1.trans g2).trans g3) rfl⟩
 ·rw[if_neg q] at e3 ⊢
  cases e3
  exact k _ F2 H2 (g1.trans g2) rfl
def Ia:List V->Hp->VK->Prop:=λxs H Q=>∃x:Str,xs=[.str x]/\x.length<cap/\Q (.int x.length) H
theorem zRe:qy X (.builtin "len") Ia:=by
 intro pins s σ H xs us Q I r h
 obtain⟨x,rfl,hl,q⟩:=h
 exact zTv pins s σ H _ us Q I r ⟨_,_,rfl,⟨Nat.le_of_lt (Hw hl),rfl⟩,q⟩
def Ae(x:Str):Option Int:=if x.length<cap then some (x.length:Int) else none
theorem EY(h:Ex B sl .hp t m):Ex B sl md (rT Ia (xG t bF)) (m.bind Ae):=λc hc F O H σ Q s k=>by
 cases m with
 |none=>cases hc
 |some x =>
  have hc:Ae x=some c:=hc
  unfold Ae at hc
  split at hc
  case isFalse=>cases hc
  rename_i hl
  cases hc
  refine h x rfl F O H σ _ s λv F' H' g r1=>?_
  cases r1
  exact⟨x,rfl,hl,k _ F' H' g rfl⟩
def U6(i j:Str):Bool:=!(Builtin.Str.occurrences j i 0 j.length 1).isEmpty
abbrev XF:R2:=λx y H Q=>∃i j,x=.str i/\y=.str j/\Q (.bl (!(Builtin.Str.occurrences j i 0 j.length 1).isEmpty)) H
theorem KD(h1:Ex B sl .hp ta m1)(h2:Ex B sl .hp tb m2):Ex B sl md (dN XF ta tb) (m1.bind λa=>m2.bind λb=>some (U6 a b)) :=
 tV (f:=λa b=>some (U6 a b)) (λa b c v w H Q e r1 r2 q=>by
  cases e
  cases r1
  cases r2
  exact⟨a,b,rfl,rfl,q⟩) h1 h2
theorem KH{ws:List Str}(hT:∀H,ou K H p (ws.map V.str))(h:Ex B sl .hp t m):Ex B sl md (dN (Hr K false) t (tC (.ref p))) (m.bind λx=>some (decide (x∈ws))):=λc hc F O H σ Q s k=>by
 cases m with
 |none=>cases hc
 |some x =>
  cases(show some (decide (x∈ws))=some c from hc)
  refine h x rfl F O H σ _ s λv F' H' g r1=>?_
  cases r1
  refine⟨p,_,rfl,.inr (hT H'),Fl.flat (K:=K) x,UG (K:=K) ws,?_⟩
  have:=QZ (K:=K) x ws
  simp only[Bool.false_eq_true,if_false]
  rw[show inV (V.str x) (ws.map V.str)=decide (x∈ws) from this]
  exact k _ F' H' g rfl
end
section
variable{P:Program}{w:World}{K:PySem.W.Frag}{mg:Str->Option Value}{base:Heap}{B:Bs}{sl:SL K}{al:Bool}{S β:Type}[Rp K β]
theorem KJ:Sn B sl zT9 L none:=λa ha=>by cases ha
theorem U7{A:Type}{as:A->SL K}{fM:A->Option Unit}(F:bH K x qual st f fd)(S:ao N ps (zK st))(hf:∀a,(as a).all isF=true)(hl:∀a,(as a).length=ps.length)(hb:∀(cdv:Value) (A:Around) (outer:List Env) (s:Shared) (H:Hp) (E:XK),bJ k (A.deeper (PyProof.Rows.envOfC qual (zK st) s.heap.objs.size f cdv)) ->
   ∃t,pI (lF aZ P w K mg base N qual (zK st) f cdv A outer s H E).yh (xX st) t/\∀Fa a,∃L:Unit->SL K,Sn ⟨Fa,H⟩ (as a++replicate (N.length-ps.length) .un) t L (fM a)) :
  aB P w K mg base aZ (k+1) f fd ps (bV K al as fM) :=
 F.ok S (λvs H Q E h=>Xe hl h) λcdv A outer s H vs Q E hr h=>by
  obtain⟨t,p,q⟩:=hb cdv A outer s H E hr
  refine⟨t,p,?_⟩
  obtain⟨a,b,Fa,s,hfa,r,kk⟩:=h
  have e:L2.start N vs=vs.map some++replicate (N.length-ps.length) none:=by
   unfold L2.start
   rw[r.len,hl]
  rw[e]
  obtain⟨L,q⟩:=q Fa a
  exact q b hfa Fa _ _ H ⟨Fa,[],.refl _,⟨s,.refl _,λb o h=>.inl h,λx hx=>(by cases hx),(by simp)⟩,zEh _ (hf a) r⟩ λσ' H' ⟨F',O',g,a'⟩=>kk .non H' a'.1.h0 rfl
def KN(a:Str)(i:Int):Option Str:=if i.natAbs.log2<1920 then some (a++Str.ofString (toString i)) else none
def Nz(a z:Str):Option Str:=if z.length<=1000 then some (a++z) else none
theorem zUr(a:Str)(h:Ex B sl .hp t m):Ex B sl md (W6 a t) (m.bind (KN a)):=λc hc F O H σ Q s k=>by
 cases m with
 |none=>cases hc
 |some i =>
  have hc:KN a i=some c:=hc
  unfold KN at hc
  split at hc
  case isFalse=>cases hc
  rename_i hl
  cases hc
  refine h i rfl F O H σ _ s λv F' H' g r1=>?_
  cases r1
  exact .inl ⟨i,rfl,hl,k _ F' H' g rfl⟩
theorem KQ(a:Str)(h:Ex B sl .hp t m):Ex B sl md (W6 a t) (m.bind (Nz a)):=λc hc F O H σ Q s k=>by
 cases m with
 |none=>cases hc
 |some i =>
  have hc:Nz a i=some c:=hc
  unfold Nz at hc
  split at hc
  case isFalse=>cases hc
  rename_i hl
  cases hc
  refine h i rfl F O H σ _ s λv F' H' g r1=>?_
  cases r1
  exact .inr ⟨i,rfl,hl,k _ F' H' g rfl⟩
theorem Ib:kitOne K (.type "str") (.type "str")=some true:=rfl
theorem zUz:bootBuiltins "str" = some (.type "str"):=by decide +kernel
end
section
variable{β:Type}
abbrev Ie(kvs:List (Key×β))(k:Str):Option β:=gK kvs (Sum.inr k)
def Ri(kvs:List (Key×β))(k:Str)(v:β):Option (List (Key×β)):=if kvs.length<cap then some (pK kvs (Sum.inr k) v) else none
end
section
variable{K:PySem.W.Frag}{α:Type}[Rp K α]
variable{B:Bs}{sl:SL K}{md:Md}{t t2:TE}{F H G:Hp}{O:Own}{σ:St}{u:TS}{al:Bool}
theorem E_{m:Option Str}{m2:Option (Dc α)}(h:Ex B sl .hp t m)(h2:Ex B sl .hp t2 m2):Ex B sl md (JH t t2) (m.bind λk=>m2.bind λd=>some (Ie d.kv k).isSome):=λc hc F O H σ Q s kk=>by
 obtain⟨k,d,e1,e2,e3⟩:=m6 hc
 cases e3
 refine h k e1 F O H σ _ s λv F' H' g r1=>?_
 refine h2 d e2 F' O H' σ _ (s.grow g) λw F2 H2 g2 r2=>?_
 cases r1
 obtain⟨p,ks,rfl,z1,z2⟩:=r2
 refine⟨p,_,rfl,kY.k (k:=Sum.inr k) z1,?_⟩
 have e:(gA ks (Sum.inr k:Key)).isSome=(Ie d.kv k).isSome:=by
  rcases z2.val (k:=Sum.inr k) with⟨q1,q2⟩|⟨a,v,q1,q2,_⟩
  ·show _=(gK d.kv (Sum.inr k)).isSome;rw[q1,q2];rfl
  ·show _=(gK d.kv (Sum.inr k)).isSome;rw[q1,q2];rfl
 rw[e]
 exact kk _ F2 H2 (g.trans g2) rfl
theorem zSb{kvs:List (Key×α)}{m:Option α}{mi:Option Str}{te ti:TE}(i:Nat)(hs:sl[i]?=some (.od kvs))(hh:sl.all (λs=>!oF s)=true)(hv:Ex B sl .fz te m)(hi:Ex B sl .hp ti mi) :
  Sn B sl (yx (dh i) ti te) (λys=>sl.set i (.od ys)) (m.bind λa=>mi.bind λk=>Ri kvs k a):=λys ha G D σ H s k=>by
 obtain⟨a,ix,e1,e2,e3⟩:=m6 ha
 unfold Ri at e3
 split at e3
 case isFalse=>cases e3
 rename_i hl
 cases e3
 obtain⟨F,O,g,z⟩:=s
 refine hv a e1 F O H σ _ z λv F' H' gr r=>?_
 obtain⟨p,ks,h1,h2,h3,_⟩:=(z.grow gr).Dw hs hh
 refine⟨_,h1,?_⟩
 refine hi ix e2 F' O H' σ _ (z.grow gr) λw F2 H2 sy rw=>?_
 cases rw
 obtain⟨p',ks',h1',h2',h3',h4'⟩:=((z.grow gr).grow sy).Dw hs hh
 have e:=h1.symm.trans h1'
 cases e
 obtain⟨O',z'⟩:=h4' (putK ks' (Sum.inr ix) v) (pK kvs (Sum.inr ix) a) (h3'.put (Rp.mono sy.ff r))
 exact⟨p,_,rfl,tH.k (k:=Sum.inr ix) h2' (Hw (by rw[h3'.len];exact hl)),k _ _ ⟨F2,O',(g.trans gr.ff).trans sy.ff,z'⟩⟩
end
abbrev LLI:=List LI
abbrev Cd:=List (Str×LI)
structure gB(p:Addr) where
 u:Unit
def U8(C:Addr)(fS:LLI->Option Unit)(fM:Cd->Int->Option Unit)(fF:LLI->Int->Option Unit)(fC fO:LLI->Option LLI)(xss:LLI)(mo:Option Cd)(fo:Option LLI):Option (aD C) :=
 (fS xss).bind λ_=>(fM (mo.getD []) (xss.length:Int)).bind λ_=>(fF (fo.getD []) (xss.length:Int)).bind λ_=>(fC xss).bind λa=>(yU (λ_=>some true) (λx:Str×LI=>some (x.1,x.2)) (mo.getD [])).bind λb =>
  (fC (fo.getD [])).bind λc=>(fO a).bind λd=>some ⟨a,b,c,d⟩
theorem Ce{α β:Type}{m:Option α}{f:α->Option β}{b:β}(h:m.bind f=some b):∃a,m=some a/\f a=some b:=by
 cases m with
 |none=>cases h
 |some a=>exact⟨a,rfl,h⟩
section
variable{K:PySem.W.Frag}{C:Addr}{B:Bs}{sl:SL K}{F H:Hp}{O:Own}{σ:St}
instance:Rp K (gB p):=⟨λ_ v _=>v=.ref p,λ_ h=>h⟩
def Rj(K:PySem.W.Frag)(C:Addr)(mk:LLI->Option Cd->Option LLI->Option (aD C)):Sp:=λvs H Q _=>∃(p dx:Addr)(vS vM vF:V)(xss:LLI)(mo:Option Cd)(fo:Option LLI)(M:aD C),vs=[.ref p,vS,vM,vF]/\H p=some (.ins C dx []) /\
 rp K (hid H p) vS xss/\rp K (hid H p) vM mo/\rp K (hid H p) vF fo/\mk xss mo fo=some M/\∀H':Hp,(∀b o,b≠p->H b=some o->H' b=some o)->rp K (dif H' (hid H p)) (.ref p) M->Q .non H'
variable{mk:LLI->Option Cd->Option LLI->Option (aD C)}
theorem zR7{H1:Hp}{x dx:Addr}(nx:H1 x=none)(ndx:H1 dx=none){vS vM vF:V}{xss:LLI}{mo:Option Cd}{fo:Option LLI}{c:aD C}(rS:rp K H1 vS xss)(rM:rp K H1 vM mo)(rF:rp K H1 vF fo)(hc:mk xss mo fo=some c){Q:VK}{E:XK}(k:∀H2:Hp,Same H1 H2->rp K (dif H2 H1) (.ref x) c->Q (.ref x) H2):Rj K C mk [.ref x,vS,vM,vF] (upd (upd H1 dx (.own x)) x (.ins C dx [])) (λv H2=>v=.non/\Q (.ref x) H2) E:=by
 have sG:Same H1 (upd (upd H1 dx (.own x)) x (.ins C dx [])):=λb o e=>by rw[zP (zV e nx),zP (zV e ndx)];exact e
 have sh:Same H1 (hid (upd (upd H1 dx (.own x)) x (.ins C dx [])) x):=λb o e=>by
  unfold hid
  rw[if_neg (zV e nx)]
  exact sG b o e
 refine⟨x,dx,vS,vM,vF,xss,mo,fo,c,rfl,zW,Rp.mono sh rS,Rp.mono sh rM,Rp.mono sh rF,hc,λH2 kp r2=>⟨rfl,?_⟩⟩
 refine k H2 (λb o e=>kp b o (zV e nx) (sG b o e)) (Rp.mono (λb o e=>?_) r2)
 have hb:H1 b=none:=by
  cases q:H1 b with
  |none=>rfl
  |some u =>
   have:hid (upd (upd H1 dx (.own x)) x (.ins C dx [])) x b=some u:=sh b u q
   unfold dif at e
   rw[this] at e
   cases e
 rw[uO hb]
 exact aP _ _ e
theorem zQx(h1:Ex B sl .hp t1 m1)(h2:Ex B sl .hp t2 m2)(h3:Ex B sl .hp t3 m3) :
  En B sl (Ho C (Rj K C mk) [] E0 (xG t1 (xG t2 (xG t3 bF)))) (m1.bind λa=>m2.bind λb=>m3.bind λc=>mk a (some b) (some c)):=λc hc F O H σ Q s kk=>by
 obtain⟨a,rfl,hc⟩:=Ce (m:=m1) hc
 obtain⟨b,rfl,hc⟩:=Ce (m:=m2) hc
 obtain⟨d,rfl,hc⟩:=Ce (m:=m3) hc
 refine h1 a rfl F O H σ _ s λv1 F1 H1 g1 r1=>?_
 refine h2 b rfl F1 O H1 σ _ (s.grow g1) λv2 F2 H2 g2 r2=>?_
 refine h3 d rfl F2 O H2 σ _ ((s.grow g1).grow g2) λv3 F3 H3 g3 r3=>?_
 intro x dx nx ndx nex
 have r2':rp K H2 v2 b:=r2
 have r3':rp K H3 v3 d:=r3
 exact zR7 nx ndx (Rp.mono (g2.hh.trans g3.hh) r1) (show rp K H3 v2 (some b) from⟨Nn.nn (K:=K) r2',Rp.mono g3.hh r2⟩) (show rp K H3 v3 (some d) from⟨Nn.nn (K:=K) r3',r3⟩) hc λH4 s4 r4=>kk _ F3 H3 H4 (g1.trans (g2.trans g3)) s4 r4
theorem KR(h:b≠p):hid H p b=H b:=by unfold hid;rw[if_neg h]
theorem NK:hid H p p=none:=by unfold hid;rw[if_pos rfl]
theorem Rk:Same (hid H p) H:=λb o e=>by
 by_cases q:b=p
 ·subst q;rw[NK] at e;cases e
 ·rw[KR q] at e;exact e
theorem NP(s:Same H H'):Same (hid H p) (hid H' p):=λb o e=>by
 by_cases q:b=p
 ·subst q;rw[NK] at e;cases e
 ·rw[KR q] at e ⊢;exact s b o e
theorem Ig:hid (upd H p o) p=hid H p:=by
 funext b
 by_cases q:b=p
 ·subst q;rw[NK,NK]
 ·rw[KR q,KR q,zP q]
theorem U9(kp:∀b o,b≠p->H b=some o->Hi b=some o)(hp:Hi p≠none):Same (dif H' Hi) (dif (hid H' p) (hid H p)):=λb o e=>by
 have hb:Hi b=none:=by
  cases q:Hi b with
  |none=>rfl
  |some u=>unfold dif at e;rw[q] at e;cases e
 have nb:b≠p:=λq=>hp (by rw[<-q];exact hb)
 rw[uO hb] at e
 have h0:hid H p b=none:=by
  rw[KR nb]
  cases q:H b with
  |none=>rfl
  |some u=>rw[kp b u nb q] at hb;cases hb
 rw[uO h0,KR nb]
 exact e
theorem zU2(hs:ak (K:=K) ⟨hid Hi p,Hi⟩ (hid Hi p) (lo (hid Hi p) [] Hi) Hi sl σ []):At (K:=K) ⟨hid Hi p,Hi⟩ sl (hid Hi p) [] Hi σ :=
 ⟨⟨Rk,.refl _,λb o h=>.inl h,λx hx=>(by cases hx),by simp⟩,hs⟩
end
end Ts
namespace lM
open PySem
def Rz(xs:Array Nat):Prop:=∀i k a b:Nat,i<k->xs[i]?=some a->xs[k]?=some b->a<b
theorem XH(hr:Rz xs):∀(fuel lo hi:Nat),hi-lo<=fuel->lo<=hi->hi<=xs.size->(∀i a,i<lo->xs[i]?=some a->a<j)->(∀i a,hi<=i->xs[i]?=some a->j<=a) ->
  (below.go xs j fuel lo hi)<=xs.size/\(∀i a,i<below.go xs j fuel lo hi->xs[i]?=some a->a<j)/\(∀i a,below.go xs j fuel lo hi<=i->xs[i]?=some a->j<=a)
 |0,lo,hi,hf,hl,hz,h1,h2=>by
  have e:lo=hi:=by omega
  subst e
  unfold below.go
  exact⟨hz,h1,h2⟩
 |fuel+1,lo,hi,hf,hl,hz,h1,h2=>by
  unfold below.go
  by_cases hlt:lo<hi
  ·rw[if_pos hlt]
   have hm:(lo+hi)/2<hi:=by omega
   have hm0:lo<=(lo+hi)/2:=by omega
   have hms:(lo+hi)/2<xs.size:=by omega
   have e:xs.getD ((lo+hi)/2) j=xs[(lo+hi)/2]:=by simp[Array.getD,hms]
   dsimp only
   rw[e]
   by_cases hc:xs[(lo+hi)/2]<j
   ·rw[if_pos hc]
    refine XH hr fuel _ hi (by omega) (by omega) hz (λi a hi' ha=>?_) h2
    by_cases hi2:i=(lo+hi)/2
    ·subst hi2
     rw[Array.getElem?_eq_getElem hms] at ha
     cases ha
     exact hc
    ·exact Nat.lt_trans (hr i ((lo+hi)/2) a _ (by omega) ha (Array.getElem?_eq_getElem hms)) hc
   ·rw[if_neg hc]
    refine XH hr fuel lo _ (by omega) (by omega) (by omega) h1 (λi a hi' ha=>?_)
    by_cases hi2:i=(lo+hi)/2
    ·subst hi2
     rw[Array.getElem?_eq_getElem hms] at ha
     cases ha
     omega
    ·have:=hr ((lo+hi)/2) i _ a (by omega) (Array.getElem?_eq_getElem hms) ha
     omega
  ·rw[if_neg hlt]
   have e:lo=hi:=by omega
   subst e
   exact⟨hz,h1,h2⟩
theorem XJ(hr:Rz xs)(j:Nat):below xs j<=xs.size/\(∀i a,i<below xs j->xs[i]?=some a->a<j)/\(∀i a,below xs j<=i->xs[i]?=some a->j<=a) :=
 XH hr xs.size 0 xs.size (by omega) (Nat.zero_le _) (Nat.le_refl _) (λi a h=>absurd h (Nat.not_lt_zero _)) (λi a h1 h2=>by
  rw[Array.getElem?_eq_none h1] at h2
  cases h2)
theorem KY{α:Type}(xs:Array α)(p:Nat)(x:α)(hp:p<=xs.size)(i:Nat):(insertAt xs p x)[i]?=if i<p then xs[i]? else if i=p then some x else xs[i-1]?:=by
 have e:insertAt xs p x=(xs.toList.take p++x::xs.toList.drop p).toArray:=by
  unfold insertAt
  apply Array.ext'
  simp
  rw[List.take_of_length_le (by rw[length_drop,length_toList];exact Nat.le_refl _)]
 rw[e,getElem?_toArray]
 have hl:p<=xs.toList.length:=by simpa using hp
 by_cases h1:i<p
 ·rw[if_pos h1,getElem?_append_left (by rw[length_take];omega),getElem?_take_of_lt h1,getElem?_toList]
 ·rw[if_neg h1,getElem?_append_right (by rw[length_take];omega),length_take,Nat.min_eq_left hl]
  by_cases h2:i=p
  ·subst h2;simp
  ·rw[if_neg h2]
   obtain⟨k,rfl⟩:∃k,i=p+1+k:=⟨i-(p+1),by omega⟩
   rw[show p+1+k-p=k+1 by omega,List.getElem?_cons_succ,List.getElem?_drop,getElem?_toList]
   congr 1
   omega
theorem KZ(hr:Rz xs)(hn:xs[below xs j]?≠some j):Rz (insertAt xs (below xs j) j):=by
 obtain⟨b1,b2,b3⟩:=XJ hr j
 intro i k a b hik ha hb
 rw[KY _ _ _ b1] at ha hb
 generalize below xs j=p at *
 have up:∀m c,p<=m->xs[m]?=some c->j<c:=λm c hm hc=>by
  have h1:=b3 m c hm hc
  by_cases e:m=p
  ·subst e
   have:c≠j:=λz=>hn (by rw[hc,z])
   omega
  ·have hp:p<xs.size:=by
    have:m<xs.size:=by
     by_cases z:m<xs.size
     ·exact z
     ·rw[Array.getElem?_eq_none (by omega)] at hc;cases hc
    omega
   have h2:=hr p m _ c (by omega) (Array.getElem?_eq_getElem hp) hc
   have h3:=b3 p _ (Nat.le_refl _) (Array.getElem?_eq_getElem hp)
   omega
 by_cases i1:i<p
 ·rw[if_pos i1] at ha
  have ja:=b2 i a i1 ha
  by_cases k1:k<p
  ·rw[if_pos k1] at hb;exact hr i k a b hik ha hb
  ·rw[if_neg k1] at hb
   by_cases k2:k=p
   ·rw[if_pos k2] at hb;cases hb;exact ja
   ·rw[if_neg k2] at hb
    exact Nat.lt_trans ja (up (k-1) b (by omega) hb)
 ·rw[if_neg i1] at ha
  have k1:¬k<p:=by omega
  have k2:¬k=p:=by omega
  rw[if_neg k1,if_neg k2] at hb
  by_cases i2:i=p
  ·rw[if_pos i2] at ha;cases ha;exact up (k-1) b (by omega) hb
  ·rw[if_neg i2] at ha
   exact hr (i-1) (k-1) a b (by omega) ha hb
def Free(t:SetTable)(j:Nat):Prop:=t.place[below t.place j]?≠some j
theorem zIo{t:SetTable}(h:∀i,t.slot j≠.live i):Free t j:=λe=>by
 refine h (below t.place j) ?_
 unfold SetTable.slot
 simp[e]
theorem XM:∀(fuel:Nat)(p:SetTable.Probe)(j:Nat)(d:Option Nat),(∀d,p.dummy=some d->Free t d)->probe.go t f h fuel p=some (.empty j d)->Free t j/\∀e,d=some e->Free t e
 |0,p,j,d,hd,e=>by unfold probe.go at e;cases e
 |fuel+1,p,j,d,hd,e=>by
  have adv:∀q:SetTable.Probe,(t.advance q).dummy=q.dummy:=λq=>by
   unfold SetTable.advance
   split
   ·rfl
   ·rfl
  unfold probe.go at e
  cases hs:t.slot p.j with
  |empty =>
   rw[hs] at e
   cases e
   exact⟨zIo (λi z=>by rw[hs] at z;cases z),hd⟩
  |dummy =>
   rw[hs] at e
   refine XM fuel _ j d (λd' h'=>?_) e
   rw[adv] at h'
   cases h'
   exact zIo λi z=>by rw[hs] at z;cases z
  |live i =>
   rw[hs] at e
   dsimp only at e
   split at e
   ·cases e
   ·exact XM fuel _ j d (λd' h'=>hd d' (by rw[adv] at h';exact h')) e
theorem zH0{t:SetTable}(e:t.freeSlot h=some (j,b)):Free t j:=by
 unfold SetTable.freeSlot at e
 split at e
 ·rename_i j' d hp
  cases e
  have q:=XM (t:=t) _ _ j' d (λd h'=>by cases h') hp
  cases d with
  |none=>exact q.1
  |some d=>exact q.2 d rfl
 ·cases e
structure Tb(led:Bool)(t:SetTable):Prop where
 led:t.led=led
 rz:t.plain=true->Rz t.place
theorem U_(h:Tb led t)(n:Nat):Tb led (t.standIn n):=⟨h.led,λz=>by cases z⟩
theorem Rm(h:Tb led t)(n:Nat):Tb led (t.orStandIn n):=by
 unfold SetTable.orStandIn
 split
 ·exact h
 ·exact U_ h n
theorem K1(hb:Tb led t)(es:Array (Int×Value))(h:Int)(x:Value):Tb led (layNew t es h x).2.1:=by
 unfold layNew
 cases e:t.freeSlot h with
 |none=>exact U_ hb _
 |some q =>
  obtain⟨j,b⟩:=q
  dsimp only
  refine Rm (t:=(t.put j).1) ⟨hb.led,λz=>?_⟩ _
  exact KZ (hb.rz z) (zH0 e)
theorem zOu(f:Nat->Option Nat)(n:Nat):Rz (((List.range n).filterMap λj=>(f j).map (j,·)).map (·.1)).toArray:=by
 have hp:(((List.range n).filterMap λj=>(f j).map (j,·)).map (·.1)).Pairwise (· < ·):=by
  rw[List.pairwise_map]
  refine Pairwise.filterMap _ ?_ (List.pairwise_lt_range (n:=n))
  intro a b hab x hx y hy
  cases ea:f a with
  |none=>rw[ea] at hx;cases hx
  |some u =>
   cases eb:f b with
   |none=>rw[eb] at hy;cases hy
   |some v =>
    rw[ea] at hx
    rw[eb] at hy
    cases hx
    cases hy
    exact hab
 intro i k a b hik ha hb
 rw[getElem?_toArray] at ha hb
 obtain⟨h1,e1⟩:=List.getElem?_eq_some_iff.mp ha
 obtain⟨h2,e2⟩:=List.getElem?_eq_some_iff.mp hb
 rw[<-e1,<-e2]
 exact List.pairwise_iff_getElem.mp hp i k h1 h2 hik
theorem zR1(hb:Tb led t)(es:Array (Int×Value))(n:Nat):Tb led (relayAll t es n).2.1:=by
 unfold relayAll
 cases e:t.relaid (es.map (·.1)) n with
 |none=>exact U_ hb _
 |some q =>
  obtain⟨t',order⟩:=q
  dsimp only
  split
  ·unfold SetTable.relaid SetTable.laid at e
   cases e2:SetTable.layClean (SetTable.sizeAbove n-1) (es.map (·.1)) with
   |none=>rw[e2] at e;cases e
   |some owner =>
    rw[e2] at e
    cases e
    exact⟨hb.led,λ_=>zOu _ _⟩
  ·exact U_ hb _
theorem zR2(led:Bool):Tb led (.fresh 0 0 led):=⟨rfl,λ_=>λi k a b _ h _=>by
 have:(#[]:Array Nat)[i]?=some a:=h
 simp at this⟩
section
variable{prog:Program}{w:World}{κ:Type}[DecidableEq κ](knd:KeyKind prog w κ)(dec:Value->κ)
def Good(led:Bool)(h:Heap)(a:Addr)(ks:List κ):Prop :=
 ∃o es ep t,h.get? a=some o/\o.ExactSet/\o.data=.set es ep t/\ElemsOf knd es.toList/\(es.toList.map λe=>dec e.2).Perm ks/\ks.Nodup/\es.size<scanBound/\t.fits es.size=true/\Tb led t
variable{knd}{dec}{led:Bool}{A:Around}{E:Value->Shared->Prop}{s:Shared}
theorem Good.len(g:Good knd dec led h a ks):ks.length<scanBound:=by
 obtain⟨o,es,ep,t,_,_,_,_,p,_,hb,_⟩:=g
 rw[<-p.length_eq,length_map,length_toList]
 exact hb
theorem Good.keep{h':Heap}(g:Good knd dec led h a ks)(k:∀o,h.get? a=some o->h'.get? a=some o):Good knd dec led h' a ks:=by
 obtain⟨o,es,ep,t,h1,rest⟩:=g
 exact⟨o,es,ep,t,k _ h1,rest⟩
theorem zQl(hdec:∀k v,knd.is k v=true->dec v=k)(hel:ElemsOf knd es)(k:κ):es.findIdx? (λe=>knd.is k e.2)=none↔k∉es.map λe=>dec e.2:=by
 rw[List.findIdx?_eq_none_iff]
 constructor
 ·intro h hm
  obtain⟨e,he,rfl⟩:=mem_map.mp hm
  obtain⟨⟨k',hk,_⟩,_⟩:=hel e he
  have:=h e he
  rw[hdec k' _ hk,hk] at this
  cases this
 ·intro h e he
  cases q:knd.is k e.2 with
  |false=>rfl
  |true=>exact absurd (mem_map.mpr ⟨e,he,hdec _ _ q⟩) h
theorem XQ{h:Heap}(ho:h.get? a=some o)(hd:o.data=.set es ep t):(h.update a (Obj.putSet es' t')).get? a=some { o with data:=.set es' (ep+1) t' }:=by
 have q:=get?_update_self (Obj.putSet es' t') ho (by rw[putSet_of es' t' hd];rfl)
 rw[putSet_of es' t' hd] at q
 exact q
theorem XR{Q:Unit->Shared->Prop}(h:Q () s1):wpAny (model prog w) A (match b with|true=>rule "set.scan.the-table-gave-way" | false=>pure ()) Q E s1:=by
 cases b
 ·exact wpAny_pure h
 ·exact wpAny_rule h
theorem zMh{g:Bool->Sem Unit}(hg:∀(b:Bool) (s₁:Shared) (Q':Unit->Shared->Prop),Q' () s₁->wpAny (model prog w) A (g b) Q' E s₁){es1:Array (Int×Value)}{t2:SetTable}{R:Option Bool->Shared->Prop}(ho:s.heap.get? a=some o)(hx:o.ExactSet)(hd:o.data=.set es ep t)(hel:ElemsOf knd es1.toList)(hp:(es1.toList.map λe=>dec e.2).Perm ks)(nd:ks.Nodup)(hb:es1.size<scanBound)(hf:t2.fits es1.size=true)(tb:Tb led t2)(h:∀h',SameBut a s.heap h'->Good knd dec led h' a ks->R (some true) { s with heap:=h' }) :
  wpAny (model prog w) A (storeSet a es1 t2 >>= λ_=>if(!Rn&&t2.tooFull)=true then(g (relayAll t2 es1 (grown es1.size)).2.2 >>= λ_=>storeSet a (relayAll t2 es1 (grown es1.size)).1 (relayAll t2 es1 (grown es1.size)).2.1 >>= λ_=>pure (some true)) else pure (some true)) R E s:=by
 refine wpAny_bind (wpAny_storeSet_of ho hd ?_ (fits_of_scanBound hb))
 have o1:=XQ (es':=es1) (t':=t2) ho hd
 have sb:=SameBut.update s.heap a (Obj.putSet es1 t2)
 split
 ·have rp:=relayAll_perm t2 es1 (grown es1.size)
  have rf:=relayAll_fits t2 es1 (grown es1.size)
  have rt:=zR1 tb es1 (grown es1.size)
  generalize relayAll t2 es1 (grown es1.size)=L at rp rf rt ⊢
  obtain⟨es2,t3,gv⟩:=L
  dsimp only at rp rf rt ⊢
  have sz:es2.size=es1.size:=by rw[<-length_toList,rp.length_eq,length_toList]
  refine wpAny_bind (hg _ _ _ (wpAny_bind (wpAny_storeSet_of o1 rfl (wpAny_pure (h _ (sb.trans (SameBut.update _ a _)) ⟨_,es2,_,t3,XQ (es':=es2) (t':=t3) o1 rfl,hx,rfl,hel.perm rp,(rp.map _).trans hp,nd,by rw[sz];exact hb,rf,rt⟩)) (fits_of_scanBound (by rw[sz];exact hb)))))
 ·exact wpAny_pure (h _ sb ⟨_,es1,_,t2,o1,hx,rfl,hel,hp,nd,hb,hf,tb⟩)
theorem K3(h:Tb led t):Tb led { t with plain:=false }:=⟨h.led,λz=>by cases z⟩
theorem zU5(hdec:∀k v,knd.is k v=true->dec v=k){Q:Bool->Shared->Prop}(hk:knd.is k x=true)(hs:x.scannable=true)(g:Good knd dec led s.heap a ks)(room:ks.length+1<scanBound)(h:∀(h':Heap) (b:Bool),SameBut a s.heap h'->Good knd dec led h' a (if k∈ks then ks else k::ks)->Q b { s with heap:=h' }) :
  wpAny (model prog w) A (setAddHashed a x (knd.hash k)) Q E s:=by
 obtain⟨o,es,ep,t,ho,hx,hd,hel,hp,nd,hb,hf,tb⟩:=g
 have n:es.size=ks.length:=by rw[<-hp.length_eq,length_map,length_toList]
 unfold setAddHashed setAddHashedIn
 refine wpAny_holding (wpAny_bind (wpAny_setState_of ho hd hf ?_))
 dsimp only
 rw[byScan_of hs hb hel]
 simp only[↓reduceIte]
 unfold setAddByScan
 refine wpAny_bind (wpAny_bind (wpAny_rule (wpAny_bind (wpAny_setScan_of hk ho hd hf hel ?_))))
 have fi:=zQl hdec hel k
 cases hr:List.findIdx? (λe=>knd.is k e.2) es.toList with
 |some j =>
  have hm:k∈ks:=by
   refine hp.mem_iff.mp (Classical.byContradiction λz=>?_)
   rw[fi.mpr z] at hr
   cases hr
  dsimp only
  refine wpAny_pure (wpAny_pure ?_)
  have q:=h s.heap false (SameBut.refl a s.heap)
  rw[if_pos hm] at q
  exact q ⟨o,es,ep,t,ho,hx,hd,hel,hp,nd,hb,hf,tb⟩
 |none =>
  have hm:k∉ks:=λz=>fi.mp hr (hp.mem_iff.mpr z)
  dsimp only
  have lp:=layNew_perm t es (knd.hash k) x
  have lf:=layNew_fits t es (knd.hash k) x
  have lt:=K1 tb es (knd.hash k) x
  generalize layNew t es (knd.hash k) x=L at lp lf lt ⊢
  obtain⟨es1,t1,Rn,gave⟩:=L
  dsimp only at lp lf lt ⊢
  rw[Array.toList_push] at lp
  have sz:es1.size=es.size+1:=by rw[<-length_toList,lp.length_eq,length_append,length_toList];rfl
  have hp1:(es1.toList.map λe=>dec e.2).Perm (k::ks):=by
   refine(lp.map _).trans ?_
   rw[map_append]
   show(_++[dec x]).Perm _
   rw[hdec k x hk]
   exact Perm.trans (l₂:=k::es.toList.map λ(e:Int×Value)=>dec e.2) List.perm_append_comm (hp.cons k)
  have fin:∀h',SameBut a s.heap h'->Good knd dec led h' a (k::ks)->Q true { s with heap:=h' }:=λh' sb g'=>by
   have q:=h h' true sb
   rw[if_neg hm] at q
   exact q g'
  have Va:(k::ks).Nodup:=nodup_cons.mpr ⟨hm,nd⟩
  refine wpAny_bind (XR ?_)
  split
  ·refine wpAny_bind ?_
   rw[hashByValue_scannable 8 hs]
   refine wpAny_pure ?_
   refine zMh (led:=led) (Rn:=Rn) (λb s₁ Q' hq=>XR hq) ho hx hd ((hel.push hk hs).perm lp) hp1 Va (by rw[sz,n];exact room) ?_ ?_ λh' sb g'=>?_
   ·split
    ·exact lf
    ·exact SetTable.fits_plain_off lf
   ·split
    ·exact lt
    ·exact K3 lt
   ·exact wpAny_pure (fin h' sb g')
  ·refine wpAny_bind (wpAny_pure ?_)
   simp only[↓reduceIte]
   refine zMh (led:=led) (Rn:=Rn) (λb s₁ Q' hq=>XR hq) ho hx hd ((hel.push hk hs).perm lp) hp1 Va (by rw[sz,n];exact room) lf lt λh' sb g'=>?_
   exact wpAny_pure (fin h' sb g')
end
open PySem PySem.Spec PyProof.Rows
section
variable{κ:Type}[DecidableEq κ]
def met(val:Nat->κ):Nat->List κ
 |0=>[]
 |i+1=>if val i∈met val i then met val i else val i::met val i
theorem zPv(val:Nat->κ):∀i,(met val i).length<=i
 |0=>Nat.le_refl _
 |i+1=>by
  have ih:=zPv val i
  unfold met
  split
  ·omega
  ·rw[length_cons];omega
theorem zPw(val:Nat->κ)(k:κ):∀i,k∈met val i↔∃j,j<i/\val j=k
 |0=>by simp[met]
 |i+1=>by
  have ih:=zPw val k i
  have lt:(∃j,j<i+1/\val j=k)↔(∃j,j<i/\val j=k)\/val i=k:=by
   constructor
   ·rintro⟨j,hj,e⟩
    by_cases q:j=i
    ·subst q;exact .inr e
    ·exact .inl ⟨j,by omega,e⟩
   ·rintro(⟨j,hj,e⟩|e)
    ·exact⟨j,by omega,e⟩
    ·exact⟨i,by omega,e⟩
  rw[lt,<-ih]
  show k∈(if val i∈met val i then met val i else val i::met val i)↔_
  split
  ·rename_i hm
   exact⟨.inl,λh=>h.elim id λe=>e▸hm⟩
  ·rw[mem_cons]
   exact⟨λh=>h.elim (λe=>.inr e.symm) .inl,λh=>h.elim .inr λe=>.inl e.symm⟩
variable{prog:Program}{w:World}{knd:KeyKind prog w κ}{dec:Value->κ}{led:Bool}{A:Around}{R:Result->Shared->Prop}{I:Addr}{fp wr:List Addr}{G:Array GenState->Array GenState->Prop}{n:Nat}{P:Nat->Value->Prop}{St:Nat->Shared->Prop}
theorem Fb(hdec:∀k v,knd.is k v=true->dec v=k)(W:WalksS prog w A.in1 I fp wr G n P St)(S:Addr)(off:S∉fp)(val:Nat->κ)(hval:∀i v,P i v->knd.is (val i) v=true/\v.scannable=true)(hb:n+1<scanBound) :
  ∀(k i:Nat)(s:Shared),n-i=k->i<=n->St i s->Good knd dec led s.heap S (met val i)->(∀s',Moved (S::wr) G s s'->Good knd dec led s'.heap S (met val n)->R (.ok (.ret .none)) s')->codeAny (model prog w) A (.builtin "set.update.loop" ⟨[.ref S,.ref I],[]⟩) R s:=by
 have Ro:S∉wr:=λh=>off (W.sub _ h)
 have sub:∀b∈wr,b∈S::wr:=λb hb=>mem_cons_of_mem _ hb
 intro k
 induction k with
 |zero =>
  intro i s hk hi st g fin
  have e:i=n:=by omega
  subst e
  refine codeAny_builtin F.entry_set_update_loop ?_
  rw[Around.under_plainId F.plain_set_update_loop _]
  refine wpAny_bind (m:=pyNext (.ref I)) (W.done s _ _ st λs' hm=>?_)
  exact wpAny_pure (fin s' (hm.mono sub) (g.keep λo h=>hm.heap S o Ro h))
 |succ k ih =>
  intro i s hk hi st g fin
  have lt:i<n:=by omega
  refine codeAny_builtin F.entry_set_update_loop ?_
  rw[Around.under_plainId F.plain_set_update_loop _]
  refine wpAny_bind (m:=pyNext (.ref I)) (W.item i s _ _ lt st λv s' hP st' hm=>?_)
  obtain⟨his,hsc⟩:=hval i v hP
  refine wpAny_bind (m:=holding [v] (setAdd S v)) (wpAny_holding ?_)
  unfold setAdd
  refine wpAny_holding (wpAny_bind (knd.pyHash (k:=val i) his ?_))
  refine zU5 (led:=led) (s:={ s' with toks:=s'.toks+1 }) hdec his hsc (g.keep λo h=>hm.heap S o Ro h) (by have:=zPv val i;omega) λh' b sb g'=>?_
  refine wpAny_pure ⟨plainId_quiet F.plain_set_update_loop _,ih (i+1) _ (by omega) lt (W.frame _ s' _ _ st' (Nat.le_succ _) λb hb o e=>?_) g' λs'' hm'' g''=>?_⟩
  ·rw[sb.2 b (λh:b=S=>off (by rw[<-h];exact hb))];exact e
  ·refine fin s'' (Moved.trans W.gtrans ((hm.mono sub).then_heap (Nat.le_succ _) λb o hb e=>?_) hm'') g''
   rw[sb.2 b (λh:b=S=>hb (h▸mem_cons_self))];exact e
end
section
variable{prog:Program}{w:World}{A:Around}{E:Value->Shared->Prop}{s:Shared}
def yZ(w:World):Bool:=!w.params.followText "set-order"
theorem zS5(a:Value){Q₁:Value->Shared->Prop}(h:Q₁ (.ref s.heap.objs.size) { s with heap:=s.heap.push { cls:=.type "set",dict:=none,data:=.set #[] 0 (.fresh 0 0 (yZ w)) } }) :
  codeAny (model prog w) A (.call (.builtin "set.__new__") ⟨[.type "set",a],[]⟩) (wants Q₁ E) s:=by
 refine codeAny_of_tree (wpAny_bind (m:=checkBuiltinCall "set.__new__" ⟨[.type "set",a],[]⟩) (wpAny_of_eq (F.newCall_set_1 a) (wpAny_pure ⟨plainId_quiet F.plain_set_new _,codeAny_builtin F.entry_set_new ?_⟩)))
 rw[Around.under_plainId F.plain_set_new _]
 unfold Builtin.«set.__new__» Builtin.Frozenset.newClass
 have sub:=sub_set_self
 obtain⟨hp,g,d,tk,os⟩:=s
 dsimp only
 wp_walk
 refine wpAny_askSetting (wpAny_pure ?_)
 dsimp only
 simp only[newObj]
 exact wpAny_bind (wpAny_alloc (wpAny_pure (wpAny_pure h)))
theorem zL3{κ:Type}[DecidableEq κ]{knd:KeyKind prog w κ}{dec:Value->κ}{h:Heap}(e:h.get? a=some { cls:=.type "set",dict:=none,data:=.set #[] 0 (.fresh 0 0 led) }):Good knd dec led h a [] :=
 ⟨_,#[],0,.fresh 0 0 led,e,⟨rfl,rfl,rfl⟩,rfl,λx hx=>by simp at hx,by simp,nodup_nil,by show 0<4096;decide,by cases led<;>rfl,zR2 led⟩
set_option maxHeartbeats 4000000 in
theorem zTu{κ:Type}[DecidableEq κ]{knd:KeyKind prog w κ}{dec:Value->κ}(hdec:∀k v,knd.is k v=true->dec v=k){Q:Value->Shared->Prop}(val:Nat->κ)(hh:A.handled=none)(hl:s.heap.IsList l items)(hi:∀(i:Nat) (v:Value),items[i]?=some v->knd.is (val i) v=true/\v.scannable=true)(hb:items.size+1<scanBound)(h:∀(h':Heap) (tk:Nat),Good knd dec (yZ w) h' s.heap.objs.size (met val items.size)->(∀b o,b<s.heap.objs.size->s.heap.get? b=some o->h'.get? b=some o)->Q (.ref s.heap.objs.size) { s with heap:=h',toks:=tk }) :
  wpAny (model prog w) A (call (.type "set") [.ref l]) Q E s:=by
 obtain⟨c,tl,hmro⟩:=F.called_set.mro
 have hmade:=F.called_set.made
 have hsub:=F.called_set.sub
 refine wpAny_call (codeAny_of_tree (wpAny_pure ⟨Code.quiet_builtin _ (by decide +kernel),codeAny_builtin F.entry_type_call ?_⟩))
 rw[Around.under_plain (weight_type_call_type "set" [.ref l] []) rfl]
 have h1:=F.called_set.notType
 have h2:=F.called_set.canCreate
 have hct:=F.typeCall_set_1 (.ref l)
 repeat(any_goals (first|assumption|wp_step))
 refine codeAny_mono (zS5 (.ref l) (E:=E) (Q₁:=λobj s₁=>obj=.ref s.heap.objs.size/\s₁={ s with heap:=s.heap.push { cls:=.type "set",dict:=none,data:=.set #[] 0 (.fresh 0 0 (yZ w)) } }) ⟨rfl,rfl⟩) λr s₁ hr=>?_
 cases r with
 |error e=>exact hr
 |ok fl =>
  cases fl with
  |ret obj =>
   obtain⟨rfl,rfl⟩:=hr
   have hS:(s.heap.push { cls:=.type "set",dict:=none,data:=.set #[] 0 (.fresh 0 0 (yZ w)) }).get? s.heap.objs.size=some { cls:=.type "set",dict:=none,data:=.set #[] 0 (.fresh 0 0 (yZ w)) }:=get?_push_size _ rfl
   have hT:Shared.TypeIs { s with heap:=s.heap.push { cls:=.type "set",dict:=none,data:=.set #[] 0 (.fresh 0 0 (yZ w)) } } (.ref s.heap.objs.size) "set":=⟨_,hS,rfl⟩
   have hli:=F.called_set.init.lookup
   have hbi:=F.called_set.init.bind (.ref s.heap.objs.size)
   repeat(any_goals (first|assumption|wp_step))
   refine codeAny_mono (codeAny_call_builtin (R:=wants (λr s₂=>r=.none/\∃h' tk,s₂={ s with heap:=h',toks:=tk }/\Good knd dec (yZ w) h' s.heap.objs.size (met val items.size)/\(∀b o,b<s.heap.objs.size->s.heap.get? b=some o->h'.get? b=some o)) E)
    F.called_set.init.plain F.entry_set_init (check_set_init_1 hT ?_)) λr₂ s₂ hr₂=>?_
   ·obtain⟨ol,hol,hcl,nl,hdl⟩:=hl
    obtain⟨ocls,odict,odata,oslots⟩:=ol
    simp only at hcl hdl
    subst hcl
    subst hdl
    have hol':(s.heap.push { cls:=.type "set",dict:=none,data:=.set #[] 0 (.fresh 0 0 (yZ w)) }).get? l=some { cls:=.type "list",dict:=odict,data:=.seq items nl,slots:=oslots }:=get?_push_of_some _ hol
    have hsls:=F.sub_list_set
    have hslf:=F.sub_list_frozenset
    have hne:(Value.type "list" == Value.type "dict")=false:=by decide
    have hl1:(s.heap.push { cls:=.type "set",dict:=none,data:=.set #[] 0 (.fresh 0 0 (yZ w)) }).IsList l items:=⟨_,hol',rfl,nl,rfl⟩
    unfold Builtin.«set.__init__» noKeywords Builtin.Frozenset.updateFrom
    generalize hPI:pyIter=PI
    wp_walk
    subst hPI
    refine wpAny_pyIter_list hl1 (wpAny_bind (wpAny_runValue ?_))
    have hlS:l<s.heap.objs.size:=lt_size hol
    have sz:(s.heap.push { cls:=.type "set",dict:=none,data:=.set #[] 0 (.fresh 0 0 (yZ w)) }).objs.size=s.heap.objs.size+1:=size_push ..
    have hneI:l≠(s.heap.push { cls:=.type "set",dict:=none,data:=.set #[] 0 (.fresh 0 0 (yZ w)) }).objs.size:=by rw[sz];exact Nat.ne_of_lt (Nat.lt_succ_of_lt hlS)
    refine Fb (led:=yZ w) hdec ((Walks.list (by simp[hh]) _ l hneI items).toS) s.heap.objs.size (by
     rw[sz]
     intro z
     rcases mem_cons.mp z with z|z
     ·exact absurd z (Nat.ne_of_lt (Nat.lt_succ_self _))
     ·exact absurd (mem_singleton.mp z) (Nat.ne_of_gt hlS)) val hi hb (items.size-0) 0 _ (by omega) (Nat.zero_le _) ⟨⟨_,get?_push_size _ rfl,rfl,rfl⟩,hl1.push _⟩ (zL3 (get?_push_of_some _ hS)) λs' hm g'=>?_
    obtain⟨h',g1,d1,tk',os1⟩:=s'
    have eg:g1=s.gens:=hm.gens
    have ed:d1=s.drawn:=hm.drawn
    have eo:os1=s.os:=hm.os
    subst eg ed eo
    refine wpAny_pure ?_
    refine wpAny_pure ⟨rfl,h',tk',rfl,g',λb o hb e=>hm.heap b o (λz=>?_) (get?_push_of_some _ (get?_push_of_some _ e))⟩
    rcases mem_cons.mp z with z|z
    ·exact absurd z (Nat.ne_of_lt hb)
    ·have z:=mem_singleton.mp z
     rw[sz] at z
     exact absurd z (Nat.ne_of_lt (Nat.lt_succ_of_lt hb))
   ·cases r₂ with
    |error e=>exact hr₂
    |ok fl₂ =>
     cases fl₂ with
     |ret r =>
      obtain⟨rfl,h',tk,rfl,hS',hk'⟩:=hr₂
      repeat(any_goals (first|assumption|wp_step))
      exact h _ _ hS' hk'
     |_=>exact hr₂.elim
  |_=>exact hr.elim
end
set_option maxRecDepth 100000
theorem zLj:Manifest.owners.lookup (String.ofList ['r','o','t','a','r','e','t','i','_','t','e','s'].reverse)=some Manifest.sig_set_iterator:=by kernel_rfl
theorem jy:Slot "set_iterator" "__next__" "set_iterator.__next__":=.of (owner:="set_iterator") (n:="__next__") (by rw[typeLookup_type,builtinLookup_eq_fast];kernel_rfl) (by decide +kernel) (by decide +kernel) (by decide +kernel) (by first|exact .inl (by decide +kernel)|exact .inr (by decide +kernel)) (by rw[isSubtype_type];kernel_rfl)
theorem zG9:entryFor table "set_iterator.__next__" = some Builtin.«set_iterator.__next__»:=entryFor_of_tree (by kernel_rfl)
theorem zIs(a:Value):argsOk "set_iterator.__next__" ⟨[a],[]⟩:=by unfold argsOk;rw[signature?_of (id:="set_iterator.__next__") (n:=['_','_','t','x','e','n','_','_']) (o:=['r','o','t','a','r','e','t','i','_','t','e','s']) (by kernel_rfl) zLj];kernel_rfl
theorem zOr:Slot "set_iterator" "__iter__" "set_iterator.__iter__":=.of (owner:="set_iterator") (n:="__iter__") (by rw[typeLookup_type,builtinLookup_eq_fast];kernel_rfl) (by decide +kernel) (by decide +kernel) (by decide +kernel) (by first|exact .inl (by decide +kernel)|exact .inr (by decide +kernel)) (by rw[isSubtype_type];kernel_rfl)
theorem zHa:entryFor table "set_iterator.__iter__" = some Builtin.«dict_keyiterator.__iter__»:=entryFor_alias (id':="dict_keyiterator.__iter__") (by kernel_rfl) rfl (by decide +kernel) (by kernel_rfl)
theorem zIt(a:Value):argsOk "set_iterator.__iter__" ⟨[a],[]⟩:=by unfold argsOk;rw[signature?_of (id:="set_iterator.__iter__") (n:=['_','_','r','e','t','i','_','_']) (o:=['r','o','t','a','r','e','t','i','_','t','e','s']) (by kernel_rfl) zLj];kernel_rfl
theorem zFw:entryFor table "set.__iter__" = some Builtin.«frozenset.__iter__»:=entryFor_alias (id':="frozenset.__iter__") (by kernel_rfl) rfl (by decide +kernel) (by kernel_rfl)
theorem sI:typeLookup (.type "set") "__len__" = pure (some (.builtin "set.__len__")):=by rw[typeLookup_type,builtinLookup_eq_fast];kernel_rfl
set_option maxRecDepth 100000
section
variable{prog:Program}{w:World}{A:Around}{E:Value->Shared->Prop}{s:Shared}
theorem XS{α:Type}:∀{l:List α}{i:Nat}(h:i<l.length),(l[i]::l.eraseIdx i).Perm l
 |x::l,0,h=>.refl _
 |x::l,i+1,h=>by
  have hi:i<l.length:=by simpa using h
  have ih:=XS (l:=l) (i:=i) hi
  show(l[i]::x::l.eraseIdx i).Perm (x::l)
  exact(Perm.swap _ _ _).trans (ih.cons x)
theorem zNt{Q:Nat->Shared->Prop}(hn:0<n)(h:∀i d,i<n->Q i { s with drawn:=d }):wpAny (model prog w) A (choose src n) Q E s :=
 λ_ _ _=>⟨Nat.ne_of_gt hn,h _ _ (Nat.mod_lt _ hn)⟩
theorem zQz{α:Type}:∀(n:Nat)(xs:List α)(s:Shared)(Q:List α->Shared->Prop),xs.length=n->(∀ys d,ys.Perm xs->Q ys { s with drawn:=d })->wpAny (model prog w) A (drawOrder n xs) Q E s
 |0,xs,s,Q,hl,h=>by
  have e:xs=[]:=length_eq_zero_iff.mp hl
  subst e
  unfold drawOrder
  exact wpAny_pure (h [] s.drawn (.refl _))
 |n+1,[],s,Q,hl,h=>by simp at hl
 |n+1,x::xs,s,Q,hl,h=>by
  unfold drawOrder
  refine wpAny_bind (zNt (by rw[hl];omega) λi d hi=>?_)
  have e:(x::xs)[i]?=some (x::xs)[i]:=List.getElem?_eq_getElem hi
  rw[e]
  refine wpAny_bind (zQz n _ _ _ (by rw[List.length_eraseIdx,if_pos hi,hl];rfl) λys d' p=>?_)
  exact wpAny_pure (h _ d' ((p.cons _).trans (XS hi)))
theorem zPa{α:Type}(next:Nat->Nat):∀(fuel k:Nat)(left:List α)(out:Array α),left.length=fuel->(pickOrder.go next fuel k left out).toList.Perm (out.toList++left)
 |0,k,left,out,hl=>by
  have e:left=[]:=length_eq_zero_iff.mp hl
  subst e
  unfold pickOrder.go
  rw[append_nil]
 |fuel+1,k,left,out,hl=>by
  have hi:next k%left.length<left.length:=Nat.mod_lt _ (by omega)
  unfold pickOrder.go
  rw[List.getElem?_eq_getElem hi]
  dsimp only
  refine(zPa next fuel (k+1) _ _ (by rw[List.length_eraseIdx,if_pos hi,hl];rfl)).trans ?_
  rw[Array.toList_push,append_assoc]
  exact Perm.append_left _ (XS hi)
theorem NQ{α:Type}(next:Nat->Nat)(xs:Array α):(pickOrder next xs).toList.Perm xs.toList:=by
 have q:=zPa next xs.size 0 xs.toList #[] (by simp)
 have e:(#[]:Array α).toList++xs.toList=xs.toList:=rfl
 rw[e] at q
 exact q
variable{a it T:Addr}{o:Obj}{es:Array (Int×Value)}{ep:Nat}{t:SetTable}
theorem NT{Q:Bool->Shared->Prop}(h:Q (w.params.followText "set-order") s):wpAny (model prog w) A setsByText Q E s:=by
 unfold setsByText
 exact wpAny_bind (wpAny_askSetting (wpAny_pure h))
theorem zTs{Q:Bool->Shared->Prop}(ho:s.heap.get? a=some o)(hd:o.data=.set es ep t)(hf:t.fits es.size=true)(h:Q (!w.params.followText "set-order" && (!t.plain&&decide (es.size > 1))) s):wpAny (model prog w) A (setDrawn a) Q E s:=by
 unfold setDrawn
 refine wpAny_bind (wpAny_setState_of ho hd hf ?_)
 exact wpAny_bind (NT (wpAny_pure h))
theorem Vb{Q:Array (Int×Value)->Shared->Prop}(ho:s.heap.get? a=some o)(hd:o.data=.set es ep t)(hf:t.fits es.size=true)(h:Q es s):wpAny (model prog w) A (setEntries a) Q E s:=by
 unfold setEntries
 exact wpAny_bind (wpAny_setState_of ho hd hf (wpAny_pure h))
theorem zJa{Q:Option (Value×Nat)->Shared->Prop}(ho:s.heap.get? a=some o)(hd:o.data=.set es ep t)(hf:t.fits es.size=true)(hb:w.params.followText "set-order" = true)(h:Q (((pickOrder (w.params.setOrder a ep) es)[i]?).map λe=>(e.2,slot)) s):wpAny (model prog w) A (setNext a slot i ep) Q E s:=by
 unfold setNext
 refine wpAny_bind (wpAny_setState_of ho hd hf ?_)
 refine wpAny_bind (NT ?_)
 rw[hb]
 simp only[↓reduceIte,bne_self_eq_false,Bool.false_eq_true]
 refine wpAny_bind ?_
 unfold setWalk
 refine wpAny_bind (wpAny_setState_of ho hd hf ?_)
 refine wpAny_bind (NT ?_)
 rw[hb]
 simp only[↓reduceIte]
 refine wpAny_bind (wpAny_askSetting (wpAny_pure ?_))
 exact wpAny_pure h
theorem zGc{Q:Option (Value×Nat)->Shared->Prop}(ho:s.heap.get? a=some o)(hd:o.data=.set es ep t)(hf:t.fits es.size=true)(hb:w.params.followText "set-order" = false)(hl:t.led=true)(hn:(!t.plain&&decide (es.size > 1))=false)(h:Q (match es[below t.place slot]?,t.place[below t.place slot]? with|some (_,x),some j=>some (x,j+1)|_,_=>none) s):wpAny (model prog w) A (setNext a slot i ep) Q E s:=by
 unfold setNext
 refine wpAny_bind (wpAny_setState_of ho hd hf ?_)
 refine wpAny_bind (NT ?_)
 rw[hb]
 simp only[↓reduceIte,Bool.false_eq_true]
 show wpAny _ _ (if(!t.plain&&decide (es.size > 1))=true then _ else _) _ _ _
 rw[if_neg (by rw[hn];exact Bool.false_ne_true)]
 refine wpAny_bind ?_
 show wpAny _ _ (if(!t.led&&!es.isEmpty)=true then _ else pure ()) _ _ _
 rw[if_neg (by rw[hl];exact Bool.false_ne_true)]
 exact wpAny_pure (wpAny_pure h)
theorem zM6{Q:Value->Shared->Prop}(ho:s.heap.get? a=some o)(hd:o.data=.set es ep t)(hf:t.fits es.size=true)(hx:es[place]?=some x)(h:Q x.2 s):wpAny (model prog w) A (setNextDrawn a place ep) Q E s:=by
 unfold setNextDrawn
 refine wpAny_bind (wpAny_setState_of ho hd hf ?_)
 simp only[bne_self_eq_false,Bool.false_eq_true,↓reduceIte,hx]
 exact wpAny_pure h
def m_(first:Value)(i:Nat)(a:Addr)(n ep:Nat):Obj:={ cls:=.type "set_iterator",data:=.fields #[first,.int i 0,.ref a,.int n 0,.int ep 0] }
theorem zTd{Q:Value->Shared->Prop}(ho:s.heap.get? a=some o)(hx:o.ExactSet)(hd:o.data=.set es ep t)(hf:t.fits es.size=true)(h1:(!w.params.followText "set-order" && (!t.plain&&decide (es.size > 1)))=false->Q (.ref s.heap.objs.size) { s with heap:=s.heap.push (m_ (.int 0 0) 0 a es.size ep) })(h2:(!w.params.followText "set-order" && (!t.plain&&decide (es.size > 1)))=true->es.size<=sizeLine/\∀(d:Drawn) (ps:List Nat),ps.Perm (List.range es.size)->Q (.ref (s.heap.objs.size+1)) { s with drawn:=d,heap:=(s.heap.push { cls:=.type "tuple",data:=.seq (ps.map λ(i:Nat)=>Value.int i 0).toArray }).push (m_ (.ref s.heap.objs.size) 0 a es.size ep) }) :
  wpAny (model prog w) A (pyIter (.ref a)) Q E s:=by
 have hT:s.TypeIs (.ref a) "set":=⟨o,ho,hx.1⟩
 refine wpAny_pyIter_slot hT F.slot_set_iter (wpAny_call_entry F.slot_set_iter hT zFw ?_ (F.args_set_iter_1 _))
 unfold Builtin.«frozenset.__iter__»
 refine wpAny_bind (wpAny_pure ?_)
 refine wpAny_bind ?_
 unfold Builtin.Frozenset.sizeOf
 refine wpAny_bind (Vb ho hd hf (wpAny_pure ?_))
 refine wpAny_bind (zTs ho hd hf ?_)
 cases hc:(!w.params.followText "set-order" && (!t.plain&&decide (es.size > 1))) with
 |false =>
  simp only[Bool.false_eq_true,↓reduceIte]
  refine wpAny_bind (wpAny_pure ?_)
  refine wpAny_bind (wpAny_setEpoch_of ho hd hf ?_)
  exact wpAny_bind (wpAny_newObj_type (wpAny_pure ⟨_,rfl,"set_iterator",_,⟨_,get?_push_size _ rfl,rfl⟩,jy.lookup,h1 hc⟩))
 |true =>
  obtain⟨hz,h2⟩:=h2 hc
  simp only[↓reduceIte]
  refine wpAny_bind (zQz _ _ _ _ (by simp) λps d hp=>?_)
  refine wpAny_bind (wpAny_newTuple ?_ (by rw[length_map,hp.length_eq,length_range];exact hz))
  have ho':=get?_push_of_some ({ cls:=.type "tuple",data:=.seq (ps.map λ(i:Nat)=>rawInt i).toArray }:Obj) ho
  refine wpAny_bind (wpAny_setEpoch_of (s:={ s with drawn:=d,heap:=_ }) ho' hd hf ?_)
  refine wpAny_bind (wpAny_newObj_type (wpAny_pure ⟨_,rfl,"set_iterator",_,⟨_,get?_push_size _ rfl,rfl⟩,jy.lookup,?_⟩))
  have q:=h2 d ps hp
  have sz:(s.heap.push ({ cls:=.type "tuple",data:=.seq (ps.map λ(i:Nat)=>Value.int i 0).toArray }:Obj)).objs.size=s.heap.objs.size+1:=size_push ..
  rw[<-sz] at q
  exact q
end
set_option maxRecDepth 100000
section
variable{prog:Program}{w:World}{A:Around}{E:Value->Shared->Prop}{s:Shared}{a it T:Addr}{o:Obj}{es:Array (Int×Value)}{ep:Nat}{t:SetTable}{i:Nat}{first:Value}
theorem Vc{Q:Option Value->Shared->Prop}(hi:s.heap.get? it=some (m_ first i a es.size ep))(ho:s.heap.get? a=some o)(hd:o.data=.set es ep t)(hf:t.fits es.size=true)(h:wpAny (model prog w) A.in1 (if let .int slot _:=first then do
    match <-setNext a slot.toNat (i:Int).toNat (ep:Int).toNat with
    |some (x,next) =>
     setField (.ref it) 0 (rawInt next)
     setField (.ref it) 1 (rawInt ((i:Int)+1))
     ret x
    |none=>setField (.ref it) 2 .none;raiseNew (<-newExc (.type "StopIteration") [])
   else do
    let some places <-seqItems? first|unsupported "internal:set_iterator"
    match places[(i:Int).toNat]? with
    |some (.int place _) =>
     let x <-setNextDrawn a place.toNat (ep:Int).toNat
     setField (.ref it) 1 (rawInt ((i:Int)+1))
     ret x
    |some _=>unsupported "internal:set_iterator"
    |none=>setField (.ref it) 0 (rawInt 0);setField (.ref it) 2 .none;raiseNew (<-newExc (.type "StopIteration") []))
   (λfin s'=>∃v,fin=.done (.ret v)/\Q (some v) s')
   (λe s'=>s'.TypeIs e "StopIteration" /\ Q none s') s):wpAny (model prog w) A (pyNext (.ref it)) Q E s:=by
 have hT:s.TypeIs (.ref it) "set_iterator":=⟨_,hi,rfl⟩
 unfold pyNext
 refine wpAny_bind (wpAny_attempt (wpAny_callSpecial?_slot (name:=Str.ofString "__next__") hT jy (wpAny_call_entry jy hT zG9 ?_ (zIs _))))
 unfold Builtin.«set_iterator.__next__»
 refine wpAny_bind (wpAny_pure ?_)
 refine wpAny_bind (wpAny_fieldsOf hi rfl ?_)
 dsimp only
 refine wpAny_bind (Vb ho hd hf ?_)
 rw[if_neg (by simp)]
 exact wpAny_mono h (λfin s' ⟨v,e,q⟩=>⟨v,e,wpAny_pure q⟩) λe s' ⟨ty,q⟩=>wpAny_bind (wpAny_isInstance (T:="StopIteration") (b:=true) ty isSubtype_stop (wpAny_pure q))
theorem zOh{α:Type}{Q:α->Shared->Prop}{E':Value->Shared->Prop}(hh:A.handled=none)(h:∀(e:Value) (h':Heap),(∀b u,s.heap.get? b=some u->h'.get? b=some u)->({ s with heap:=h' }:Shared).TypeIs e "StopIteration"->E' e { s with heap:=h' }) :
  wpAny (model prog w) A (newExc (.type "StopIteration") [] >>= λe=>(raiseNew e:Sem α)) Q E' s:=by
 refine wpAny_bind ?_
 simp only[newExc,newTuple]
 refine wpAny_bind (wpAny_newObj_type (wpAny_bind (m:=firstArgMember _ _) (wpAny_of_eq (a:=Value.none) (by first|rfl|(simp only[firstArgMember];rfl)) (wpAny_newObj_type ?_ (by size_fits)))) (by size_fits))
 simp only[raiseNew]
 refine wpAny_bind (wpAny_handled ?_)
 rw[hh]
 refine wpAny_bind (wpAny_pure (wpAny_throw ?_))
 refine h _ _ (λb u e=>get?_push_of_some _ (get?_push_of_some _ e)) ?_
 exact⟨_,get?_push_size _ rfl,rfl⟩
theorem Vd{f:Obj->Obj}(hi:s.heap.get? it=some u)(hn:(f u).isFreed=false):(s.heap.update it f).get? it=some (f u):=get?_update_self f hi hn
theorem NZ(hb:b≠it)(e:s.heap.get? b=some u):(s.heap.update it f).get? b=some u:=(get?_update_other _ _ (Ne.symm hb)).trans e
theorem zGf{Q:Option Value->Shared->Prop}{slot next:Nat}{tk:Tok}{x:Value}(hi:s.heap.get? it=some (m_ (.int slot tk) i a es.size ep))(ho:s.heap.get? a=some o)(hd:o.data=.set es ep t)(hf:t.fits es.size=true)(hs:∀(R:Option (Value×Nat)->Shared->Prop) (E':Value->Shared->Prop),R (some (x,next)) s->wpAny (model prog w) A.in1 (setNext a slot i ep) R E' s)(h:∀h',h'.get? it=some (m_ (.int next 0) (i+1) a es.size ep)->(∀b u,b≠it->s.heap.get? b=some u->h'.get? b=some u)->Q (some x) { s with heap:=h' }):wpAny (model prog w) A (pyNext (.ref it)) Q E s:=by
 refine Vc hi ho hd hf ?_
 dsimp only
 refine wpAny_bind (hs _ _ ?_)
 dsimp only
 refine wpAny_bind (wpAny_setField hi rfl (by simp) ?_)
 have h1:=Vd (f:=Obj.mapFields (·.setIfInBounds 0 (rawInt next))) hi rfl
 refine wpAny_bind (wpAny_setField (s:={ s with heap:=_ }) h1 rfl (by simp) ?_)
 have h2:=Vd (s:={ s with heap:=_ }) (f:=Obj.mapFields (·.setIfInBounds 1 (rawInt ((i:Int)+1)))) h1 rfl
 exact wpAny_pure ⟨x,rfl,h _ h2 λb u hb e=>NZ (s:={ s with heap:=_ }) hb (NZ hb e)⟩
theorem zJp{Q:Option Value->Shared->Prop}{slot:Nat}{tk:Tok}(hh:A.handled=none)(hi:s.heap.get? it=some (m_ (.int slot tk) i a es.size ep))(ho:s.heap.get? a=some o)(hd:o.data=.set es ep t)(hf:t.fits es.size=true)(hs:∀(R:Option (Value×Nat)->Shared->Prop) (E':Value->Shared->Prop),R none s->wpAny (model prog w) A.in1 (setNext a slot i ep) R E' s)(h:∀h',(∀b u,b≠it->s.heap.get? b=some u->h'.get? b=some u)->Q none { s with heap:=h' }):wpAny (model prog w) A (pyNext (.ref it)) Q E s:=by
 refine Vc hi ho hd hf ?_
 dsimp only
 refine wpAny_bind (hs _ _ ?_)
 dsimp only
 refine wpAny_bind (wpAny_setField hi rfl (by simp) ?_)
 exact zOh (s:={ s with heap:=_ }) (by simp[hh]) λe h' k ty=>⟨ty,h h' λb u hb e=>k b u (NZ hb e)⟩
theorem zNf{Q:Option Value->Shared->Prop}{ps:List Nat}(hi:s.heap.get? it=some (m_ (.ref T) i a es.size ep))(ho:s.heap.get? a=some o)(hd:o.data=.set es ep t)(hf:t.fits es.size=true)(hT:s.heap.get? T=some { cls:=.type "tuple",data:=.seq (ps.map λ(i:Nat)=>Value.int i 0).toArray })(hp:ps[i]?=some place)(hx:es[place]?=some x)(h:∀h',h'.get? it=some (m_ (.ref T) (i+1) a es.size ep)->(∀b u,b≠it->s.heap.get? b=some u->h'.get? b=some u)->Q (some x.2) { s with heap:=h' }):wpAny (model prog w) A (pyNext (.ref it)) Q E s:=by
 refine Vc hi ho hd hf ?_
 dsimp only
 refine wpAny_bind (wpAny_seqItems hT rfl ?_)
 have e:((ps.map λ(i:Nat)=>Value.int i 0).toArray)[(i:Int).toNat]?=some (.int (place:Nat) 0):=by
  rw[Int.toNat_natCast,getElem?_toArray,getElem?_map,hp]
  rfl
 dsimp only
 rw[e]
 dsimp only
 refine wpAny_bind (zM6 ho hd hf (x:=x) (by rw[Int.toNat_natCast];exact hx) ?_)
 refine wpAny_bind (wpAny_setField hi rfl (by simp) ?_)
 have h1:=Vd (f:=Obj.mapFields (·.setIfInBounds 1 (rawInt ((i:Int)+1)))) hi rfl
 exact wpAny_pure ⟨x.2,rfl,h _ h1 λb u hb e=>NZ hb e⟩
theorem zQw{Q:Option Value->Shared->Prop}{ps:List Nat}(hh:A.handled=none)(hi:s.heap.get? it=some (m_ (.ref T) i a es.size ep))(ho:s.heap.get? a=some o)(hd:o.data=.set es ep t)(hf:t.fits es.size=true)(hT:s.heap.get? T=some { cls:=.type "tuple",data:=.seq (ps.map λ(i:Nat)=>Value.int i 0).toArray })(hp:ps[i]?=none)(h:∀h',(∀b u,b≠it->s.heap.get? b=some u->h'.get? b=some u)->Q none { s with heap:=h' }):wpAny (model prog w) A (pyNext (.ref it)) Q E s:=by
 refine Vc hi ho hd hf ?_
 dsimp only
 refine wpAny_bind (wpAny_seqItems hT rfl ?_)
 have e:((ps.map λ(i:Nat)=>Value.int i 0).toArray)[(i:Int).toNat]?=none:=by
  rw[Int.toNat_natCast,getElem?_toArray,getElem?_map,hp]
  rfl
 dsimp only
 rw[e]
 dsimp only
 refine wpAny_bind (wpAny_setField hi rfl (by simp) ?_)
 have h1:=Vd (f:=Obj.mapFields (·.setIfInBounds 0 (rawInt 0))) hi rfl
 refine wpAny_bind (wpAny_setField (s:={ s with heap:=_ }) h1 rfl (by simp) ?_)
 exact zOh (s:={ s with heap:=_ }) (by simp[hh]) λe h' k ty=>⟨ty,h h' λb u hb e=>k b u (NZ (s:={ s with heap:=_ }) hb (NZ hb e))⟩
end
set_option maxRecDepth 100000
section
variable{prog:Program}{w:World}{A:Around}{E:Value->Shared->Prop}{s:Shared}{a it T:Addr}{o:Obj}{es:Array (Int×Value)}{ep:Nat}{t:SetTable}
theorem X3{Q:Value->Shared->Prop}(hi:s.heap.get? it=some (m_ first i a n ep))(h:Q (.ref it) s):wpAny (model prog w) A (pyIter (.ref it)) Q E s:=by
 have hT:s.TypeIs (.ref it) "set_iterator":=⟨_,hi,rfl⟩
 refine wpAny_pyIter_slot hT zOr (wpAny_call_entry zOr hT zHa ?_ (zIt _))
 refine wpAny_bind (wpAny_pure ?_)
 exact wpAny_pure ⟨_,rfl,"set_iterator",_,hT,jy.lookup,h⟩
theorem zJk(hf:t.fits es.size=true):t.place.size=es.size:=by
 unfold SetTable.fits at hf
 rw[Bool.and_eq_true] at hf
 exact eq_of_beq hf.1
theorem zNr(hr:Rz xs):below xs 0=0:=by
 obtain⟨b1,b2,b3⟩:=XJ hr 0
 cases e:below xs 0 with
 |zero=>rfl
 |succ k =>
  rw[e] at b1 b2
  have h0:0<xs.size:=by omega
  exact absurd (b2 0 _ (Nat.succ_pos k) (Array.getElem?_eq_getElem h0)) (Nat.not_lt_zero _)
theorem zNs(hr:Rz xs)(h:xs[i]?=some j):below xs (j+1)=i+1:=by
 obtain⟨b1,b2,b3⟩:=XJ hr (j+1)
 generalize below xs (j+1)=p at *
 have hi:i<xs.size:=by
  by_cases z:i<xs.size
  ·exact z
  ·rw[Array.getElem?_eq_none (by omega)] at h;cases h
 have h1:i<p:=by
  by_cases z:i<p
  ·exact z
  ·have:=b3 i j (by omega) h;omega
 by_cases z:p=i+1
 ·exact z
 ·have hp:i+1<xs.size:=by omega
  have q1:=b2 (i+1) _ (by omega) (Array.getElem?_eq_getElem hp)
  have q2:=hr i (i+1) j _ (by omega) h (Array.getElem?_eq_getElem hp)
  omega
theorem zSi{xs:Array Nat}(h:xs.size<=1):Rz xs:=λi k a b hik ha hb=>by
 rw[Array.getElem?_eq_none (by omega)] at hb
 cases hb
theorem zMm(hh:A.handled=none)(hne:a≠it)(hd:o.data=.set es ep t)(hf:t.fits es.size=true)(hb:w.params.followText "set-order" = false)(hl:t.led=true)(hn:(!t.plain&&decide (es.size > 1))=false)(hr:Rz t.place) :
  Walks prog w A it [it,a] [it] es.size (λi v=>(es.toList.map (·.2))[i]?=some v) (λi h=>h.get? a=some o/\∃(slot:Nat)(tk:Tok),h.get? it=some (m_ (.int slot tk) i a es.size ep)/\below t.place slot=i) where
 sub:=λb hb=>by simp at hb;simp[hb]
 frame:=λi h h' ⟨h1,slot,tk,h2,h3⟩ k=>⟨k a (by simp) _ h1,slot,tk,k it (by simp) _ h2,h3⟩
 item:=λi s Q E hi ⟨h1,slot,tk,h2,h3⟩ hQ=>by
  have hp:i<t.place.size:=by rw[zJk hf];exact hi
  refine zGf (x:=es[i].2) (next:=t.place[i]+1) h2 h1 hd hf (λR E' hR=>zGc h1 hd hf hb hl hn ?_) λh' hi' k=>?_
  ·rw[h3,Array.getElem?_eq_getElem hi,Array.getElem?_eq_getElem hp]
   exact hR
  ·refine hQ _ h' s.toks (by simp[hi]) ⟨k a o hne h1,_,_,hi',zNs hr (Array.getElem?_eq_getElem hp)⟩ λb u hb e=>k b u (λz=>hb (by simp[z])) e
 done:=λs Q E ⟨h1,slot,tk,h2,h3⟩ hQ=>by
  refine zJp hh h2 h1 hd hf (λR E' hR=>zGc h1 hd hf hb hl hn ?_) λh' k=>hQ h' s.toks λb u hb e=>k b u (λz=>hb (by simp[z])) e
  rw[h3,Array.getElem?_eq_none (Nat.le_refl _)]
  exact hR
 self:=λi s Q E ⟨h1,slot,tk,h2,h3⟩ hQ=>X3 h2 hQ
theorem zNw(hh:A.handled=none)(hne:a≠it)(hd:o.data=.set es ep t)(hf:t.fits es.size=true)(hb:w.params.followText "set-order" = true) :
  Walks prog w A it [it,a] [it] es.size (λi v=>((pickOrder (w.params.setOrder a ep) es).toList.map (·.2))[i]?=some v) (λi h=>h.get? a=some o/\∃(slot:Nat)(tk:Tok),h.get? it=some (m_ (.int slot tk) i a es.size ep)) where
 sub:=λb hb=>by simp at hb;simp[hb]
 frame:=λi h h' ⟨h1,slot,tk,h2⟩ k=>⟨k a (by simp) _ h1,slot,tk,k it (by simp) _ h2⟩
 item:=λi s Q E hi ⟨h1,slot,tk,h2⟩ hQ=>by
  have hz:i<(pickOrder (w.params.setOrder a ep) es).size:=by rw[<-length_toList,(NQ _ es).length_eq,length_toList];exact hi
  refine zGf (x:=(pickOrder (w.params.setOrder a ep) es)[i].2) (next:=slot) h2 h1 hd hf (λR E' hR=>zJa h1 hd hf hb ?_) λh' hi' k=>?_
  ·rw[Array.getElem?_eq_getElem hz]
   exact hR
  ·refine hQ _ h' s.toks (by simp[hz]) ⟨k a o hne h1,_,_,hi'⟩ λb u hb e=>k b u (λz=>hb (by simp[z])) e
 done:=λs Q E ⟨h1,slot,tk,h2⟩ hQ=>by
  have hz:(pickOrder (w.params.setOrder a ep) es).size=es.size:=by rw[<-length_toList,(NQ _ es).length_eq,length_toList]
  refine zJp hh h2 h1 hd hf (λR E' hR=>zJa h1 hd hf hb ?_) λh' k=>hQ h' s.toks λb u hb e=>k b u (λz=>hb (by simp[z])) e
  rw[Array.getElem?_eq_none (by rw[hz];exact Nat.le_refl _)]
  exact hR
 self:=λi s Q E ⟨h1,slot,tk,h2⟩ hQ=>X3 h2 hQ
theorem zMn{ps:List Nat}(hh:A.handled=none)(hne:a≠it)(hnT:T≠it)(hd:o.data=.set es ep t)(hf:t.fits es.size=true)(hp:ps.Perm (List.range es.size)) :
  Walks prog w A it [it,a,T] [it] es.size (λi v=>(ps.map λp=>((es[p]?).map (·.2)).getD .none)[i]?=some v)
   (λi h=>h.get? a=some o/\h.get? T=some { cls:=.type "tuple",data:=.seq (ps.map λ(i:Nat)=>Value.int i 0).toArray }/\h.get? it=some (m_ (.ref T) i a es.size ep)) where
 sub:=λb hb=>by simp at hb;simp[hb]
 frame:=λi h h' ⟨h1,h2,h3⟩ k=>⟨k a (by simp) _ h1,k T (by simp) _ h2,k it (by simp) _ h3⟩
 item:=λi s Q E hi ⟨h1,h2,h3⟩ hQ=>by
  have hl:ps.length=es.size:=by rw[hp.length_eq,length_range]
  have hi':i<ps.length:=by omega
  have hm:ps[i]<es.size:=mem_range.mp (hp.mem_iff.mp (getElem_mem hi'))
  refine zNf (place:=ps[i]) (x:=es[ps[i]]) h3 h1 hd hf h2 (List.getElem?_eq_getElem hi') (Array.getElem?_eq_getElem hm) λh' hi' k=>?_
  refine hQ _ h' s.toks ?_ ⟨k a o hne h1,k T _ hnT h2,hi'⟩ λb u hb e=>k b u (λz=>hb (by simp[z])) e
  rw[getElem?_map,List.getElem?_eq_getElem (by omega),Option.map_some,Array.getElem?_eq_getElem hm]
  rfl
 done:=λs Q E ⟨h1,h2,h3⟩ hQ=>by
  have hl:ps.length=es.size:=by rw[hp.length_eq,length_range]
  exact zQw hh h3 h1 hd hf h2 (List.getElem?_eq_none (by omega)) λh' k=>hQ h' s.toks λb u hb e=>k b u (λz=>hb (by simp[z])) e
 self:=λi s Q E ⟨h1,h2,h3⟩ hQ=>X3 h3 hQ
end
set_option maxRecDepth 100000
section
variable{prog:Program}{w:World}{A:Around}{E:Value->Shared->Prop}{s:Shared}{a it T:Addr}{o:Obj}{es:Array (Int×Value)}{ep:Nat}{t:SetTable}
theorem zTf{Q:Bool->Shared->Prop}(hT:s.TypeIs (.ref a) "set")(h:Q false s):wpAny (model prog w) A (Builtin.List.listLengthHint (.ref a)) Q E s:=by
 unfold Builtin.List.listLengthHint
 refine wpAny_bind (wpAny_specialOf hT F.slot_set_len.lookup ?_)
 generalize hid:("set.__len__":String)=id0
 wp_delta
 rw[show splitId id0=some ("set","__len__") from by subst hid;decide +kernel]
 subst hid
 refine wpAny_bind (wpAny_isInstance (T:="set") (b:=true) hT sub_set_self (wpAny_ite_split (λhab=>absurd hab (by decide)) λ_=>wpAny_ite_split (λ_=>wpAny_bind (wpAny_typeOf hT (wpAny_pure h))) λhab=>absurd (by decide +kernel) hab))
theorem zPz{R:Result->Shared->Prop}{P:Nat->Value->Prop}{St:Nat->Heap->Prop}(W:Walks prog w A.in1 it fp [it] n P St)(hn:n<=sizeLine)(off:S∉fp)(st:St 0 s.heap)(hS:s.heap.get? S=some { cls:=.type "list",data:=.seq #[] c₁ })(hR:∀h' tk acc c',(∀b u,b≠S->b≠it->s.heap.get? b=some u->h'.get? b=some u)->h'.get? S=some { cls:=.type "list",dict:=none,data:=.seq acc c',slots:=#[] }->ItemsOf P acc n->R (.ok (.ret res)) { s with heap:=h',toks:=tk }) :
  codeAny (model prog w) A (.builtin "list.extend.loop" ⟨[.ref S,.ref it,res],[]⟩) R s:=by
 refine codeAny_extend_loopS W.toS hn S off res n 0 _ #[] c₁ rfl (Nat.zero_le _) st hS (ItemsOf.nil _) λs' acc c' hm hS' hacc=>?_
 rw[Moved.eq_with hm]
 refine hR s'.heap s'.toks acc c' (λb u h1 h2 e=>hm.heap b u (λz=>?_) e) hS' hacc
 rcases mem_cons.mp z with z|z
 ·exact h1 z
 ·exact h2 (mem_singleton.mp z)
theorem X4{R:Result->Shared->Prop}{P:Nat->Value->Prop}{St:Nat->Heap->Prop}(W:Walks prog w A.in1 it fp [it] n P St)(hn:n<=sizeLine)(off:S∉fp)(hT:s.TypeIs (.ref a) "set")(st:St 0 s.heap)(hS:s.heap.get? S=some { cls:=.type "list",data:=.seq #[] c₀ })(hR:∀h' tk acc c',(∀b u,b≠S->b≠it->s.heap.get? b=some u->h'.get? b=some u)->h'.get? S=some { cls:=.type "list",dict:=none,data:=.seq acc c',slots:=#[] }->ItemsOf P acc n->R (.ok (.ret res)) { s with heap:=h',toks:=tk }) :
  wpAny (model prog w) A.in1 (holding [.ref it] (Builtin.List.listLengthHint (.ref a)) >>= λroom=>if(room||b)=true then(rule "list.extend.makes-room" >>= λ_=>Builtin.List.listTouch (.ref S) >>= λ_=>again (.builtin "list.extend.loop" ⟨[.ref S,.ref it,res],[]⟩)) else again (.builtin "list.extend.loop" ⟨[.ref S,.ref it,res],[]⟩))
   (λfin s'=>match fin with|.done f=>R (.ok f) s'|.again c'=>c'.quiet=true/\codeAny (model prog w) A c' R s') (λe s'=>R (.error e) s') s:=by
 refine wpAny_bind (wpAny_holding (zTf hT ?_))
 refine wpAny_ite_split (λ_=>?_) λ_=>wpAny_pure ⟨plainId_quiet F.plain_extend_loop _,zPz W hn off st hS hR⟩
 refine wpAny_bind (wpAny_rule ?_)
 refine wpAny_bind ?_
 show wpAny _ _ (updateSeq S (·.push .none) >>= λ_=>updateSeq S (·.pop)) _ _ _
 refine wpAny_bind (wpAny_updateSeq hS rfl ?_)
 have hS2:=get?_update_self (Obj.mapSeq (·.push Value.none)) hS rfl
 refine wpAny_updateSeq (hz:=by seq_fits) hS2 rfl ?_
 have hS3:=get?_update_self (Obj.mapSeq (·.pop)) hS2 rfl
 have keep:∀c u,c≠S->s.heap.get? c=some u->((s.heap.update S (Obj.mapSeq (·.push Value.none))).update S (Obj.mapSeq (·.pop))).get? c=some u:=λc u hc e=>(get?_update_other _ _ (Ne.symm hc)).trans ((get?_update_other _ _ (Ne.symm hc)).trans e)
 refine wpAny_pure ⟨plainId_quiet F.plain_extend_loop _,zPz (s:={ s with heap:=_ }) W hn off (W.frame 0 _ _ st λc hc u e=>keep c u (λz=>off (z▸hc)) e) hS3 λh' tk acc c' k h1 h2=>hR h' tk acc c' (λc u n1 n2 e=>k c u n1 n2 (keep c u n1 e)) h1 h2⟩
theorem X5(h:ItemsOf (λi v=>ord[i]?=some v) acc n)(hl:ord.length=n):acc.toList=ord:=by
 apply List.ext_getElem?
 intro i
 rw[getElem?_toList]
 by_cases hi:i<acc.size
 ·rw[Array.getElem?_eq_getElem hi]
  exact(h.2 i _ (Array.getElem?_eq_getElem hi)).symm
 ·rw[Array.getElem?_eq_none (by omega),List.getElem?_eq_none (by rw[hl,<-h.1];omega)]
theorem zMy(es:Array (Int×Value)):(List.range es.size).map (λp=>((es[p]?).map (·.2)).getD Value.none)=es.toList.map (·.2):=by
 apply List.ext_getElem (by simp)
 intro i h1 h2
 have hi:i<es.size:=by simpa using h1
 simp[hi]
theorem zNl{R:Result->Shared->Prop}(hh:A.handled=none)(ho:s.heap.get? a=some o)(hx:o.ExactSet)(hd:o.data=.set es ep t)(hf:t.fits es.size=true)(tb:Tb (yZ w) t)(hz:es.size<=sizeLine)(X6:S≠a)(hS:s.heap.get? S=some { cls:=.type "list",data:=.seq #[] c₀ })(hR:∀h' tk d acc c',(∀b u,b≠S->s.heap.get? b=some u->h'.get? b=some u)->h'.get? S=some { cls:=.type "list",dict:=none,data:=.seq acc c',slots:=#[] }->acc.toList.Perm (es.toList.map (·.2))->R (.ok (.ret res)) { s with heap:=h',toks:=tk,drawn:=d }) :
  wpAny (model prog w) A.in1 (Builtin.List.listExtendWith (.ref S) (.ref a) res)
   (λfin s'=>match fin with|.done f=>R (.ok f) s'|.again c'=>c'.quiet=true/\codeAny (model prog w) A c' R s') (λe s'=>R (.error e) s') s:=by
 have hT:s.TypeIs (.ref a) "set":=⟨o,ho,hx.1⟩
 have lta:a<s.heap.objs.size:=lt_size ho
 have ltS:S<s.heap.objs.size:=lt_size hS
 have hi:A.in1.handled=none:=by simp[hh]
 unfold Builtin.List.listExtendWith
 refine wpAny_bind (wpAny_typeOf hT ?_)
 have h1:Builtin.List.listSameRef (.ref S) (.ref a)=false:=by simp[Builtin.List.listSameRef,X6]
 simp only[h1,show(Value.type "set" == Value.type "list")=false by decide,show(Value.type "set" == Value.type "tuple")=false by decide,Bool.or_false,Bool.false_eq_true,if_false]
 have old:∀{b:Addr}{u:Obj}{n:Nat},s.heap.get? b=some u->s.heap.objs.size<=n->b≠n:=λe hn z=>absurd (lt_size e) (by rw[z];exact Nat.not_lt_of_le hn)
 refine wpAny_bind (zTd ho hx hd hf (λhc=>?_) λhc=>⟨hz,λd ps hp=>?_⟩)
 ·have hS':=get?_push_of_some (m_ (.int 0 0) 0 a es.size ep) hS
  have ho':=get?_push_of_some (m_ (.int 0 0) 0 a es.size ep) ho
  have hI:(s.heap.push (m_ (.int 0 0) 0 a es.size ep)).get? s.heap.objs.size=some (m_ (.int 0 0) 0 a es.size ep):=get?_push_size _ rfl
  have off:S∉[s.heap.objs.size,a]:=λz=>by
   rcases mem_cons.mp z with z|z
   ·exact old hS (Nat.le_refl _) z
   ·exact X6 (mem_singleton.mp z)
  have hne:a≠s.heap.objs.size:=old ho (Nat.le_refl _)
  cases hb:w.params.followText "set-order" with
  |true =>
   refine X4 (s:={ s with heap:=_ }) (zNw hi hne hd hf hb) hz off ⟨o,ho',hx.1⟩ ⟨ho',0,0,hI⟩ hS' λh' tk acc c' k h2 h3=>?_
   refine hR h' tk s.drawn acc c' (λb u n e=>k b u n (old e (Nat.le_refl _)) (get?_push_of_some _ e)) h2 ?_
   rw[X5 h3 (by rw[length_map,(NQ _ es).length_eq,length_toList])]
   exact(NQ _ es).map _
  |false =>
   have hl:t.led=true:=by rw[tb.led];unfold yZ;rw[hb];rfl
   have hn:(!t.plain&&decide (es.size > 1))=false:=by rw[hb] at hc;exact hc
   have hr:Rz t.place:=by
    cases hp:t.plain with
    |true=>exact tb.rz hp
    |false =>
     rw[hp] at hn
     refine zSi ?_
     rw[zJk hf]
     have:¬es.size > 1:=of_decide_eq_false (by simpa using hn)
     omega
   refine X4 (s:={ s with heap:=_ }) (zMm hi hne hd hf hb hl hn hr) hz off ⟨o,ho',hx.1⟩ ⟨ho',0,0,hI,zNr hr⟩ hS' λh' tk acc c' k h2 h3=>?_
   refine hR h' tk s.drawn acc c' (λb u n e=>k b u n (old e (Nat.le_refl _)) (get?_push_of_some _ e)) h2 ?_
   rw[X5 h3 (by rw[length_map,length_toList])]
 ·have e0:∀{b:Addr}{u:Obj},s.heap.get? b=some u->((s.heap.push { cls:=.type "tuple",data:=.seq (ps.map λ(i:Nat)=>Value.int i 0).toArray }).push (m_ (.ref s.heap.objs.size) 0 a es.size ep)).get? b=some u:=λe=>get?_push_of_some _ (get?_push_of_some _ e)
  have sz:(s.heap.push ({ cls:=.type "tuple",data:=.seq (ps.map λ(i:Nat)=>Value.int i 0).toArray }:Obj)).objs.size=s.heap.objs.size+1:=size_push ..
  have hI:((s.heap.push { cls:=.type "tuple",data:=.seq (ps.map λ(i:Nat)=>Value.int i 0).toArray }).push (m_ (.ref s.heap.objs.size) 0 a es.size ep)).get? (s.heap.objs.size+1)=some (m_ (.ref s.heap.objs.size) 0 a es.size ep):=by
   rw[<-sz];exact get?_push_size _ rfl
  have hTT:((s.heap.push { cls:=.type "tuple",data:=.seq (ps.map λ(i:Nat)=>Value.int i 0).toArray }).push (m_ (.ref s.heap.objs.size) 0 a es.size ep)).get? s.heap.objs.size=some { cls:=.type "tuple",data:=.seq (ps.map λ(i:Nat)=>Value.int i 0).toArray }:=get?_push_of_some _ (get?_push_size _ rfl)
  have off:S∉[s.heap.objs.size+1,a,s.heap.objs.size]:=λz=>by
   rcases mem_cons.mp z with z|z
   ·exact old hS (Nat.le_succ _) z
   ·rcases mem_cons.mp z with z|z
    ·exact X6 z
    ·exact old hS (Nat.le_refl _) (mem_singleton.mp z)
  refine X4 (s:={ s with drawn:=d,heap:=_ }) (zMn hi (old ho (Nat.le_succ _)) (Nat.ne_of_lt (Nat.lt_succ_self _)) hd hf hp) hz off ⟨o,e0 ho,hx.1⟩ ⟨e0 ho,hTT,hI⟩ (e0 hS) λh' tk acc c' k h2 h3=>?_
  refine hR h' tk d acc c' (λb u n e=>k b u n (old e (Nat.le_succ _)) (e0 e)) h2 ?_
  rw[X5 h3 (by rw[length_map,hp.length_eq,length_range])]
  have e1:=zMy es
  rw[<-e1]
  exact hp.map _
theorem zK4{R:List Value->Shared->Prop}(hh:A.handled=none)(ho:s.heap.get? a=some o)(hx:o.ExactSet)(hd:o.data=.set es ep t)(hf:t.fits es.size=true)(tb:Tb (yZ w) t)(hz:es.size<=sizeLine)(h:∀h' tk d (acc:List Value),(∀b u,s.heap.get? b=some u->h'.get? b=some u)->acc.Perm (es.toList.map (·.2))->R acc { s with heap:=h',toks:=tk,drawn:=d }) :
  wpAny (model prog w) A (collect (.ref a)) R E s:=by
 have lt:a<s.heap.objs.size:=lt_size ho
 unfold collect
 refine wpAny_bind (wpAny_runValue (codeAny_builtin entry_proto_collect' ?_))
 rw[Around.under_plainId F.plain_proto_collect _]
 refine wpAny_bind (m:=newList []) (wpAny_newObj_type (wpAny_pure ⟨plainId_quiet F.plain_list_iadd _,codeAny_builtin entry_list_iadd' ?_⟩))
 rw[Around.under_plainId F.plain_list_iadd _]
 have hS:(s.heap.push { cls:=.type "list",data:=.seq ([]:List Value).toArray }).get? s.heap.objs.size=some { cls:=.type "list",data:=.seq #[] }:=get?_push_size _ rfl
 have key:=zNl (prog:=prog) (A:=A) (S:=s.heap.objs.size) (res:=.ref s.heap.objs.size) (s:={ s with heap:=s.heap.push { cls:=.type "list",data:=.seq ([]:List Value).toArray } })
  (R:=λ(q:Result) (s':Shared)=>∃(h':Heap)(tk:Nat)(d:Drawn)(acc:Array Value)(c':Nat),q=.ok (.ret (.ref s.heap.objs.size))/\s'={ s with heap:=h',toks:=tk,drawn:=d }/\(∀b u,s.heap.get? b=some u->h'.get? b=some u) /\
   h'.get? s.heap.objs.size=some { cls:=.type "list",dict:=none,data:=.seq acc c',slots:=#[] }/\acc.toList.Perm (es.toList.map (·.2)))
  hh (get?_push_of_some _ ho) hx hd hf tb hz (Nat.ne_of_gt lt) hS λh' tk d acc c' k h1 h2=>⟨h',tk,d,acc,c',rfl,rfl,λb u e=>k b u (Nat.ne_of_lt (lt_size e)) (get?_push_of_some _ e),h1,h2⟩
 refine wpAny_mono key (λfin s' x=>?_) λe s' x=>?_
 ·cases fin with
  |done f =>
   obtain⟨h',tk,d,acc,c',e,rfl,k,h1,h2⟩:=x
   cases e
   refine wpAny_bind (m:=load s.heap.objs.size) (wpAny_load h1 ?_)
   exact wpAny_pure (h h' tk d acc.toList k h2)
  |again c1 =>
   refine⟨x.1,codeAny_mono x.2 λq s2 y=>?_⟩
   obtain⟨h',tk,d,acc,c',rfl,rfl,k,h1,h2⟩:=y
   refine wpAny_bind (m:=load s.heap.objs.size) (wpAny_load h1 ?_)
   exact wpAny_pure (h h' tk d acc.toList k h2)
 ·obtain⟨_,_,_,_,_,e',_⟩:=x
  cases e'
end
end lM
namespace L2
open PySem PySem.Spec PyProof.Rows lM
def p7:Value->Int
 |.int k _=>k
 |_=>0
theorem zUx:∀k v,(intKind P w).is k v=true->p7 v=k:=λk v h=>by
 obtain⟨t,rfl⟩:=Value.isInt_shape h
 rfl
theorem Inv.drew(I:Inv X pins σ H s)(d:Drawn):Inv X pins σ H { s with drawn:=d }:=⟨I.ok,I.os,I.bare,I.base,I.loc,I.cell,I.free,I.gq,I.pin,I.hok,I.len⟩
abbrev Rq:=St->Hp->(LI->Hp->Prop)->Prop
def StP(X:Cx)(pins:List (Addr×Obj))(σ:St)(Q:LI->Hp->Prop)(v:Value)(s':Shared):Prop :=
 ∃(a:Addr)(ks:LI)(H':Hp),v=.ref a/\Inv X pins σ H' s'/\Good (intKind X.prog X.w) p7 (yZ X.w) s'.heap a ks/\kW X pins H' a/\Q ks H'
def Ru(X:Cx)(e:Expr)(t:Rq):Prop:=∀(pins:List (Addr×Obj))(s:Shared)(σ:St)(H:Hp)(Q:LI->Hp->Prop),Inv X pins σ H s->t σ H Q->wpAny (model X.prog X.w) X.A (eval e X.env) (StP X pins σ Q) X.xe s
section
variable{X:Cx}
theorem zU3:∀{ns:LI}{its:List Value},IntsAre its ns->∀{i:Nat}{v:Value},its[i]?=some v->∃t,v=.int (ns.getD i 0) t
 |_,_,.nil,i,v,h=>by simp at h
 |_,_,.cons n t r,0,v,h=>by simp at h;subst h;exact⟨t,rfl⟩
 |_,_,.cons n t r,i+1,v,h=>by
  obtain⟨t',e⟩:=zU3 r (by simpa using h)
  exact⟨t',e⟩
theorem zRl:∀{ns:LI}{its:List Value},IntsAre its ns->its.length=ns.length
 |_,_,.nil=>rfl
 |_,_,.cons n t r=>congrArg (· + 1) (zRl r)
def Ve(K:PySem.W.Frag)(te:TE):Rq:=λσ H Q=>xG te bF σ H λvs H1=>∃(p:Addr)(ns:LI),vs=[.ref p]/\aV K H1 p (ns.map V.int)/\ns.length<4000/\∀ks:LI,ks.Nodup->(∀z,z∈ks↔z∈ns)->Q ks H1
theorem K4:bootBuiltins "set" = some (.type "set"):=by decide +kernel
theorem X7(K:PySem.W.Frag)(hc:X.calm=true)(hm:X.mg "set" = none)(he:PE X e te)(hK:X.K=K:=by rfl)(hg:Gl X "set":=by rfl)(hs:starEach [e] X.env=[(false,eval e X.env)]:=by rfl):Ru X (.Call (.Name "set" p) [e] [] pos) (Ve K te):=by
 subst hK
 intro pins s σ H Q I h
 refine wpAny_Call_Name_kw (yg I hg hm K4 ?_)
 have ha:PA X [e] (xG te bF):=zB he zH hs
 refine PyProof.Rows.callWith_type1 (aJ (ha pos pins s σ H _ I h) λus s1 ⟨vs,H1,I1,r1,q1⟩=>?_) hs rfl
 obtain⟨l,ns,e1,hq,h4,q⟩:=q1
 subst e1
 cases r1 with
 |cons r rr =>
  cases rr
  cases r
  obtain⟨its,rv,pl,hz⟩:=I1.list hq
  have hi:IntsAre its ns:=Q9 rv
  have hl:=zRl hi
  refine zTu (knd:=intKind X.prog X.w) (dec:=p7) zUx (λi=>ns.getD i 0) (I1.ok.hd hc) pl.isList (λi v hv=>?_) (by rw[size_toArray,hl];show ns.length+1<4096;omega) λh' tk g k=>?_
  ·obtain⟨t,rfl⟩:=zU3 hi (by rw[getElem?_toArray] at hv;exact hv)
   exact⟨intKind_is _ _ _ _,rfl⟩
  ·have I2:=I1.kept (h':=h') (t':=tk) λb o e=>k b o (lt_size e) e
   obtain⟨_,_,_,_,_,_,_,_,_,nd,_⟩:=id g
   refine⟨_,_,H1,rfl,I2,g,I1.oA (Nat.le_refl _) (I1.hok.fresh (Nat.le_refl _)),q _ nd λz=>?_⟩
   rw[zPw,size_toArray,hl]
   constructor
   ·rintro⟨j,hj,rfl⟩
    rw[getD_eq_getElem?_getD,List.getElem?_eq_getElem hj]
    exact getElem_mem hj
   ·intro hz
    obtain⟨j,hj,e⟩:=getElem_of_mem hz
    exact⟨j,hj,by rw[getD_eq_getElem?_getD,List.getElem?_eq_getElem hj];exact e⟩
def X8(ts:Rq):TE:=λσ H Q=>ts σ H λks H1=>ks.length<64/\∀(l:Addr)(ms:LI),H1 l=none->ms.Perm ks->ms.Pairwise (· <= ·)->Q (.ref l) (upd H1 l (.lst (ms.map V.int)))
theorem zL2:∀{vs:List Value},(∀v∈vs,∃k,(intKind P w).is k v=true)->IntsAre vs (vs.map p7)
 |[],_=>.nil
 |v::vs,h=>by
  obtain⟨k,hk⟩:=h v mem_cons_self
  obtain⟨t,rfl⟩:=Value.isInt_shape hk
  exact .cons k t (zL2 (P:=P) (w:=w) λu hu=>h u (mem_cons_of_mem _ hu))
theorem zR8(hc:X.calm=true)(I:Inv X pins σ H s)(g:Good (intKind X.prog X.w) p7 (yZ X.w) s.heap a ks)(h64:ks.length<64)(q:∀(l:Addr) (ms:LI),H l=none->ms.Perm ks->ms.Pairwise (· <= ·)->Q (.ref l) (upd H l (.lst (ms.map V.int)))):wpAny (model X.prog X.w) X.A (call (.builtin "sorted") [.ref a]) (EP X pins σ Q) X.xe s:=by
 obtain⟨o,es,ep,t,ho,hx,hd,hel,hp,nd,hb,hf,tb⟩:=g
 have hsz:es.size=ks.length:=by rw[<-hp.length_eq,length_map,length_toList]
 refine PySem.Calls.call_function_entry kind_sorted plain_sorted entry_sorted (args_sorted1 _) ?_
 unfold Builtin.«sorted»
 refine wpAny_bind (m:=checkCount "sorted" 1 1 _) (wpAny_pure ?_)
 refine wpAny_bind (zK4 (A:=X.A.in1) (I.ok.hd hc) ho hx hd hf tb (fits_of_scanBound hb) λh' tk d acc hkeep hacc=>?_)
 have I':Inv X pins σ H { s with heap:=h',toks:=tk,drawn:=d }:=(I.kept (h':=h') (t':=tk) hkeep).drew d
 have hI:IntsAre acc (acc.map p7):=zL2 (P:=X.prog) (w:=X.w) λv hv=>by
  obtain⟨e,he,rfl⟩:=mem_map.mp (hacc.mem_iff.mp hv)
  obtain⟨⟨k,hk,_⟩,_⟩:=hel e he
  exact⟨k,hk⟩
 have hpk:(acc.map p7).Perm ks:=by
  refine(hacc.map p7).trans ?_
  rw[map_map]
  exact hp
 have hal:acc.length=ks.length:=by rw[<-hpk.length_eq,length_map]
 have hsl:acc.length<=sizeLine:=by rw[hal];exact Nat.le_of_lt (Nat.lt_trans h64 (by decide))
 refine wpAny_bind (wpAny_newList ?_ hsl)
 have hoL:(h'.push (seqObj "list" acc.toArray 0)).get? h'.objs.size=some (seqObj "list" acc.toArray 0):=get?_push_size _ rfl
 refine wpAny_bind (wpAny_holding (wpAny_call_entry slot_list_sort ⟨_,hoL,rfl⟩ entry_list_sort (list_sort_tree hoL hI (by omega) λout ns' a1 a2 a3=>⟨_,rfl,?_⟩) (args_list_sort _)))
 refine wpAny_pure ⟨_,rfl,?_⟩
 obtain⟨e,he⟩:=sortedHeap_at (out:=out) hoL
 refine⟨.ref h'.objs.size,_,I'.laid (t':=tk) (o:=.lst (ns'.map V.int)) (λb ob w=>?_) (Nat.le_refl _) ?_,rfl,q _ ns' (I'.hok.fresh (Nat.le_refl _)) (a2.trans hpk) a3⟩
 ·have hb:h'.get? b=some ob:=w
  have hlt:=lt_size hb
  rw[sortedHeap_old (Nat.ne_of_lt hlt) (by rw[size_push'];exact Nat.lt_succ_of_lt hlt),Heap.get?_push_ne _ _ _ (Nat.ne_of_lt hlt)]
  exact hb
 ·refine⟨?_,out.toList,e,uD a1,?_⟩
  ·rw[length_map,a2.length_eq,length_map];exact hsl
  ·rw[toArray_toList];exact he
theorem zIx(hc:X.calm=true)(hm:X.mg "sorted" = none)(he:Ru X e ts)(hg:Gl X "sorted":=by rfl)(hs:starEach [e] X.env=[(false,eval e X.env)]:=by rfl):PE X (.Call (.Name "sorted" p) [e] [] pos) (X8 ts):=by
 intro pins s σ H Q I h
 refine wpAny_Call_Name_kw (yg I hg hm (by decide +kernel:bootBuiltins "sorted" = some (.builtin "sorted")) ?_)
 refine PyProof.Rows.callWith_builtin1 (Q:=_) ?_ hs rfl
 rw[hs]
 show wpAny _ _ (spliced ((false,eval e X.env)::backTo pos [])) _ _ s
 refine Calls.spliced_cons (aJ (he pins s σ H _ I h) λu s1 ⟨a,ks,H1,e1,I1,g,fo,h64,q⟩=>?_)
 subst e1
 refine Calls.spliced_nil ?_
 exact zR8 hc I1 g h64 q
end
end L2
namespace Ts
open PySem L2
def oH(z:Int):LI->LI
 |[]=>[z]
 |y::ys=>if z<y then z::y::ys else if z=y then y::ys else y::oH z ys
def vN(ns:LI):LI:=ns.foldr oH []
def N5(ns:LI):Option LI:=if ns.length<64 then some (vN ns) else none
theorem lN:∀{ys:LI},x∈oH z ys↔x=z\/x∈ys
 |[]=>by simp[oH]
 |y::ys=>by
  unfold oH
  split
  ·simp
  ·split
   ·rename_i h;subst h;simp
   ·rw[mem_cons,lN,mem_cons]
    exact⟨λh=>h.elim (λh=>.inr (.inl h)) λh=>h.elim .inl λh=>.inr (.inr h),λh=>h.elim (λh=>.inr (.inl h)) λh=>h.elim .inl λh=>.inr (.inr h)⟩
theorem zQd:∀{ys:LI},ys.Pairwise (· < ·)->(oH z ys).Pairwise (· < ·)
 |[],_=>by simp[oH]
 |y::ys,h=>by
  have h1:=pairwise_cons.mp h
  unfold oH
  split
  ·rename_i hz
   refine pairwise_cons.mpr ⟨λx hx=>?_,h⟩
   rcases mem_cons.mp hx with e|e
   ·rw[e];exact hz
   ·exact Int.lt_trans hz (h1.1 x e)
  ·split
   ·exact h
   ·refine pairwise_cons.mpr ⟨λx hx=>?_,zQd h1.2⟩
    rcases lN.mp hx with e|e
    ·rw[e];omega
    ·exact h1.1 x e
theorem bW:∀{ns:LI},x∈vN ns↔x∈ns
 |[]=>by simp[vN]
 |n::ns=>by
  show x∈oH n (vN ns)↔_
  rw[lN,bW,mem_cons]
theorem N6:∀ns:LI,(vN ns).Pairwise (· < ·)
 |[]=>.nil
 |n::ns=>zQd (N6 ns)
theorem Vf:∀{xs ys:LI},xs.Pairwise (· < ·)->ys.Pairwise (· < ·)->(∀s,s∈xs↔s∈ys)->xs=ys
 |[],[],_,_,_=>rfl
 |[],y::ys,_,_,h=>absurd ((h y).mpr mem_cons_self) (by simp)
 |x::xs,[],_,_,h=>absurd ((h x).mp mem_cons_self) (by simp)
 |x::xs,y::ys,hx,hy,h=>by
  have h1:=pairwise_cons.mp hx
  have h2:=pairwise_cons.mp hy
  have e:x=y:=by
   rcases mem_cons.mp ((h x).mp mem_cons_self) with e|e
   ·exact e
   ·rcases mem_cons.mp ((h y).mpr mem_cons_self) with e'|e'
    ·exact e'.symm
    ·have a1:=h2.1 x e
     have a2:=h1.1 y e'
     omega
  subst e
  rw[Vf h1.2 h2.2 λs=>?_]
  constructor
  ·intro hs
   rcases mem_cons.mp ((h s).mp (mem_cons_of_mem _ hs)) with e|e
   ·have:=h1.1 s hs;omega
   ·exact e
  ·intro hs
   rcases mem_cons.mp ((h s).mpr (mem_cons_of_mem _ hs)) with e|e
   ·have:=h2.1 s hs;omega
   ·exact e
theorem N7:∀{ks ns:LI},ks.Nodup->(∀z∈ks,z∈ns)->ks.length<=ns.length
 |[],_,_,_=>Nat.zero_le _
 |k::ks,ns,nd,h=>by
  obtain⟨a,b,e⟩:=List.append_of_mem (h k mem_cons_self)
  have nd':=nodup_cons.mp nd
  have q:=N7 (ks:=ks) (ns:=a++b) nd'.2 λz hz=>by
   have hm:=h z (mem_cons_of_mem _ hz)
   rw[e] at hm
   rcases mem_append.mp hm with m|m
   ·exact mem_append.mpr (.inl m)
   ·rcases mem_cons.mp m with m|m
    ·exact absurd (m▸hz) nd'.1
    ·exact mem_append.mpr (.inr m)
  rw[e,length_append,length_cons,length_cons]
  rw[length_append] at q
  omega
theorem X_:∀{ms:LI},ms.Pairwise (· <= ·)->ms.Nodup->ms.Pairwise (· < ·)
 |[],_,_=>.nil
 |m::ms,h,nd=>by
  have h1:=pairwise_cons.mp h
  have n1:=nodup_cons.mp nd
  refine pairwise_cons.mpr ⟨λx hx=>?_,X_ h1.2 n1.2⟩
  have a:=h1.1 x hx
  have b:m≠x:=λe=>n1.1 (e▸hx)
  omega
section
variable{K:PySem.W.Frag}{B:Bs}{sl:SL K}{md:Md}{t:TE}
theorem zNm(h:Ex B sl .hp t m):Eo B sl md (X8 (Ve K t)) (m.bind N5):=λc hc F O H σ Q s k=>by
 cases m with
 |none=>cases hc
 |some ns =>
  have hc:N5 ns=some c:=hc
  unfold N5 at hc
  split at hc
  case isFalse=>cases hc
  rename_i hl
  cases hc
  refine h ns rfl F O H σ _ s λv F' H' g r1=>?_
  obtain⟨p,vs,rfl,z1,z2⟩:=r1
  have z3:vs=ns.map V.int:=z2.vals
  subst z3
  refine⟨p,ns,rfl,aV.of z1,by omega,λks nd hm=>⟨Nat.lt_of_le_of_lt (N7 nd λz hz=>(hm z).mp hz) hl,λl ms hn p1 p2=>?_⟩⟩
  have e:ms=vN ns:=Vf (X_ p2 (p1.nodup_iff.mpr nd)) (N6 ns) λz=>by rw[p1.mem_iff,hm,bW]
  subst e
  exact k l _ F' H' g hn (Ed _)
end
end Ts
namespace lM
open PySem PySem.Spec PyProof.Rows
set_option maxRecDepth 100000
theorem zHb:entryFor table "set.__and__" = some Builtin.«frozenset.__and__»:=entryFor_alias (id':="frozenset.__and__") (by kernel_rfl) rfl (by decide +kernel) (by kernel_rfl)
section
variable{prog:Program}{w:World}{κ:Type}[DecidableEq κ]{knd:KeyKind prog w κ}{dec:Value->κ}{led:Bool}{A:Around}{E:Value->Shared->Prop}{s:Shared}
theorem Good.setOf(hdec:∀k v,knd.is k v=true->dec v=k)(g:Good knd dec led h a ks):h.SetOf knd a (λk=>decide (k∈ks)) ks.length:=by
 obtain⟨o,es,ep,t,h1,h2,h3,hel,hp,nd,hb,hf,tb⟩:=g
 refine⟨o,es,ep,t,h1,h2,h3,hel,λk=>?_,hb,hf,by rw[<-hp.length_eq,length_map,length_toList]⟩
 rw[decide_eq_true_iff,<-hp.mem_iff,mem_map]
 constructor
 ·rintro⟨e,he,rfl⟩
  obtain⟨⟨k',hk,_⟩,_⟩:=hel e he
  exact⟨e,he,by rw[hdec k' _ hk];exact hk⟩
 ·rintro⟨e,he,hk⟩
  exact⟨e,he,hdec _ _ hk⟩
theorem Good.size(g:Good knd dec led h a ks):∃o es ep t,h.get? a=some o/\o.ExactSet/\o.data=.set es ep t/\t.fits es.size=true/\es.size=ks.length/\Tb led t/\ElemsOf knd es.toList/\(es.toList.map λe=>dec e.2).Perm ks:=by
 obtain⟨o,es,ep,t,h1,h2,h3,hel,hp,nd,hb,hf,tb⟩:=g
 exact⟨o,es,ep,t,h1,h2,h3,hf,by rw[<-hp.length_eq,length_map,length_toList],tb,hel,hp⟩
theorem Good.type{s:Shared}(g:Good knd dec led s.heap a ks):s.TypeIs (.ref a) "set":=by
 obtain⟨o,_,_,_,h1,h2,_⟩:=g
 exact⟨o,h1,h2.1⟩
theorem Yb{Q:Bool->Shared->Prop}(hT:s.TypeIs (.ref a) "set")(h:Q true s):wpAny (model prog w) A (Builtin.Frozenset.isAnySet (.ref a)) Q E s:=by
 unfold Builtin.Frozenset.isAnySet
 refine wpAny_bind (wpAny_isInstance (T:="set") (b:=true) hT sub_set_self ?_)
 exact wpAny_pure h
theorem zOq{Q:Nat->Shared->Prop}(g:Good knd dec led s.heap a ks)(h:Q ks.length s):wpAny (model prog w) A (Builtin.Frozenset.sizeOf a) Q E s:=by
 obtain⟨o,es,ep,t,h1,h2,h3,hf,hl,_⟩:=g.size
 unfold Builtin.Frozenset.sizeOf
 refine wpAny_bind (Vb h1 h3 hf (wpAny_pure ?_))
 rw[hl]
 exact h
theorem zSn(sets:List Addr)(hs:∀a∈sets,∃ks:List κ,Good knd dec led s.heap a ks)(hn:∀k v,knd.is k v=true->∀b,v≠.ref b){Q:Bool->Shared->Prop}(h:Q true s):wpAny (model prog w) A (setsQuiet sets) Q E s:=by
 unfold setsQuiet
 refine wpAny_bind (wpAny_mono (wpAny_forIn_list (β:=Option Bool×Unit) _ (λl b s'=>s'=s/\b=(none,())/\∀a∈l,∃ks:List κ,Good knd dec led s.heap a ks) (λb s'=>s'=s/\b=(none,())) ?turn (λb s' hI=>⟨hI.1,hI.2.1⟩) sets _ ⟨rfl,rfl,hs⟩) ?post (λ_ _ h=>h))
 case post =>
  rintro b s' ⟨rfl,rfl⟩
  exact wpAny_pure h
 case turn =>
  rintro a rest b s' ⟨rfl,rfl,hg⟩
  obtain⟨ks,g⟩:=hg a mem_cons_self
  obtain⟨o,es,ep,t,h1,h2,h3,hf,hl,tb,hel,hp⟩:=g.size
  refine wpAny_bind (Vb h1 h3 hf ?_)
  rw[<-Array.forIn_toList]
  refine wpAny_bind (wpAny_mono (wpAny_forIn_list (β:=Option Bool×Unit) _ (λl b s''=>s''=s'/\b=(none,())/\∀e∈l,∀c,e.2≠.ref c) (λb s''=>s''=s'/\b=(none,())) ?t2 (λb s' hI=>⟨hI.1,hI.2.1⟩) es.toList _ ⟨rfl,rfl,?p0⟩) ?p2 (λ_ _ h=>h))
  case p0 =>
   intro e he c z
   obtain⟨⟨k,hk,_⟩,_⟩:=hel e he
   exact hn k _ hk c z
  case p2 =>
   rintro b s'' ⟨rfl,rfl⟩
   exact wpAny_pure ⟨rfl,rfl,λa ha=>hg a (mem_cons_of_mem _ ha)⟩
  case t2 =>
   rintro⟨hh,x⟩ l b s'' ⟨rfl,rfl,hl⟩
   have hx:=hl _ mem_cons_self
   dsimp only at hx ⊢
   split
   ·exact absurd rfl (hx _)
   ·exact wpAny_pure ⟨rfl,rfl,λe he=>hl e (mem_cons_of_mem _ he)⟩
theorem Fe(g:Good knd dec (yZ w) s.heap a ks)(hq:w.params.followText "set-order" = false->∀o es ep t,s.heap.get? a=some o->o.data=.set es ep t->(!t.plain&&decide (es.size > 1))=false){Q:Array (Int×Value)->Shared->Prop}(h:∀es:Array (Int×Value),ElemsOf knd es.toList->(es.toList.map λe=>dec e.2).Perm ks->Q es s):wpAny (model prog w) A (setWalk a) Q E s:=by
 obtain⟨o,es,ep,t,h1,h2,h3,hf,hl,tb,hel,hp⟩:=g.size
 unfold setWalk
 refine wpAny_bind (wpAny_setState_of h1 h3 hf ?_)
 dsimp only
 refine wpAny_bind (NT ?_)
 cases hb:w.params.followText "set-order" with
 |true =>
  simp only[↓reduceIte]
  refine wpAny_bind (wpAny_askSetting (wpAny_pure ?_))
  exact h _ (hel.perm (NQ _ es)) (((NQ _ es).map _).trans hp)
 |false =>
  have q:=hq hb o es ep t h1 h3
  have Yc:t.led=true:=by rw[tb.led];unfold yZ;rw[hb];rfl
  simp only[Bool.false_eq_true,↓reduceIte]
  show wpAny _ _ (if(!t.plain&&decide (es.size > 1))=true then _ else _) _ _ _
  rw[if_neg (by rw[q];exact Bool.false_ne_true)]
  refine wpAny_bind ?_
  show wpAny _ _ (if(!t.led&&decide (es.size > 1))=true then _ else pure ()) _ _ _
  rw[if_neg (by rw[Yc];exact Bool.false_ne_true)]
  exact wpAny_pure (wpAny_pure (h es hel hp))
theorem zN7(g:Good knd dec (yZ w) s.heap a ks)(gf:Good knd dec (yZ w) s.heap f kf)(hs:∀b∈others,∃ks:List κ,Good knd dec (yZ w) s.heap b ks)(hn:∀k v,knd.is k v=true->∀b,v≠.ref b){Q:Array (Int×Value)->Shared->Prop}(h:∀(es:Array (Int×Value)) (h':Heap),ElemsOf knd es.toList->(es.toList.map λe=>dec e.2).Perm ks->SameBut f s.heap h'->Good knd dec (yZ w) h' f kf->Q es { s with heap:=h' }):wpAny (model prog w) A (setWalkUnseen a others (some f)) Q E s:=by
 obtain⟨o,es,ep,t,h1,h2,h3,hf,hl,tb,hel,hp⟩:=g.size
 unfold setWalkUnseen
 refine wpAny_bind (wpAny_setState_of h1 h3 hf ?_)
 dsimp only
 refine wpAny_bind (NT ?_)
 split
 ·rename_i c
  refine Fe g (λhb o' es' ep' t' h1' h3'=>?_) λes' K5 hp'=>h es' s.heap K5 hp' (SameBut.refl f s.heap) gf
  rw[h1] at h1'
  cases h1'
  rw[h3] at h3'
  cases h3'
  rw[hb] at c
  simp only[Bool.false_or,Bool.or_eq_true,Bool.and_eq_true,decide_eq_true_eq] at c
  rcases c with⟨_,c⟩|c
  ·rw[c];rfl
  ·rw[decide_eq_false (by omega),Bool.and_false]
 ·refine wpAny_bind (zSn (knd:=knd) (dec:=dec) (led:=yZ w) (a::others) (λb hb=>(mem_cons.mp hb).elim (λe=>e▸⟨ks,g⟩) (hs b)) hn ?_)
  simp only[Bool.not_true,Bool.false_eq_true,↓reduceIte]
  refine wpAny_bind (wpAny_rule ?_)
  obtain⟨of,ef,epf,tf,f1,f2,f3,ff,fl,tbf,Yd,fp⟩:=gf.size
  refine wpAny_bind (wpAny_setState_of f1 f3 ff ?_)
  dsimp only
  split
  ·have gl:=gf.len
   refine wpAny_bind (wpAny_storeSet_of f1 f3 ?_ (fits_of_scanBound (by rw[fl];exact gl)))
   obtain⟨_,_,_,_,e1,_,_,_,_,nd,hb,_,_⟩:=gf
   refine wpAny_pure (h es _ hel hp (SameBut.update _ f _) ⟨_,ef,_,_,XQ (es':=ef) (t':=_) f1 f3,f2,rfl,Yd,fp,nd,?_,?_,?_⟩)
   ·rw[fl];exact gl
   ·exact ff
   ·refine⟨?_,λz=>?_⟩
    ·show(tf.led&&t.led)=_
     rw[tbf.led,tb.led,Bool.and_self]
    ·exact tbf.rz (Bool.and_eq_true_iff.mp z).1
  ·exact wpAny_pure (h es s.heap hel hp (SameBut.refl f s.heap) gf)
theorem zGh(hdec:∀k v,knd.is k v=true->dec v=k)(id:String)(hn:∀k v,knd.is k v=true->∀b,v≠.ref b)(hxr:x≠r)(hyr:y≠r)(gx:Good knd dec (yZ w) s.heap x ka)(gy:Good knd dec (yZ w) s.heap y ky)(gr:Good knd dec (yZ w) s.heap r []){Q:Unit->Shared->Prop}(h:∀(h':Heap) (kr:List κ),SameBut r s.heap h'->Good knd dec (yZ w) h' r kr->(∀k,k∈kr↔k∈ka/\k∈ky)->Q () { s with heap:=h' }) :
  wpAny (model prog w) A (do
   let was <-setEpoch y
   for (h,x') in <-setWalkUnseen y [x,r] (some r) do
    holding [x'] do
     if(<-setFind x x' h).isSome then
      let _ <-setAddHashed r x' h
    Builtin.Frozenset.unchanged id y was) Q E s:=by
 obtain⟨o,es,ep,t,h1,h2,h3,hf,hl,tb,hel,hp⟩:=gy.size
 refine wpAny_bind (wpAny_setEpoch_of h1 h3 hf ?_)
 refine wpAny_bind (zN7 gy gr (λb hb=>(mem_cons.mp hb).elim (λe=>e▸⟨ka,gx⟩) λe=>(mem_singleton.mp e)▸⟨[],gr⟩) hn λes' h' K5 hp' sb gr'=>?_)
 rw[<-Array.forIn_toList]
 have ln:es'.toList.length=ky.length:=by rw[<-hp'.length_eq,length_map]
 refine wpAny_bind (wpAny_mono (wpAny_forIn_list (β:=Unit) _ (λl _ s'=>∃h2 kr,s'={ s with heap:=h2 }/\SameBut r s.heap h2/\Good knd dec (yZ w) h2 r kr/\ElemsOf knd l/\kr.length+l.length<=ky.length/\∀k,(k∈kr\/(k∈ka/\k∈l.map λe=>dec e.2))↔(k∈ka/\k∈ky)) (λ_ s'=>∃h2 kr,s'={ s with heap:=h2 }/\SameBut r s.heap h2/\Good knd dec (yZ w) h2 r kr/\∀k,k∈kr↔k∈ka/\k∈ky) ?turn ?fin es'.toList () ⟨h',[],rfl,sb,gr',K5,by rw[ln,length_nil];omega,λk=>?_⟩) ?post (λ_ _ h=>h))
 case turn =>
  rintro⟨hs,v⟩ l b s' ⟨h2,kr,rfl,Ih,g2,hl2,hlen,hm⟩
  obtain⟨⟨k,hk,hh⟩,hsc⟩:=hl2 _ mem_cons_self
  dsimp only at hk hh hsc ⊢
  subst hh
  have kx:∀o,s.heap.get? x=some o->h2.get? x=some o:=λo e=>by rw[Ih.2 x hxr];exact e
  have ky':∀o,s.heap.get? y=some o->h2.get? y=some o:=λo e=>by rw[Ih.2 y hyr];exact e
  have gx2:=gx.keep kx
  have dv:dec v=k:=hdec k v hk
  rw[length_cons] at hlen
  have cont:∀(h3':Heap)(Rv:List κ),SameBut r s.heap h3'->Good knd dec (yZ w) h3' r Rv->Rv.length+l.length<=ky.length->(∀c,(c∈Rv\/(c∈ka/\c∈l.map λe=>dec e.2))↔(c∈ka/\c∈ky)) ->
    wpAny (model prog w) A (Builtin.Frozenset.unchanged id y ep) (λ_ s''=>wpAny (model prog w) A (pure (ForInStep.yield ())) (λq s''=>match q with|.yield _=>∃h2 kr,s''={ s with heap:=h2 }/\SameBut r s.heap h2/\Good knd dec (yZ w) h2 r kr/\ElemsOf knd l/\kr.length+l.length<=ky.length/\∀k,(k∈kr\/(k∈ka/\k∈l.map λe=>dec e.2))↔(k∈ka/\k∈ky)|.done _=>∃h2 kr,s''={ s with heap:=h2 }/\SameBut r s.heap h2/\Good knd dec (yZ w) h2 r kr/\∀k,k∈kr↔k∈ka/\k∈ky) E s'') E { s with heap:=h3' }:=λh3' Rv Vg g3 l3 m3=>by
   unfold Builtin.Frozenset.unchanged
   refine wpAny_bind (wpAny_setEpoch_of (s:={ s with heap:=h3' }) (by show h3'.get? y=_;rw[Vg.2 y hyr];exact h1) h3 hf ?_)
   simp only[bne_self_eq_false,Bool.false_eq_true,↓reduceIte]
   exact wpAny_pure (wpAny_pure ⟨h3',Rv,rfl,Vg,g3,λe he=>hl2 e (mem_cons_of_mem _ he),l3,m3⟩)
  refine wpAny_bind (wpAny_holding (wpAny_bind (wpAny_setFind_of (s:={ s with heap:=h2 }) hk hsc (gx2.setOf hdec) λq hq=>?_)))
  cases q with
  |none =>
   have nk:k∉ka:=by simpa using hq.symm
   simp only[Option.isSome_none,Bool.false_eq_true,↓reduceIte]
   refine wpAny_pure (wpAny_bind (cont h2 kr Ih g2 (by omega) λc=>?_))
   rw[<-hm c,map_cons,mem_cons]
   show _↔(c∈kr\/c∈ka/\(c=dec v\/_))
   rw[dv]
   constructor
   ·rintro(z|⟨z1,z2⟩)
    ·exact .inl z
    ·exact .inr ⟨z1,.inr z2⟩
   ·rintro(z|⟨z1,z2|z2⟩)
    ·exact .inl z
    ·exact absurd (z2▸z1) nk
    ·exact .inr ⟨z1,z2⟩
  |some j =>
   have mk:k∈ka:=by simpa using hq.symm
   simp only[Option.isSome_some,↓reduceIte]
   refine wpAny_bind (zU5 (led:=yZ w) (s:={ s with heap:=h2 }) hdec hk hsc g2 (by have:=gy.len;omega) λh3' b' Vg g3=>?_)
   refine wpAny_pure (wpAny_bind (cont h3' _ (Ih.trans Vg) g3 ?_ λc=>?_))
   ·split
    ·omega
    ·rw[length_cons];omega
   ·rw[<-hm c,map_cons,mem_cons]
    show _↔(c∈kr\/c∈ka/\(c=dec v\/_))
    rw[dv]
    have e:c∈(if k∈kr then kr else k::kr)↔c=k\/c∈kr:=by
     split
     ·rename_i z
      exact⟨.inr,λq=>q.elim (λq=>q▸z) λq=>q⟩
     ·exact mem_cons
    rw[e]
    constructor
    ·rintro((z|z)|⟨z1,z2⟩)
     ·exact .inr ⟨z▸mk,.inl z⟩
     ·exact .inl z
     ·exact .inr ⟨z1,.inr z2⟩
    ·rintro(z|⟨z1,z2|z2⟩)
     ·exact .inl (.inr z)
     ·exact .inl (.inl z2)
     ·exact .inr ⟨z1,z2⟩
 case fin =>
  rintro b s' ⟨h2,kr,rfl,Ih,g2,_,_,hm⟩
  refine⟨h2,kr,rfl,Ih,g2,λk=>?_⟩
  rw[<-hm k]
  simp
 case post =>
  rintro b s' ⟨h2,kr,rfl,Ih,g2,hm⟩
  exact wpAny_pure (h h2 kr Ih g2 hm)
 ·rw[hp'.mem_iff]
  simp
theorem Fg(hT:s.TypeIs (.ref a) "set"){Q:Value->Shared->Prop}(h:Q (.type "set") s):wpAny (model prog w) A (Builtin.Frozenset.baseOf a) Q E s:=by
 unfold Builtin.Frozenset.baseOf
 refine wpAny_bind (wpAny_isInstance (T:="set") (b:=true) hT sub_set_self ?_)
 exact wpAny_pure h
theorem zPt{Q:Value->Shared->Prop}(h:Q (.ref s.heap.objs.size) { s with heap:=s.heap.push { cls:=.type "set",dict:=none,data:=.set #[] 0 (.fresh 0 0 (yZ w)) } }):wpAny (model prog w) A (newSet (.type "set")) Q E s:=by
 unfold newSet setsByText
 refine wpAny_bind (wpAny_bind (wpAny_askSetting (wpAny_pure ?_)))
 dsimp only
 simp only[newObj]
 exact wpAny_bind (wpAny_alloc (wpAny_pure h))
theorem zTe(hdec:∀k v,knd.is k v=true->dec v=k)(id:String)(hn:∀k v,knd.is k v=true->∀b,v≠.ref b)(hab:b≠a)(ga:Good knd dec (yZ w) s.heap a ka)(gb:Good knd dec (yZ w) s.heap b kb){Q:Value->Shared->Prop}(h:∀(h':Heap) (kr:List κ),Good knd dec (yZ w) h' s.heap.objs.size kr->(∀k,k∈kr↔k∈ka/\k∈kb)->(∀c o,c<s.heap.objs.size->s.heap.get? c=some o->h'.get? c=some o)->Q (.ref s.heap.objs.size) { s with heap:=h' }) :
  wpAny (model prog w) A (Builtin.Frozenset.intersection id a (.ref b)) Q E s:=by
 have la:a<s.heap.objs.size:=by obtain⟨o,_,_,_,h1,_⟩:=ga;exact lt_size h1
 have lb:b<s.heap.objs.size:=by obtain⟨o,_,_,_,h1,_⟩:=gb;exact lt_size h1
 unfold Builtin.Frozenset.intersection
 rw[if_neg (λe=>hab (Value.ref.inj (eq_of_beq e)))]
 refine wpAny_bind (Fg ga.type (wpAny_bind (zPt ?_)))
 refine wpAny_bind (wpAny_pure ?_)
 have up:∀c o,s.heap.get? c=some o->(s.heap.push { cls:=.type "set",dict:=none,data:=.set #[] 0 (.fresh 0 0 (yZ w)) }).get? c=some o:=λc o e=>get?_push_of_some _ e
 have Vh:=ga.keep (up a)
 have Rw:=gb.keep (up b)
 have Ye:Good knd dec (yZ w) (s.heap.push { cls:=.type "set",dict:=none,data:=.set #[] 0 (.fresh 0 0 (yZ w)) }) s.heap.objs.size []:=zL3 (get?_push_size _ rfl)
 generalize hp:s.heap.push { cls:=.type "set",dict:=none,data:=.set #[] 0 (.fresh 0 0 (yZ w)) }=hq at up Vh Rw Ye ⊢
 have fin:∀(h':Heap)(kr:List κ),SameBut s.heap.objs.size hq h'->Good knd dec (yZ w) h' s.heap.objs.size kr->(∀k,k∈kr↔k∈ka/\k∈kb)->Q (.ref s.heap.objs.size) { s with heap:=h' }:=λh' kr sb g m =>
  h h' kr g m λc o hc e=>by rw[sb.2 c (Nat.ne_of_lt hc)];exact up c o e
 refine wpAny_bind (wpAny_holding (wpAny_bind (Yb (s:={ s with heap:=hq }) (Good.type (s:={ s with heap:=hq }) Rw) ?_)))
 simp only[↓reduceIte]
 refine wpAny_bind (wpAny_pure ?_)
 refine wpAny_bind (zOq (s:={ s with heap:=hq }) Rw (wpAny_bind (zOq (s:={ s with heap:=hq }) Vh ?_)))
 split
 ·exact zGh (s:={ s with heap:=hq }) hdec id hn (Nat.ne_of_lt lb) (Nat.ne_of_lt la) Rw Vh Ye λh' kr sb g m=>wpAny_pure (fin h' kr sb g λk=>by rw[m k,and_comm])
 ·exact zGh (s:={ s with heap:=hq }) hdec id hn (Nat.ne_of_lt la) (Nat.ne_of_lt lb) Vh Rw Ye λh' kr sb g m=>wpAny_pure (fin h' kr sb g m)
theorem K6(hdec:∀k v,knd.is k v=true->dec v=k)(hn:∀k v,knd.is k v=true->∀b,v≠.ref b)(hab:b≠a)(ga:Good knd dec (yZ w) s.heap a ka)(gb:Good knd dec (yZ w) s.heap b kb){Q:Value->Shared->Prop}(h:∀(h':Heap) (kr:List κ),Good knd dec (yZ w) h' s.heap.objs.size kr->(∀k,k∈kr↔k∈ka/\k∈kb)->(∀c o,c<s.heap.objs.size->s.heap.get? c=some o->h'.get? c=some o)->Q (.ref s.heap.objs.size) { s with heap:=h' }) :
  wpAny (model prog w) A (binaryOp .BitAnd (.ref a) (.ref b)) Q E s:=by
 refine wpAny_binaryOp_same (op:=.BitAnd) (T:="set") ga.type gb.type F.fills_set_and F.slot_set_and (wpAny_call_entry F.slot_set_and ga.type zHb ?_ (F.args_set_and_2 _ _))
 refine wpAny_bind (m:=Builtin.Frozenset.slot1 "__and__" ⟨[.ref a,.ref b],[]⟩) ?_
 unfold Builtin.Frozenset.slot1 slotArgs
 refine wpAny_pure ?_
 dsimp only
 refine wpAny_bind (wpAny_bind (Yb ga.type ?_))
 refine Yb gb.type ?_
 simp only[Bool.not_true,Bool.false_eq_true,↓reduceIte]
 refine wpAny_bind (wpAny_pure (wpAny_bind (zTe hdec _ hn hab ga gb λh' kr g m k=>wpAny_pure ⟨.ref s.heap.objs.size,rfl,?_,h h' kr g m k⟩)))
 exactλz=>Value.noConfusion z
end
end lM
namespace L2
open PySem PySem.Spec PyProof.Rows lM
section
variable{X:Cx}
def Ii(ta tb:Rq):Rq:=λσ H Q=>ta σ H λks H1=>tb σ H1 λjs H2=>∀rs:LI,rs.Nodup->(∀z,z∈rs↔z∈ks/\z∈js)->Q rs H2
theorem Fi(ha:Ru X a ta)(hb:Ru X b tb):Ru X (.BinOp a .BitAnd b pos) (Ii ta tb):=by
 intro pins s σ H Q I h
 refine wpAny_BinOp (aJ (ha pins s σ H _ I h) λu s1 ⟨p,ks,H1,e,I1,g,fo,h1⟩=>?_)
 subst e
 obtain⟨o,es,ep,t,go,gx,gd,_⟩:=id g
 have I1':=I1.pinned (fp:=[p]) (λb hb=>by rw[mem_singleton.mp hb];exact fo) (λb hb=>by
  rw[mem_singleton.mp hb]
  exact⟨o,go,λv z=>by rw[gd] at z;cases z⟩)
 refine aJ (hb _ s1 σ H1 _ I1' h1) λu2 s2 ⟨p2,js,H2,e2,I2,g2,fo2,q2⟩=>?_
 subst e2
 have pm:(p,o)∈X.pn++(pins++Nf [p] s1.heap):=mem_append_right _ (mem_append_right _ (P_ (mem_singleton.mpr rfl) go))
 have kp:s2.heap.get? p=some o:=(I2.pin (p,o) pm).1
 have g1:=g.keep (h':=s2.heap) λo' e'=>by rw[go] at e';cases e';exact kp
 have ne:p2≠p:=Ne.symm (fo2.2.2.2.2.2 (p,o) pm)
 have I3:=I2.jw
 refine K6 zUx (λk v hk b z=>?_) ne g1 g2 λh' kr g3 m k=>?_
 ·obtain⟨t,rfl⟩:=Value.isInt_shape hk
  cases z
 ·have I4:=I3.kept (h':=h') (t':=s2.toks) λb o e=>k b o (lt_size e) e
  obtain⟨_,_,_,_,_,_,_,_,_,nd,_⟩:=id g3
  exact⟨_,kr,H2,rfl,I4,g3,I3.oA (Nat.le_refl _) (I3.hok.fresh (Nat.le_refl _)),q2 kr nd m⟩
end
end L2
namespace Ts
open PySem L2
def Vi(ns ms:LI):Option LI:=if(ns.length<64\/ms.length<64)/\ns.length<4000/\ms.length<4000 then some (vN (ns.filter λz=>decide (z∈ms))) else none
section
variable{K:PySem.W.Frag}{B:Bs}{sl:SL K}{md:Md}{t1 t2:TE}
theorem zNn(h1:Ex B sl .hp t1 m1)(h2:Ex B sl .hp t2 m2):Eo B sl md (X8 (Ii (Ve K t1) (Ve K t2))) (m1.bind λa=>m2.bind λb=>Vi a b):=λc hc F O H σ Q s k=>by
 obtain⟨ns,ms,ha,hb,hf⟩:=m6 hc
 unfold Vi at hf
 split at hf
 case isFalse=>cases hf
 rename_i hl
 cases hf
 refine h1 ns ha F O H σ _ s λv F' H' g r1=>?_
 obtain⟨p,vs,rfl,z1,z2⟩:=r1
 have z3:vs=ns.map V.int:=z2.vals
 subst z3
 refine⟨p,ns,rfl,aV.of z1,hl.2.1,λks nd hm=>?_⟩
 refine h2 ms hb F' O H' σ _ (s.grow g) λw F2 H2 g2 r2=>?_
 obtain⟨p',vs',rfl,y1,y2⟩:=r2
 have y3:vs'=ms.map V.int:=y2.vals
 subst y3
 refine⟨p',ms,rfl,aV.of y1,hl.2.2,λjs jd hj rs rd hr=>⟨hl.1.elim (Nat.lt_of_le_of_lt (N7 rd λz hz=>(hm z).mp ((hr z).mp hz).1)) (Nat.lt_of_le_of_lt (N7 rd λz hz=>(hj z).mp ((hr z).mp hz).2)),λl us hn p1 p2=>?_⟩⟩
 have e:us=vN (ns.filter λz=>decide (z∈ms)):=Vf (X_ p2 (p1.nodup_iff.mpr rd)) (N6 _) λz=>by rw[p1.mem_iff,hr,hm,hj,bW,mem_filter,decide_eq_true_iff]
 subst e
 exact k l _ F2 H2 (g.trans g2) hn (Ed _)
end
end Ts
namespace L2
open PySem PySem.Spec PyProof.Rows
section
variable{X:Cx}
theorem Ij:T7 X .BitOr (T8 λi j=>Builtin.bitOr i j):=by
 intro pins s σ H x y v u Q I r1 r2 h
 obtain⟨i,j,e1,e2,q⟩:=h
 subst e1;subst e2
 obtain⟨t,rfl⟩:=r1
 obtain⟨t',rfl⟩:=r2
 exact ior_int ⟨.int _,H,I.tok _,⟨_,rfl⟩,q⟩
def Ik(K:PySem.W.Frag):V->V->Hp->VK->Prop:=λx y H Q=>∃p xs i v,x=.ref p/\y=.int i/\0<=i/\aV K H p xs/\aH xs i=some v/\Q v H
theorem zQi(K:PySem.W.Frag)(h:X.K=K:=by rfl):PX X (Ik K):=by
 subst h
 intro pins s σ H o i ov iv Q I rx ry h
 obtain⟨p,xs,i,z,rfl,rfl,h0,hq,he,q⟩:=h
 cases rx
 obtain⟨t,rfl⟩:=ry
 obtain⟨its,r,pl,hz⟩:=I.list hq
 obtain⟨j,h1,h2,h3,h4,h5⟩:=Wz he
 obtain⟨w,ew,JN⟩:=r.get h2
 have hl:=r.length
 have hn:=Hl
 have hj:i.toNat=j:=by
  rw[seqIndex_of h0 h5] at h1
  exact Option.some.inj h1
 exact wpAny_getItem_list pl.isList h0 (by omega) (by rw[hj];simpa using ew) ⟨z,H,I,JN,q⟩
theorem Yg(K:PySem.W.Frag)(ha:PE X a ta)(hK:X.K=K:=by rfl)(he:∀whole,isTrue a X.env whole=(do let v <-whole;standAt a.pos;holding [v] (truthy v)):=by intro _;rfl) :
  PT X a (λσ H Q=>ta σ H λx H'=>∃k,CT K x H' k/\Q k H'):=by
 subst hK
 exact zSo ha he
def tLR(ta:TA):TE:=λσ H Q=>ta σ H λvs H1=>∃j:Int,vs=[.int j] /\ -(2^62)<=j/\j<1000000/\∀l,H1 l=none->Q (.ref l) (upd H1 l (.lst (((List.range j.toNat).map Int.ofNat).map V.int)))
theorem Fj{acc:List Value}:∀{ns:LI},acc.length=ns.length->(∀(i:Nat)(v:Value),acc[i]?=some v->∃t:Tok,v=Value.int (ns.getD i 0) t)->IntsAre acc ns:=by
 induction acc with
 |nil =>
  intro ns h _
  cases ns with
  |nil=>exact .nil
  |cons n ns=>simp at h
 |cons v acc ih =>
  intro ns h g
  cases ns with
  |nil=>simp at h
  |cons n ns =>
   obtain⟨t,e⟩:=g 0 v rfl
   subst e
   exact .cons n t (ih (by simpa using h) λi v hv=>g (i+1) v hv)
theorem zLp(hc:X.calm=true)(hg:Gl X "list")(hm:X.mg "list" = none)(hg2:Gl X "range")(hm2:X.mg "range" = none)(ha:PA X [a] ta)(hs:starEach [a] X.env=[(false,eval a X.env)]:=by rfl)(hs2:starEach [Expr.Call (.Name "range" p2) [a] [] pos2] X.env=[(false,eval (Expr.Call (.Name "range" p2) [a] [] pos2) X.env)]:=by rfl):PE X (.Call (.Name "list" p) [.Call (.Name "range" p2) [a] [] pos2] [] pos) (tLR ta):=by
 intro pins s σ H Q I h
 refine wpAny_Call_Name_kw (yg I hg hm (by decide +kernel:bootBuiltins "list" = some (.type "list")) ?_)
 refine PyProof.Rows.callWith_type1 ?_ hs2 rfl
 rw[hs2]
 show wpAny _ _ (spliced ((false,eval (Expr.Call (.Name "range" p2) [a] [] pos2) X.env)::backTo pos [])) _ _ s
 refine Calls.spliced_cons (wpAny_Call_Name_kw (yg I hg2 hm2 boot_range (PyProof.Rows.callWith_type1 (aJ (ha pos2 pins s σ H _ I h) λus s1 ⟨vs,H1,I1,r1,q1⟩=>?_) hs rfl)))
 obtain⟨j,e,q1,q2,q⟩:=q1
 subst e
 cases r1 with
 |cons r rr =>
  cases rr
  obtain⟨t,rfl⟩:=r
  refine call_range_1 (Calls.spliced_nil ?_)
  have I2:Inv X pins σ H1 { s1 with heap:=s1.heap.push { cls:=.type "range",data:=.fields #[.int 0 s1.toks,.int j t,.int 1 (s1.toks+1)] },toks:=s1.toks+1+1 }:=I1.kept λb o e=>get?_push_of_some _ e
  refine call_list_range (n:=j.toNat) (I2.ok.hd hc) (IsRange.new ..) (small_one (by omega) (by omega) q1 (by omega)) (by rw[rangeSize_one];split<;>omega) (by omega) λh' tk acc' c' hk hS hacc=>?_
  have hI:IntsAre acc'.toList ((List.range j.toNat).map Int.ofNat):=Fj (by rw[length_toList,hacc.1,length_map,length_range]) λi v hv=>by
   rw[getElem?_toList] at hv
   obtain⟨t',rfl⟩:=hacc.2 i v hv
   have hi:i<j.toNat:=by
    have:=(Array.getElem?_eq_some_iff.mp hv).1
    rw[hacc.1] at this
    exact this
   refine⟨t',?_⟩
   have e:((List.range j.toNat).map Int.ofNat).getD i 0=(i:Int):=by
    rw[getD_eq_getElem?_getD,getElem?_map,getElem?_range hi]
    rfl
   rw[e]
   simp
  refine⟨.ref _,_,I2.laid (h':=h') (t':=tk) (o:=.lst (((List.range j.toNat).map Int.ofNat).map V.int)) (λb ob w=>hk b ob w) (Nat.le_refl _) ?_,rfl,q _ (I2.hok.fresh (Nat.le_refl _))⟩
  refine⟨?_,acc'.toList,c',uD hI,?_⟩
  ·rw[length_map,length_map,length_range]
   exact Nat.le_trans (show j.toNat<=1000000 by omega) (by decide)
  ·rw[toArray_toList];exact hS
end
end L2
namespace Ts
open PySem L2
def tY(a b:Int):Option Int:=if 0<=b/\b<=1000000/\a.natAbs<2^64 then some (a*2^b.toNat) else none
def iY(a b:Int):Option Int:=if 0<=b then some (a/2^b.toNat) else none
section
variable{K:PySem.W.Frag}{B:Bs}{sl:SL K}{md:Md}{t t1 t2 te:TE}{m1 m2:Option Int}
theorem Rx(h1:Ex B sl .hp t1 m1)(h2:Ex B sl .hp t2 m2):Ex B sl md (dN (pJ λi j=>.int (Builtin.bitAnd i j)) t1 t2) (m1.bind λa=>m2.bind λb=>some (Builtin.bitAnd a b)):=Nu (λ_ _=>rfl) h1 h2
theorem K7(h1:Ex B sl .hp t1 m1)(h2:Ex B sl .hp t2 m2):Ex B sl md (dN (rI CN λi j=>.int (i*2^j.toNat)) t1 t2) (m1.bind λa=>m2.bind λb=>tY a b) :=
 tV (f:=tY) (λa b c v w H Q e r1 r2 q=>by
  unfold tY at e
  split at e
  case isFalse=>cases e
  rename_i hc
  cases e;cases r1;cases r2
  exact⟨a,b,rfl,rfl,hc,q⟩) h1 h2
theorem Vj(h1:Ex B sl .hp t1 m1)(h2:Ex B sl .hp t2 m2):Ex B sl md (dN (rI (λ_ j=>0<=j) λi j=>.int (i/2^j.toNat)) t1 t2) (m1.bind λa=>m2.bind λb=>iY a b) :=
 tV (f:=iY) (λa b c v w H Q e r1 r2 q=>by
  unfold iY at e
  split at e
  case isFalse=>cases e
  rename_i hc
  cases e;cases r1;cases r2
  exact⟨a,b,rfl,rfl,hc,q⟩) h1 h2
theorem Yh{m:Option Int}(h:Ex B sl .hp t m):Et B sl (λσ H Q=>t σ H λx H'=>∃k,CT K x H' k/\Q k H') (m.bind λi=>some (i != 0)):=λc hc F O H σ Q s k=>by
 cases m with
 |none=>cases hc
 |some i =>
  cases(show some (i != 0)=some c from hc)
  refine h i rfl F O H σ _ s λv F' H' g r=>?_
  cases r
  exact⟨_,rfl,k F' H' g⟩
def Fo(n:Int):Option LI:=if -(2^62)<=n/\n<1000000 then some ((List.range n.toNat).map Int.ofNat) else none
theorem zL7(h:Ex B sl .hp t m):Eo B sl md (tLR (xG t bF)) (m.bind Fo):=λc hc F O H σ Q s k=>by
 cases m with
 |none=>cases hc
 |some n =>
  have hc:Fo n=some c:=hc
  unfold Fo at hc
  split at hc
  case isFalse=>cases hc
  rename_i hl
  cases hc
  refine h n rfl F O H σ _ s λv F' H' g r1=>?_
  cases r1
  exact⟨n,rfl,hl.1,hl.2,λl hn=>k l _ F' H' g hn (Ed _)⟩
def qO(xs ys:LI):Option LI:=if xs.length+ys.length<cap then some (xs++ys) else none
theorem zIm(i:Nat)(hs:sl[i]?=some (.ow n xs))(hh:sl.all (λs=>!oF s)=true)(h:Ex B sl .hp te m) :
  Sn B sl (Hf (Nk K "list" zO2 (dh i) (xG te bF))) (λys=>sl.set i (.ow n ys)) (m.bind λa=>qO xs a):=λys ha G D σ H s k=>by
 cases m with
 |none=>cases ha
 |some a =>
  have ha':qO xs a=some ys:=ha
  unfold qO at ha'
  split at ha'
  case isFalse=>cases ha'
  rename_i hl
  cases ha'
  obtain⟨F,O,g,z⟩:=s
  obtain⟨p,vs,h1,h2,h3,_⟩:=z.chg hs hh
  refine⟨_,h1,.inl ⟨rfl,_,aV.of h2⟩,?_⟩
  refine h a rfl F O H σ _ z λv F' H' gr r=>?_
  obtain⟨p',vs',h1',h2',h3',h4'⟩:=(z.grow gr).chg hs hh
  have e:=h1.symm.trans h1'
  cases e
  obtain⟨q,us,rfl,z1,z2⟩:=r
  have z3:us=a.map V.int:=z2.vals
  subst z3
  have e3:vs'=xs.map V.int:=h3'.vals
  subst e3
  obtain⟨O',z'⟩:=h4' (xs.map V.int++a.map V.int) (xs++a) (by rw[<-map_append];exact Ed _)
  exact⟨p,q,_,_,rfl,rfl,h2',z1,by rw[length_map,length_map];exact Nat.le_of_lt (Hw hl),k _ _ ⟨F',O',g.trans gr.ff,z'⟩⟩
def Fp(f:Int->Int->Int)(xs:LI)(ix:Int)(y:Int):Option LI:=if 0<=ix then(L2.aH xs ix).bind λx=>rY xs ix (f x y) else none
theorem zSd(i:Nat)(hs:sl[i]?=some (.ow n xs))(hh:sl.all (λs=>!oF s)=true)(hi:Ex B sl .hp ti mi)(hv:Ex B sl .hp te m) :
  Sn B sl (Hg (dh i) ti te (Ik K) (T8 f) zc) (λys=>sl.set i (.ow n ys)) (mi.bind λk=>m.bind λa=>Fp f xs k a):=λys ha G D σ H s k=>by
 obtain⟨ix,a,e1,e2,ha'⟩:=m6 ha
 unfold Fp at ha'
 split at ha'
 case isFalse=>cases ha'
 rename_i h0
 obtain⟨x,ex,ha'⟩:=Option.bind_eq_some_iff.mp ha'
 obtain⟨F,O,g,z⟩:=s
 obtain⟨p,vs,h1,h2,h3,_⟩:=z.chg hs hh
 refine⟨_,h1,?_⟩
 refine hi ix e1 F O H σ _ z λv F' H' gr r=>?_
 cases r
 obtain⟨p',vs',h1',h2',h3',h4'⟩:=(z.grow gr).chg hs hh
 have e:=h1.symm.trans h1'
 cases e
 obtain⟨xv,exv,rx⟩:=h3'.aH ex
 have rx:xv=.int x:=Sc.is.mp rx
 subst rx
 refine⟨p,vs',ix,_,rfl,rfl,h0,aV.of h2',exv,?_⟩
 refine hv a e2 F' O H' σ _ (z.grow gr) λw F2 H2 sy rw=>?_
 cases rw
 obtain⟨p2,vs2,y1,y2,y3,y4⟩:=((z.grow gr).grow sy).chg hs hh
 have e:=h1.symm.trans y1
 cases e
 refine⟨x,a,rfl,rfl,?_⟩
 unfold rY at ha'
 cases ej:qK xs.length ix with
 |none=>rw[ej] at ha';cases ha'
 |some jj =>
  rw[ej] at ha'
  cases ha'
  obtain⟨O',z'⟩:=y4 (vs2.set jj (.int (f x a))) (xs.set jj (f x a)) (y3.set (Sc.is.mpr rfl) jj)
  exact⟨p,vs2,ix,jj,rfl,rfl,y2,by rw[y3.len,ej],k _ _ ⟨F2,O',(g.trans gr.ff).trans sy.ff,z'⟩⟩
end
section
variable{K:PySem.W.Frag}{B:Bs}{sl:SL K}{F H H2:Hp}{O:Own}{σ:St}{te:TE}
end
section
variable{K:PySem.W.Frag}{B:Bs}{sl sl2:SL K}{G F H:Hp}{O:Own}{σ:St}{te:TE}
inductive Yi{α:Type}[Rp K α](kvs:List (Key×α)):SL K->SL K->Prop
 |here {a:SL K}:Yi kvs (.od kvs::a) (.fz false (Dc.mk kvs)::a)
 |skip {s:Slot K} {a b:SL K}:Yi kvs a b->Yi kvs (s::a) (s::b)
end
section
variable{K:PySem.W.Frag}{B:Bs}{sl:SL K}{md:Md}{t t2:TE}{α β:Type}[Rp K α][Rp K β]
theorem zTn{m:Option (Dc (Option Int))}{m2:Option Int}(h:Ex B sl .hp t m)(h2:Ex B sl .hp t2 m2):Ex B sl md (zUb t t2) (m.bind λd=>m2.bind λk=>some ((bU d.kv k).getD none)):=λc hc F O H σ Q s kk=>by
 obtain⟨d,k,e1,e2,e3⟩:=m6 hc
 cases e3
 refine h d e1 F O H σ _ s λv F' H' g r1=>?_
 obtain⟨p,ks,rfl,z1,z2⟩:=r1
 refine⟨p,rfl,.inl ⟨ks,.inl z1⟩,?_⟩
 refine h2 k e2 F' O H' σ _ (s.grow g) λw F2 H2 g2 r2=>?_
 cases r2
 have dg:=kY.k (k:=Sum.inl k) (g2.hh _ _ z1)
 refine⟨_,dg,?_⟩
 rcases z2.val (k:=Sum.inl k) with⟨q1,q2⟩|⟨a,v,q1,q2,q3⟩
 ·rw[q2]
  have e:(bU d.kv k).getD none=none:=by show(gK d.kv (Sum.inl k)).getD none=none;rw[q1];rfl
  rw[e] at kk
  exact kk _ F2 H2 (g.trans g2) rfl
 ·rw[q2]
  have e:(bU d.kv k).getD none=a:=by show(gK d.kv (Sum.inl k)).getD none=a;rw[q1];rfl
  rw[e] at kk
  exact kk _ F2 H2 (g.trans g2) (QC q3)
theorem Ry:kitOne K (.type "tuple") (.type "tuple")=some true:=by
 first|rfl|(unfold kitOne PySem.W.kitCls;decide +kernel)
theorem zTx:bootBuiltins "tuple" = some (.type "tuple"):=by decide +kernel
end
end Ts
namespace L2
open PySem PySem.Spec PyProof.Rows
section
variable{prog:Program}{w:World}{A:Around}{R:Result->Shared->Prop}{It:Addr}{fp wr:List Addr}{n:Nat}{P:Nat->Value->Prop}{St:Nat->Heap->Prop}
theorem Vk:(toString "min" ++ toString ".loop":String) = "min.loop":=by decide
def RB(prog:Program)(w:World)(A:Around)(key:Value)(P:Nat->Value->Prop)(num:Nat->Int)(h0:Heap):Prop :=
 ∀i v,P i v->∀(s:Shared)(Q:Value->Shared->Prop)(E:Value->Shared->Prop),(∀b o,h0.get? b=some o->s.heap.get? b=some o) ->
  (∀t g tk,(∀b o,s.heap.get? b=some o->g.get? b=some o)->Q (.int (num i) t) { s with heap:=g,toks:=tk })->wpAny (model prog w) A (call key [v]) Q E s
abbrev iZ(num:Nat->Int):Nat->Nat->Bool:=λi j=>decide (num i<num j)
theorem RD(Wk:Walks prog w A.in1 It fp wr n P St)(ky:RB prog w A.in1 (.ref f) P num h0)(B:Addr)(nB:B∉fp)(hw0:∀b∈wr,h0.get? b=none)(Vl:h0.get? B=none) :
  ∀(k j:Nat)(s:Shared)(u:Value)(t:Tok)(c:Nat),n-(j+1)=k->j+1<=n->St (j+1) s.heap->P (argBest (iZ num) j) u->s.heap.get? B=some { cls:=.type "list",dict:=none,data:=.seq #[u,.int (num (argBest (iZ num) j)) t] c,slots:=#[] } ->
   (∀b o,h0.get? b=some o->s.heap.get? b=some o) ->
   (∀v g tk,P (argBest (iZ num) (n-1)) v->(∀b o,b∉wr->b≠B->s.heap.get? b=some o->g.get? b=some o)->R (.ok (.ret v)) { s with heap:=g,toks:=tk })->codeAny (model prog w) A (.builtin "min.loop" ⟨[.ref It,.ref f,.ref B],[]⟩) R s:=by
 have nW:B∉wr:=λz=>nB (Wk.sub _ z)
 intro k
 induction k with
 |zero =>
  intro j s u t c e1 e2 st pu hB k0 fin
  have e3:j+1=n:=by omega
  refine codeAny_builtin F.entry_min_loop (by
   rw[Around.under_plainId F.plain_min_loop _]
   refine(show wpAny _ A.in1 (seqItems? (.ref B) >>= _) _ _ s from wpAny_bind (wpAny_seqItems hB rfl ?_))
   refine(show wpAny _ A.in1 (tryCatch (pyNext (.ref It)) _ >>= _) _ _ s from wpAny_bind (wpAny_tryCatch (Wk.done s _ _ (e3▸st) λg tk kp=>?_)))
   refine(show wpAny _ A.in1 (updateSeq B (λ_=>#[]) >>= _) _ _ _ from wpAny_bind (wpAny_updateSeq (kp B _ nW hB) rfl (wpAny_bind (wpAny_letGo (wpAny_pure ?_)))))
   exact fin u _ tk (e3▸pu) λb o q1 q2 q3=>(get?_update_other _ _ (Ne.symm q2)).trans (kp b o q1 q3))
 |succ k ih =>
  intro j s u t c e1 e2 st pu hB k0 fin
  have e3:j+1<n:=by omega
  refine codeAny_builtin F.entry_min_loop (by
   rw[Around.under_plainId F.plain_min_loop _]
   refine(show wpAny _ A.in1 (seqItems? (.ref B) >>= _) _ _ s from wpAny_bind (wpAny_seqItems hB rfl ?_))
   refine(show wpAny _ A.in1 (tryCatch (pyNext (.ref It)) _ >>= _) _ _ s from wpAny_bind (wpAny_tryCatch (Wk.item (j+1) s _ _ e3 st λv g tk pv st2 kp=>?_)))
   have kg:∀b o,h0.get? b=some o->g.get? b=some o:=λb o e=>kp b o (λz=>by rw[hw0 b z] at e;cases e) (k0 b o e)
   refine(show wpAny _ A.in1 (tryCatch (holding [v] (call (.ref f) [v])) _ >>= _) _ _ _ from wpAny_bind (wpAny_tryCatch (wpAny_holding (ky (j+1) v pv _ _ _ kg λt2 g2 tk2 Cg=>?_))))
   have hB2:=Cg B _ (kp B _ nW hB)
   have k2:∀b o,b∉wr->s.heap.get? b=some o->g2.get? b=some o:=λb o q1 q2=>Cg b o (kp b o q1 q2)
   have st3:=Wk.frame _ _ _ st2 λb _ o q=>Cg b o q
   refine(show wpAny _ A.in1 (tryCatch (holding [v,.int (num (j+1)) t2] (richCompare .Lt (.int (num (j+1)) t2) (.int (num (argBest (iZ num) j)) t) >>= _)) _ >>= _) _ _ _ from wpAny_bind (wpAny_tryCatch (wpAny_holding (wpAny_bind ((CmpOf.ints_lt (P:=λi v=>∃t,v=.int (num i) t) num λ_ _ h=>h) (j+1) (argBest (iZ num) j) _ _ _ _ _ ⟨t2,rfl⟩ ⟨t,rfl⟩ ?_)))))
   refine wpAny_bind (wpAny_holding (wpAny_truthy_bool (wpAny_bind (wpAny_letGo (wpAny_pure ?_)))))
   cases hb:iZ num (j+1) (argBest (iZ num) j) with
   |true =>
    rw[if_pos (show(λi j=>decide (num i<num j)) (j+1) (argBest (iZ num) j)=true from hb)]
    refine wpAny_bind (wpAny_updateSeq hB2 rfl (wpAny_bind (wpAny_letGo ?_)))
    rw[Vk]
    have eA:argBest (iZ num) (j+1)=j+1:=by unfold argBest;rw[hb,if_pos rfl]
    refine wpAny_pure ⟨plainId_quiet F.plain_min_loop _,ih (j+1) _ v t2 _ (by omega) e3 (Wk.frame _ _ _ st3 λb q1 o q2=>(get?_update_other _ _ (λz:B=b=>nB (z▸q1))).trans q2) (by rw[eA];exact pv) (by rw[eA];exact get?_update_self _ hB2 rfl)
     (λb o e=>(get?_update_other _ _ (λz:B=b=>by rw[<-z,Vl] at e;cases e)).trans (Cg b o (kg b o e))) λv2 g3 t3 q1 q2=>fin v2 g3 t3 q1 λb o q3 q4 q5=>q2 b o q3 q4 ((get?_update_other _ _ (Ne.symm q4)).trans (k2 b o q3 q5))⟩
   |false =>
    rw[if_neg (show¬(λi j=>decide (num i<num j)) (j+1) (argBest (iZ num) j)=true fromλz=>by have z':iZ num (j+1) (argBest (iZ num) j)=true:=z;rw[hb] at z';cases z')]
    refine wpAny_bind (wpAny_letGo ?_)
    rw[Vk]
    have eA:argBest (iZ num) (j+1)=argBest (iZ num) j:=by show(if iZ num (j+1) (argBest (iZ num) j)=true then _ else _)=_;rw[hb,if_neg Bool.false_ne_true]
    refine wpAny_pure ⟨plainId_quiet F.plain_min_loop _,ih (j+1) _ u t c (by omega) e3 st3 (by rw[eA];exact pu) (by rw[eA];exact hB2) (λb o e=>Cg b o (kg b o e)) λv2 g3 t3 q1 q2=>fin v2 g3 t3 q1 λb o q3 q4 q5=>q2 b o q3 q4 (k2 b o q3 q5)⟩)
theorem K8(Wk:Walks prog w A.in1 It fp wr n P St)(ky:RB prog w A.in1 (.ref f) P num h0)(B:Addr)(nB:B∉fp)(hw0:∀b∈wr,h0.get? b=none)(Vl:h0.get? B=none)(hn:0<n){s:Shared}(st:St 0 s.heap)(hB:s.heap.get? B=some { cls:=.type "list",dict:=none,data:=.seq #[] c,slots:=#[] })(k0:∀b o,h0.get? b=some o->s.heap.get? b=some o)(fin:∀v g tk,P (argBest (iZ num) (n-1)) v->(∀b o,b∉wr->b≠B->s.heap.get? b=some o->g.get? b=some o)->R (.ok (.ret v)) { s with heap:=g,toks:=tk }):codeAny (model prog w) A (.builtin "min.loop" ⟨[.ref It,.ref f,.ref B],[]⟩) R s:=by
 have nW:B∉wr:=λz=>nB (Wk.sub _ z)
 refine codeAny_builtin F.entry_min_loop (by
  rw[Around.under_plainId F.plain_min_loop _]
  refine(show wpAny _ A.in1 (seqItems? (.ref B) >>= _) _ _ s from wpAny_bind (wpAny_seqItems hB rfl ?_))
  refine(show wpAny _ A.in1 (tryCatch (pyNext (.ref It)) _ >>= _) _ _ s from wpAny_bind (wpAny_tryCatch (Wk.item 0 s _ _ hn st λv g tk pv st2 kp=>?_)))
  have kg:∀b o,h0.get? b=some o->g.get? b=some o:=λb o e=>kp b o (λz=>by rw[hw0 b z] at e;cases e) (k0 b o e)
  refine(show wpAny _ A.in1 (tryCatch (holding [v] (call (.ref f) [v])) _ >>= _) _ _ _ from wpAny_bind (wpAny_tryCatch (wpAny_holding (ky 0 v pv _ _ _ kg λt2 g2 tk2 Cg=>?_))))
  have hB2:=Cg B _ (kp B _ nW hB)
  refine(show wpAny _ A.in1 (updateSeq B (λ_=>#[v,.int (num 0) t2]) >>= _) _ _ _ from wpAny_bind (wpAny_updateSeq hB2 rfl ?_))
  rw[Vk]
  exact wpAny_pure ⟨plainId_quiet F.plain_min_loop _,RD Wk ky B nB hw0 Vl _ 0 _ v t2 _ rfl hn (Wk.frame _ _ _ (Wk.frame _ _ _ st2 λb _ o q=>Cg b o q) λb q1 o q2=>(get?_update_other _ _ (λz:B=b=>nB (z▸q1))).trans q2) pv (get?_update_self _ hB2 rfl)
   (λb o e=>(get?_update_other _ _ (λz:B=b=>by rw[<-z,Vl] at e;cases e)).trans (Cg b o (kg b o e)))
   λv2 g3 t3 q1 q2=>fin v2 g3 t3 q1 λb o q3 q4 q5=>q2 b o q3 q4 ((get?_update_other _ _ (Ne.symm q4)).trans (Cg b o (kp b o q3 q5)))⟩)
end
theorem zRk(a d:Value):argsOk "min" ⟨[a],[("key",d)]⟩:=by unfold argsOk;kernel_rfl
theorem Fq{A:Around}{s:Shared}{Q:Value->Shared->Prop}(hh:A.handled=none)(hl:s.heap.IsList l (intItems arr))(hp:0<arr.size)(ky:RB prog w A.in1 (.ref f) (λi v=>(intItems arr)[i]?=some v) num s.heap)(h1:∀v g tk,(intItems arr)[argBest (iZ num) (arr.size-1)]?=some v->(∀b o,s.heap.get? b=some o->g.get? b=some o)->Q v { s with heap:=g,toks:=tk }) :
  wpAny (model prog w) A (call (.builtin "min") [.ref l] [("key",.ref f)]) Q E s:=by
 refine zJu F.kind_min F.plain_min F.entry_min (zRk (.ref l) (.ref f)) ?_
 refine(show wpAny _ A.in1 (Builtin.Builtins.bindParams "min" ["key","default"] 0 ⟨[],[("key",.ref f)]⟩ >>= _) _ _ s from wpAny_bind (wpAny_of_eq (show Builtin.Builtins.bindParams "min" ["key","default"] 0 ⟨[],[("key",.ref f)]⟩=pure [some (.ref f),none] by kernel_rfl) ?_))
 refine wpAny_bind (wpAny_pure (wpAny_bind (iter_intList hl λs₂ e st hfp ne=>?_)))
 subst e
 refine wpAny_bind (wpAny_newObj_type ?_)
 have Wk:=Walks.list (prog:=prog) (w:=w) (A:=A.in1) hh s.heap.objs.size l ne (intItems arr)
 have nB:(s.heap.push { cls:=.type "list_iterator",data:=.fields #[.ref l,.int 0 0] }).objs.size∉[s.heap.objs.size,l]:=λz=>Nat.lt_irrefl _ (hfp _ z)
 have sz:(intItems arr).size=arr.size:=by unfold intItems;rw[Array.size_map]
 rw[Vk]
 rw[sz] at Wk
 have no:∀a:Addr,s.heap.objs.size<=a->s.heap.get? a=none:=λa ha=>by
  cases e:s.heap.get? a with
  |none=>rfl
  |some o=>exact absurd (Nat.lt_of_lt_of_le (lt_size e) ha) (Nat.lt_irrefl _)
 exact wpAny_pure ⟨plainId_quiet F.plain_min_loop _,K8 Wk ky _ nB (λb hb=>by rw[mem_singleton.mp hb];exact no _ (Nat.le_refl _)) (no _ (by rw[size_push];exact Nat.le_succ _)) hp (Wk.frame _ _ _ st λb _ o e=>get?_push_of_some _ e) (get?_push_size _ rfl)
  (λb o e=>get?_push_of_some _ (get?_push_of_some _ e)) λv g tk pv kp=>h1 v g tk pv (old_kept λb o q e=>kp b o q (Nat.ne_of_lt (lt_size e)) (get?_push_of_some _ e))⟩
theorem Ft{A:Around}{h0:Heap}{P:Nat->Value->Prop}{num:Nat->Int}(room:A.depth<recursionLimit)(hf:h0.get? f=some (kla_obj name qual params (.Subscript (.Name y py) (.Name z pz) ps) scope clos pm c' ctv))(hcd:h0.CodeRec (.ref c') qual)(hlim:h0.NoLimit)(hcl:clos.lookup y=some ca)(hcell:h0.IsCell ca (some (.ref a)))(hl:h0.IsList a items)(hP:∀i v,P i v->∃n t,v=.int n t/\0<=n/\n<2^63/\∃t',items[n.toNat]?=some (.int (num i) t'))(hbind:∀v,bindArgs (PySem.W.kla_fn name qual params (.Subscript (.Name y py) (.Name z pz) ps) scope clos pm (.ref c') ctv) ⟨[v],[]⟩=pure [(z,v)])(hk:scope.kind=.function)(hco:scope.isCoroutine=false)(hgen:scope.isGenerator=false)(hnc:∀x∈scope.names,x.2≠.cell)(hz:scope.names.lookup z=some .local)(hy:scope.names.lookup y=some .free)(Yj:(y==("__classdict__":Str))=false)(Yk:(y==("__debug__":Str))=false)(Ym:(z==("__debug__":Str))=false):RB prog w A (.ref f) P num h0:=by
 intro i v pv s Q E kp fin
 obtain⟨n,t,rfl,n0,n1,t',hi⟩:=hP i v pv
 refine wpAny_call (PySem.W.kla_callFunE room (kp _ _ hf) rfl hco hgen rfl (hcd.keeps kp) ?_)
 rw[hbind]
 refine wpAny_pure (wpAny_newFunctionEnv hnc (λx hx=>by rw[mem_singleton.mp hx];exact hz) (λh' hns hsb=>?_) hk)
 have old:∀b o,s.heap.get? b=some o->h'.get? b=some o:=λb o e=>hsb.extBut b o (Nat.ne_of_lt (lt_size e)) (get?_push_of_some _ e)
 have all:∀b o,h0.get? b=some o->h'.get? b=some o:=λb o e=>old b o (kp b o e)
 refine⟨hlim.keeps all,PySem.W.kla_codeExpr ?_⟩
 have nsz:h'.Ns s.heap.objs.size (λx=>([(z,Value.int n t)]:List (Str×Value)).reverse.lookup x):=hns
 refine wpAny_Subscript_Name slot_list_getitem.lookup (wpAny_Name (wpAny_loadName_free hk hy hcl (hcell.keeps all) ?_ Yj) Yk)
 refine wpAny_Name (wpAny_loadName_local hk hz nsz (show([(z,Value.int n t)]:List (Str×Value)).reverse.lookup z=some (.int n t) by simp) ?_) Ym
 have hl':h'.IsList a items:=by
  obtain⟨o,e,r⟩:=hl
  exact⟨o,all _ _ e,r⟩
 exact⟨hl'.typeIs,wpAny_getItem_list hl' n0 n1 hi (fin t' h' _ old)⟩
theorem zDd(num:Nat->Int):∀k,argBest (iZ num) k<=k/\(∀i,i<argBest (iZ num) k->num (argBest (iZ num) k)<num i)/\∀i,i<=k->num (argBest (iZ num) k)<=num i
 |0=>by
  refine⟨Nat.le_refl _,λi h=>absurd h (Nat.not_lt_zero _),λi h=>?_⟩
  have:i=0:=by omega
  subst this
  exact Int.le_refl _
 |k+1=>by
  obtain⟨a,b,c⟩:=zDd num k
  by_cases h:num (k+1)<num (argBest (iZ num) k)
  ·have e:argBest (iZ num) (k+1)=k+1:=by show(if iZ num (k+1) (argBest (iZ num) k)=true then _ else _)=_;rw[if_pos (decide_eq_true h)]
   rw[e]
   refine⟨Nat.le_refl _,λi hi=>?_,λi hi=>?_⟩
   ·have:=c i (by omega);omega
   ·by_cases q:i=k+1
    ·subst q;exact Int.le_refl _
    ·have:=c i (by omega);omega
  ·have e:argBest (iZ num) (k+1)=argBest (iZ num) k:=by show(if iZ num (k+1) (argBest (iZ num) k)=true then _ else _)=_;rw[if_neg (by rw[decide_eq_true_iff];exact h)]
   rw[e]
   refine⟨by omega,b,λi hi=>?_⟩
   by_cases q:i=k+1
   ·subst q;omega
   ·exact c i (by omega)
structure Af(X:Cx)(TA:Addr):Prop where
 code:∃c,X.env.code=.ref c/\CodeHd X.base c TA
 bm:∃bm ob,X.mg "__builtins__" = some (.ref bm)/\bm≠builtinsNs/\X.base.get? bm=some ob/\ob.cls=.type "module" /\ ob.dict=some builtinsNs/\ob.data=.plain
section
variable{X:Cx}{pins:List (Addr×Obj)}{σ:St}{H:Hp}{s:Shared}{TA:Addr}{gk:Pos}{params:Arguments}{body:Expr}{scope:Scope}
theorem zTa{Q:Value->Shared->Prop}(I:Inv X pins σ H s)(hT:H TA=some (.tab gk (X.env.qual ++ "<lambda>")))(L:Af X TA)(hdef:defaultsOf params X.env=([],[]))(hfree:∀y∈scope.names,y.2=.free->∃c,X.env.cells.lookup y.1=some c)(h:∀f c' ctv h2 tk H2,Same H H2->Inv X pins σ H2 { s with heap:=h2,toks:=tk }->h2.get? f=some (kla_obj "<lambda>" (X.env.qual ++ "<lambda>") params body scope (uL X.env scope.names []) ((X.mg "__name__").getD .none) c' ctv)->h2.CodeRec (.ref c') (X.env.qual ++ "<lambda>")->Q (.ref f) { s with heap:=h2,toks:=tk }) :
  wpAny (model X.prog X.w) X.A (eval (.Lambda params body scope gk) X.env) Q E s:=by
 refine PySem.W.kla_eval hdef ?_
 obtain⟨c,hc,hC⟩:=L.code
 obtain⟨bm,ob,b1,b2,b3,b4,b5,b6⟩:=L.bm
 have C:=hC.keeps I.bk
 obtain⟨ps,eP,tr,cs⟩:∃ps:Array Value,s.heap.get? TA=some { cls:=.none,data:=.fields ps }/\TriplesOk ps.toList/\(codeAmong gk ps.toList=none\/∃c,codeAmong gk ps.toList=some (.ref c)/\H c=some (.own TA)/\s.heap.CodeRec (.ref c) (X.env.qual ++ "<lambda>")):=I.hok TA _ hT
 have hg:s.heap.Ns mainGlobals X.mg:=I.mod.glob.keeps I.bk
 have RG:=I.bk _ _ b3
 have hgP:mainGlobals≠TA:=λq=>by
  obtain⟨o,es,ep,e,hd,_⟩:=hg
  rw[q,eP] at e;cases e;cases hd
 have hbG:bm≠mainGlobals:=λq=>by
  obtain⟨o,es,ep,e,hd,_⟩:=hg
  rw[q,e] at RG;cases RG;rw[hd] at b6;cases b6
 have hbP:bm≠TA:=λq=>by rw[q,eP] at RG;cases RG;cases b4
 have hb:s.heap.BuiltinsAt X.mg TA:=⟨bm,ob,b1,b2,hbG,hbP,RG,b4,b5,b6⟩
 rcases cs with hn|⟨c',hf,ho,hr⟩
 ·refine PySem.W.kla_makeFunction (uT hfree) I.ok.glob hg hc C eP tr hn hgP hb λc' ctv h' tk hx hge hlt hrec htb=>?_
  have kept:∀b o,b≠TA->s.heap.get? b=some o->(h'.push (kla_obj "<lambda>" (X.env.qual ++ "<lambda>") params body scope (uL X.env scope.names []) ((X.mg "__name__").getD .none) c' ctv)).get? b=some o:=λb o hb e=>get?_push_of_some _ (hx b o hb e)
  have fresh:H c'=none:=I.hok.fresh hge
  have sm:Same H (upd H c' (.own TA)):=λb u q=>by rw[zP (zV q fresh)];exact q
  have hTA:c'≠TA:=λz=>by rw[z,hT] at fresh;cases fresh
  refine h h'.objs.size c' ctv _ tk (upd H c' (.own TA)) sm ?_ (get?_push_size _ rfl) (hrec.push _)
  refine I.un ⟨λb o e n _ _=>kept b o (λz=>by rw[z,hT] at n;cases n) e,λb o e n _ _=>⟨o.slots,kept b o (λz=>by rw[z,hT] at n;cases n) e⟩,λb o e n _=>?_,λb o e _=>?_,λb xs q=>sm _ _ q,λb o u q=>sm _ _ q,λb ps q=>⟨#[],by rw[sm _ _ q];simp⟩⟩ λb u q=>?_
  ·rw[zP (Nat.ne_of_lt (Nat.lt_of_lt_of_le (lt_size e) hge))];exact n
  ·by_cases z:b=TA
   ·exact⟨_,z▸get?_push_of_some _ htb⟩
   ·exact⟨o,kept b o z e⟩
  ·by_cases z1:b=c'
   ·subst z1
    rw[zW] at q;cases q
    obtain⟨c2,oc,_,_,e2,e3,_⟩:=hrec
    cases e2
    exact⟨oc,get?_push_of_some _ e3⟩
   ·rw[zP z1] at q
    by_cases z2:b=TA
    ·subst z2
     rw[hT] at q;cases q
     have hl:(ps ++ #[rawInt gk.line,rawInt gk.col,Value.ref c']).toList=ps.toList++[rawInt gk.line,rawInt gk.col,.ref c']:=by simp
     refine⟨_,get?_push_of_some _ htb,?_,.inr ⟨c',?_,zW,hrec.push _⟩⟩
     ·rw[hl];exact TriplesOk_snoc _ _ _ _ tr
     ·rw[hl];exact codeAmong_snoc _ tr hn
    ·exact(I.hok b u q).stay (λd v hd e=>kept d v (λz=>by
      rcases hd with w1|w1
      ·exact z2 (w1▸z)
      ·rw[z,hT] at w1;cases w1) e) (λd e=>sm _ _ e) λd xs e=>sm _ _ e
 ·refine PySem.W.kla_makeFunctionHit (uT hfree) I.ok.glob hg hc C eP tr hf hb λctv h' tk hk hsz=>?_
  have kept:∀b o,s.heap.get? b=some o->(h'.push (kla_obj "<lambda>" (X.env.qual ++ "<lambda>") params body scope (uL X.env scope.names []) ((X.mg "__name__").getD .none) c' ctv)).get? b=some o:=λb o e=>get?_push_of_some _ (hk b o e)
  exact h h'.objs.size c' ctv _ tk H (λ_ _ q=>q) (I.kept kept) (get?_push_size _ rfl) (hr.keeps kept)
end
def Ag(K:PySem.W.Frag)(TA:Addr)(TO:HO)(y:Option (Option V))(x:V)(H1:Hp)(Q:VK):Prop :=
 H1 TA=some TO/\∃(q a:Addr)(ns:LI)(vs:List V)(d:Int->Int),x=.ref q/\aV K H1 q (ns.map V.int)/\ns≠[]/\y=some (some (.ref a))/\H1 a=some (.lst vs)/\(∀m∈ns,0<=m/\vs[m.toNat]?=some (.int (d m))) /\
  ∀(M:Int)(pre post:LI),ns=pre++M::post->(∀m∈pre,d M<d m)->(∀m∈post,d M<=d m)->∀H',Same H1 H'->Q (.int M) H'
def Il(K:PySem.W.Frag)(TA:Addr)(TO:HO)(j:Nat)(te:TE):TE:=λσ H Q=>te σ H λx H1=>Ag K TA TO σ[j]? x H1 Q
section
variable{X:Cx}{e:Expr}{te:TE}{p pos kpos gk py pz ps:Pos}{y z:Str}{params:Arguments}{scope:Scope}{k:Nat}
theorem Fv(K:PySem.W.Frag){TA:Addr}{j:Nat}(hc:X.calm=true)(hr:bJ k X.A)(hm:X.mg "min" = none)(L:Af X TA)(he:PE X e te)(hj:X.N[j]?=some y)(hy:X.env.scope.names.lookup y=some .cell)(hdef:defaultsOf params X.env=([],[]):=by rfl)(hbind:∀clos pm c' ctv v,bindArgs (PySem.W.kla_fn "<lambda>" (X.env.qual ++ "<lambda>") params (.Subscript (.Name y py) (.Name z pz) ps) scope clos pm (.ref c') ctv) ⟨[v],[]⟩=pure [(z,v)]:=by intros;rfl)(hsn:scope.names=[(z,.local),(y,.free)]:=by rfl)(hsk:scope.kind=.function:=by rfl)(hco:scope.isCoroutine=false:=by rfl)(hgen:scope.isGenerator=false:=by rfl)(hzy:(y==z)=false:=by decide +kernel)(Yj:(y==("__classdict__":Str))=false:=by decide +kernel)(Yk:(y==("__debug__":Str))=false:=by decide +kernel)(Ym:(z==("__debug__":Str))=false:=by decide +kernel)(hK:X.K=K:=by rfl)(hg:Gl X "min":=by rfl)(hv:bootBuiltins "min" = some (.builtin "min"):=by decide +kernel)(hst:starEach [e] X.env=[(false,eval e X.env)]:=by rfl)(ha:(backToKw pos (keywordEach [⟨some "key",.Lambda params (.Subscript (.Name y py) (.Name z pz) ps) scope gk,kpos⟩] X.env)).all (·.1.isSome)=true:=by rfl)(hks:(backToKw pos (keywordEach [⟨some "key",.Lambda params (.Subscript (.Name y py) (.Name z pz) ps) scope gk,kpos⟩] X.env)).filterMap (·.1)=[("key":Str)]:=by rfl) :
  PE X (.Call (.Name "min" p) [e] [⟨some "key",.Lambda params (.Subscript (.Name y py) (.Name z pz) ps) scope gk,kpos⟩] pos) (Il K TA (.tab gk (X.env.qual ++ "<lambda>")) j te):=by
 subst hK
 intro pins s σ H Q I h
 refine wpAny_Call_Name_kw (yg I hg hm hv ?_)
 have hkn:(backToKw pos (keywordEach [⟨some "key",.Lambda params (.Subscript (.Name y py) (.Name z pz) ps) scope gk,kpos⟩] X.env)).any (·.1.isNone)=false:=by
  rw[any_eq_false]
  intro x hx
  have:=all_eq_true.mp ha x hx
  intro z
  rw[Option.isNone_iff_eq_none] at z
  rw[z] at this
  cases this
 refine PyProof.Rows.callWith_kw (env:=X.env) (e:=e) (rest:=[]) (kws:=[⟨some "key",.Lambda params (.Subscript (.Name y py) (.Name z pz) ps) scope gk,kpos⟩]) ?_ (by rw[hst];rfl) (by rw[hst];rfl) ha hkn
 refine aJ ((zB he zH hst) pos pins s σ H (λvs H1=>HX (λx=>Ag X.K TA (.tab gk (X.env.qual ++ "<lambda>")) σ[j]? x H1 Q) vs) I h) λus s1 ⟨vs,H1,I1,r,q⟩=>?_
 obtain⟨x,u,rfl,rfl,rx,q⟩:=Ks (R:=λx=>Ag X.K TA (.tab gk (X.env.qual ++ "<lambda>")) σ[j]? x H1 Q) r q
 obtain⟨hT,l,a,ns,vs,d,rfl,hq,hne,hσ,hav,hd,fin⟩:=q
 rw[hks]
 show wpAny _ _ (evalAll ((do let v <-eval (.Lambda params (.Subscript (.Name y py) (.Name z pz) ps) scope gk) X.env;standAt pos;pure v)::[])) _ _ s1
 refine wpAny_evalAll_cons (wpAny_bind (zTa I1 hT L hdef (λw hw e0=>?_) λf c' ctv h2 tk H2 sm I2 hf hcr=>wpAny_bind (wpAny_standAt (wpAny_pure (wpAny_evalAll_nil ?_)))))
 ·rw[hsn] at hw
  rcases mem_cons.mp hw with z1|z1
  ·subst z1;cases e0
  ·rw[mem_singleton.mp z1];exact I1.ok.has y (.inl hy)
 cases rx
 show wpAny _ X.A (call (.builtin "min") [.ref l] [("key",.ref f)]) _ _ _
 obtain⟨its,r',pl,hz⟩:=I2.list (sm.seq hq)
 have hi:=Q9 r'
 obtain⟨arr,ea⟩:=hi.allInts.items
 have hns:ns=arr.toList.map (·.1):=(hi.numsOf.symm.trans (congrArg numsOf (show its=(intItems arr).toList by rw[<-ea]))).trans (nums_intItems arr)
 have hl:=pl.isList
 rw[ea] at hl
 have hpos:0<arr.size:=by
  refine Nat.pos_of_ne_zero λz0=>hne ?_
  rw[hns,Array.eq_empty_of_size_eq_zero z0];rfl
 obtain⟨hz2,its2,n2,rv2,ea2⟩:vs.length<=sizeLine/\∃(its:List Value)(n:Nat),Vals vs its/\h2.get? a=some { cls:=.type "list",data:=.seq its.toArray n }:=I2.hok a _ (sm _ _ hav)
 have hla:h2.IsList a its2.toArray:=⟨_,ea2,rfl,n2,rfl⟩
 obtain⟨m,_,hloc⟩:=I2.loc
 obtain⟨uu,ruu,lk⟩:=hloc j y (.ref a) hj hσ (.inr (.inl hy))
 cases ruu
 obtain⟨ca,eca,hcell⟩:∃c,X.env.cells.lookup y=some c/\h2.IsCell c (some (.ref a)):=by
  rcases lk with⟨k1,_⟩|⟨_,c,e1,e2⟩
  ·have k1':X.env.scope.names.lookup y=some .local:=k1
   rw[hy] at k1';cases k1'
  ·exact⟨c,e1,e2⟩
 have hcl:(uL X.env scope.names []).lookup y=some ca:=by
  have e0:uL X.env scope.names []=[(y,(X.env.cells.lookup y).getD 0)]:=by rw[hsn];rfl
  rw[e0,eca]
  simp
 have RJ:∀i v,(intItems arr)[i]?=some v->numAt arr i∈ns:=λi v hv=>by
  rw[hns]
  simp only[intItems,Array.getElem?_map,Option.map_eq_some_iff] at hv
  obtain⟨pp,hp,_⟩:=hv
  have:numAt arr i=pp.1:=by simp[numAt,hp]
  rw[this]
  exact mem_map.mpr ⟨pp,by rw[<-Array.mem_def];exact Array.mem_of_getElem? hp,rfl⟩
 have ky:RB X.prog X.w X.A.in1 (.ref f) (λi v=>(intItems arr)[i]?=some v) (λi=>d (numAt arr i)) h2:=by
  refine Ft (items:=its2.toArray) (by have:=hr.dp;show X.A.depth<_;omega) hf hcr I2.nolimit hcl hcell hla (λi v hv=>?_) (λv=>hbind _ _ _ _ v) hsk hco hgen (λw hw=>?_) (by rw[hsn];simp) (by rw[hsn,lookup_cons,hzy];simp) Yj Yk Ym
  ·obtain⟨t,rfl⟩:=intItems_at hv
   obtain⟨d0,d1⟩:=hd _ (RJ i _ hv)
   obtain⟨uv,e1,r1⟩:=rv2.get d1
   obtain⟨t',rfl⟩:=r1
   have lt:=(List.getElem?_eq_some_iff.mp d1).1
   have hn:=Hl
   exact⟨_,t,rfl,d0,by omega,t',by simpa using e1⟩
  ·rw[hsn] at hw
   rcases mem_cons.mp hw with z1|z1
   ·subst z1;exactλz2=>by cases z2
   ·rw[mem_singleton.mp z1];exactλz2=>by cases z2
 refine Fq (I2.ok.hd hc) hl hpos ky λv g tk2 hv2 kp=>?_
 obtain⟨b0,b1,b2⟩:=zDd (λi=>d (numAt arr i)) (arr.size-1)
 generalize hb:argBest (iZ λi=>d (numAt arr i)) (arr.size-1)=bi at hv2 b0 b1 b2
 obtain⟨t',rfl⟩:=intItems_at hv2
 refine⟨.int (numAt arr bi),H2,I2.kept kp,⟨t',rfl⟩,?_⟩
 have bl:bi<ns.length:=by rw[hns,length_map,length_toList];omega
 have nth:∀i (h:i<ns.length),ns[i]=numAt arr i:=λi h=>by
  have h':i<arr.size:=by rw[hns,length_map,length_toList] at h;exact h
  simp only[hns,List.getElem_map,Array.getElem_toList]
  simp[numAt,h']
 have split:ns=ns.take bi++numAt arr bi::ns.drop (bi+1):=by
  rw[<-nth bi bl,getElem_cons_drop,take_append_drop]
 refine fin _ _ _ split (λm hm=>?_) (λm hm=>?_) H2 sm
 ·obtain⟨i,hi1,rfl⟩:=List.mem_iff_getElem.mp hm
  rw[length_take] at hi1
  rw[List.getElem_take,nth i (by omega)]
  exact b1 i (by omega)
 ·obtain⟨i,hi1,rfl⟩:=List.mem_iff_getElem.mp hm
  rw[length_drop] at hi1
  rw[List.getElem_drop,nth _ (by omega)]
  refine b2 _ ?_
  rw[hns,length_map,length_toList] at hi1
  omega
end
end L2
namespace Ts
open PySem L2
def tZ(d:Int->Int):LI->Option Int
 |[]=>none
 |x::xs=>match tZ d xs with
  |none=>some x
  |some y=>if d x<=d y then some x else some y
theorem zM8:∀{xs:LI},tZ d xs=none->xs=[]
 |[],_=>rfl
 |x::xs,h=>by
  unfold tZ at h
  split at h
  ·cases h
  ·split at h<;>cases h
theorem zGd{d:Int->Int}(h2:∀m∈post,d M<=d m):∀{pre:LI},(∀m∈pre,d M<d m)->tZ d (pre++M::post)=some M
 |[],_=>by
  show(match tZ d post with|none=>some M|some y=>if d M<=d y then some M else some y)=some M
  cases e:tZ d post with
  |none=>rfl
  |some y =>
   have key:∀{xs:LI}{y:Int},tZ d xs=some y->y∈xs:=by
    intro xs
    induction xs with
    |nil=>intro y h;cases h
    |cons x xs ih =>
     intro y h
     unfold tZ at h
     split at h
     ·cases h;exact mem_cons_self
     ·rename_i z hz
      split at h
      ·cases h;exact mem_cons_self
      ·cases h;exact mem_cons_of_mem _ (ih hz)
   show(if d M<=d y then some M else some y)=some M
   rw[if_pos (h2 y (key e))]
 |x::pre,h1=>by
  have ih:=zGd h2 (pre:=pre) λm hm=>h1 m (mem_cons_of_mem _ hm)
  have hx:=h1 x mem_cons_self
  show(match tZ d (pre++M::post) with|none=>some x|some y=>if d x<=d y then some x else some y)=some M
  rw[ih]
  show(if d x<=d M then some x else some M)=some M
  rw[if_neg (by omega)]
def N8(away:List (Option Int))(m:Int):Option Int:=if 0<=m then(away[m.toNat]?).bind id else none
def N_(away:List (Option Int))(ns:LI):Option Int:=if ns.all (λm=>(N8 away m).isSome)=true then tZ (λm=>(N8 away m).getD 0) ns else none
def ni{α:Type}(xs:List α)(lo hi:Option Int):List α:=(xs.drop (HT.m5 xs.length 0 lo)).take (HT.m5 xs.length xs.length hi-HT.m5 xs.length 0 lo)
def t_{α:Type}(xs ys:List α):Option (List α):=if xs.length+ys.length<=cap then some (xs++ys) else none
def spT(TA:Addr)(TO:HO)(sp:Sp):Sp:=λvs H Q E=>H TA=some TO/\sp vs H Q E
section
variable{P:Program}{w:World}{K:PySem.W.Frag}{mg:Str->Option Value}{base:Heap}{B:Bs}{sl:SL K}{md:Md}{α β:Type}[Rp K α][Rp K β]{tA:Addr}{tO:HO}{te t1 t2:TE}
theorem zL6{A:Type}{as:A->SL K}{f:A->Option β}{ma:Option A}(tb:B.H0 tA=some tO)(h:Ea B sl .hp ta as ma):Ex B sl md (JC (spT tA tO (bV K false as f)) [] E0 ta) (ma.bind f):=λc hc F O H σ Q s kk=>by
 cases ma with
 |none=>cases hc
 |some a =>
  refine h a rfl F O H σ _ s λvs F' H' g r=>?_
  rw[append_nil]
  refine⟨g.ok.h0 _ _ tb,a,c,H',.refl _,hc,r,λv H2 s2 r2=>?_⟩
  have g2:=g.ok.called s2
  refine kk v _ H2 (g.trans g2) ?_
  have r3:=Rp.mono (QF (F:=F') g.ok.h0 s2) r2
  exact match md with
  |.nw=>r3
  |.fz=>Rp.mono aP r3
  |.hp=>Rp.mono (aP.trans g2.ok.fh) r3
theorem Oa{A:Type}{as:A->SL K}{fM:A->Option β}(F:bH K x qual st f fd)(S:ao N ps (zK st))(hf:∀a,(as a).all isF=true)(hl:∀a,(as a).length=ps.length)(hb:∀(cdv:Value) (A:Around) (outer:List Env) (s:Shared) (H:Hp) (E:XK),bJ k (A.deeper (PyProof.Rows.envOfC qual (zK st) s.heap.objs.size f cdv))->fd.code=cdv ->
   ∃t,pI (lF aZ P w K mg base N qual (zK st) f cdv A outer s H E).yh (xX st) t/\∀Fa,H tA=some tO->∀a,SB ⟨Fa,H⟩ (as a++replicate (N.length-ps.length) .un) t al (fM a)) :
  aB P w K mg base aZ (k+1) f fd ps (spT tA tO (bV K al as fM)):=by
 obtain⟨oc,od,kV,doc,pm,an,cdv,ct,osl,rfl,lk,hcd⟩:=F.ex
 refine yu lk hcd S (λvs H Q E h=>Xe hl h.2) λA outer s H vs Q E hr hsp=>?_
 obtain⟨t,h,q⟩:=hb cdv A outer s H E hr rfl
 exact⟨t,h.yh,zLg hf hl (λFa a=>q Fa hsp.1 a) hsp.2⟩
def Im(mg:Str->Option Value)(base:Heap):Prop:=∃bm ob,mg "__builtins__" = some (.ref bm)/\bm≠builtinsNs/\base.get? bm=some ob/\ob.cls=.type "module" /\ ob.dict=some builtinsNs/\ob.data=.plain
theorem zTb{fd:FuncData}(hcd:fd.code=cdv)(LA:∃c,fd.code=.ref c/\CodeHd base c tA)(BM:Im mg base) :
  Af (lF aZ P w K mg base N qual scope f cdv A outer s H E).yh tA:=by
 obtain⟨c,e,h⟩:=LA
 exact⟨⟨c,hcd.symm.trans e,h⟩,BM⟩
theorem Fw(tb:B.H0 tA=some tO)(j:Nat)(hs:sl[j]?=some (.fz n away))(h:Ex B sl .hp te m):Ex B sl md (Il K tA tO j te) (m.bind (N_ away)):=λc hc F O H σ Q s kk=>by
 cases m with
 |none=>cases hc
 |some ns =>
  have hc:N_ away ns=some c:=hc
  unfold N_ at hc
  split at hc
  case isFalse=>cases hc
  rename_i hall
  rw[all_eq_true] at hall
  obtain⟨va,hσ,ra⟩:=s.2.nO hs
  refine h ns rfl F O H σ _ s λv F' H' g r=>?_
  obtain⟨q,ws,rfl,h1,h2⟩:=r
  have hw:ws=ns.map V.int:=h2.vals
  obtain⟨a,avs,rfl,h3,h4⟩:=ra
  refine⟨g.ok.h0 _ _ tb,q,a,ns,avs,λm=>(N8 away m).getD 0,rfl,aV.of (hw▸h1),λz=>?_,hσ,g.hh _ _ (BX s.1 n _ _ h3),λm hm=>?_,λM pre post e p1 p2 H2 s2=>?_⟩
  ·subst z;cases hc
  ·have hk:=hall m hm
   unfold N8 at hk ⊢
   split at hk
   case isFalse=>cases hk
   rename_i m0
   refine⟨m0,?_⟩
   show avs[m.toNat]?=some (.int ((if 0<=m then(away[m.toNat]?).bind id else none).getD 0))
   rw[if_pos m0]
   cases e:away[m.toNat]? with
   |none=>rw[e] at hk;cases hk
   |some o =>
    rw[e] at hk
    cases o with
    |none=>cases hk
    |some k =>
     obtain⟨v',e1,r1⟩:=h4.at2 e
     obtain⟨_,r1⟩:=r1
     have r1:v'=.int k:=r1
     subst r1
     exact e1
  ·have e2:=zGd p2 p1
   rw[<-e,hc] at e2
   cases e2
   exact kk _ _ H2 (g.trans (g.ok.called s2)) (show _=_ from rfl)
theorem A2.cut(h:A2 R vs xs)(lo hi:Option Int):A2 R (tK vs lo hi) (ni xs lo hi):=by
 unfold tK ni
 rw[h.len]
 exact(h.dr _).tk _
theorem zTq[Sc K α]{m:Option (List α)}{mi:Option Int}{ti:TE}(h:Ex B sl .hp te m)(hi:Ex B sl .hp ti mi):Eo B sl md (Uk (Dn K) te (Ui ti) Uh) (m.bind λxs=>mi.bind λi=>some (ni xs (some i) none)):=λc hc F O H σ Q s k=>by
 obtain⟨xs,i,hx,hi',hc⟩:=m6 hc
 cases hc
 refine h xs hx F O H σ _ s λv F' H' g r=>?_
 refine hi i hi' F' O H' σ _ (s.grow g) λu F2 H2 g2 r2=>?_
 have r2:u=.int i:=r2
 obtain⟨p,vs,rfl,z1,z2⟩:=r
 exact⟨i,r2,p,vs,rfl,aV.of (g2.hh _ _ z1),λl hl=>k l _ F2 H2 (g.trans g2) hl (z2.cut _ _).sc⟩
theorem zTr[Sc K α]{m:Option (List α)}{mi:Option Int}{ti:TE}(h:Ex B sl .hp te m)(hi:Ex B sl .hp ti mi):Eo B sl md (Uk (Dn K) te Uh (Ui ti)) (m.bind λxs=>mi.bind λi=>some (ni xs none (some i))):=λc hc F O H σ Q s k=>by
 obtain⟨xs,i,hx,hi',hc⟩:=m6 hc
 cases hc
 refine h xs hx F O H σ _ s λv F' H' g r=>?_
 refine hi i hi' F' O H' σ _ (s.grow g) λu F2 H2 g2 r2=>?_
 have r2:u=.int i:=r2
 obtain⟨p,vs,rfl,z1,z2⟩:=r
 exact⟨i,r2,p,vs,rfl,aV.of (g2.hh _ _ z1),λl hl=>k l _ F2 H2 (g.trans g2) hl (z2.cut _ _).sc⟩
theorem zUt[Sc K α]{m1 m2:Option (List α)}(h1:Ex B sl .hp t1 m1)(h2:Ex B sl .hp t2 m2):Eo B sl md (dN Qs t1 t2) (m1.bind λa=>m2.bind λb=>t_ a b):=λc hc F O H σ Q s k=>by
 obtain⟨xs,ys,hx,hy,hc⟩:=m6 hc
 unfold t_ at hc
 split at hc
 case isFalse=>cases hc
 rename_i hl
 cases hc
 refine h1 xs hx F O H σ _ s λv F' H' g r=>?_
 refine h2 ys hy F' O H' σ _ (s.grow g) λu F2 H2 g2 r2=>?_
 obtain⟨p,vs,rfl,z1,z2⟩:=r
 obtain⟨q,ws,rfl,z3,z4⟩:=r2
 refine⟨p,q,vs,ws,rfl,rfl,g2.hh _ _ z1,z3,?_,λl hl'=>k l _ F2 H2 (g.trans g2) hl' (z2.sc.app z4.sc)⟩
 rw[z2.len,z4.len]
 exact zUy hl
theorem RK(K:PySem.W.Frag){X:Cx}(h:X.K=K:=by rfl):Uj X (Dn K):=by subst h;exact Dq
end
open PySem PySem.Spec PyProof.Rows L2
theorem zP5{K:PySem.W.Frag}{s₁:Shared}{vs:List Value}(KX:K.In s₁.heap)(hns:s₁.heap.Ns mainGlobals mg)(hb:s₁.heap.Ns builtinsNs mb)(hbb:∀x:Str,x ≠ "__name__"->mb x=bootBuiltins x)(hlim:s₁.heap.NoLimit)(hg:s₁.gens=#[])(ha:s₁.heap.get? a=some { cls:=.type "list",data:=.seq vs.toArray })(hi:IntsAre vs ns)(hl:ns.length<=sizeLine)(hr:bJ k callerA)(hbm:Im mg s₁.heap)(hT:s₁.heap.get? tP=some { cls:=.none,data:=.fields #[] })(hC:CodeHd s₁.heap c tP)(hKP:K.lookup tP=none)(F:∀base:Heap,K.In base->base.Ns mainGlobals mg->Im mg base->aB P w K mg base CX k fa fd [x] sp)(hbind:∀(s:Shared) (u:Value),BindsTo s fd ⟨[u],[]⟩ [(x,u)])(hsp:∀H:Hp,H tP=some (.tab pos qual)->aV K H a (ns.map V.int)->sp [.ref a] H (λv H'=>v=.bl true/\H' tP=some (.tab pos qual)) λ_ _ _=>False)(Yn:∀(H:Hp) (e:Value) (s':Shared),CX [] H s₁ (λ_ _ _=>False) e s'->False) :
  codeAny (model P w) callerA (.call (.ref fa) ⟨[.ref a],[]⟩) (λr s'=>r=.ok (.ret (.bool true))/\OldK s₁.heap s'.heap/\s'.os=s₁.os/\AllBare s'.gens) s₁:=by
 have rv:=zIi hi
 have lenV:vs.length=ns.length:=by have:=rv.length;rw[length_map] at this;exact this.symm
 have haP:a≠tP:=λz=>by rw[z,hT] at ha;cases ha
 have core:∀H:Hp,H tP=some (.tab pos qual)->(H a=none\/∃o xs,H a=some (.lC o (.lst xs)))->aV K H a (ns.map V.int)->gn P w H s₁.heap->(∀b,H b≠none->b=a\/b=tP)->(H a≠none->K.lookup a=none) ->
   codeAny (model P w) callerA (.call (.ref fa) ⟨[.ref a],[]⟩) (λr s'=>r=.ok (.ret (.bool true))/\OldK s₁.heap s'.heap/\s'.os=s₁.os/\AllBare s'.gens) s₁:=by
  intro H Yo hO hS hok hA hK
  have oJ:∀{b:Addr}{o:Obj},s₁.heap.get? b=some o->H b=none->(m8 s₁.heap H).get? b=some o:=λe n=>zTg e n
  have Qg:∀{b:Addr}{o:Obj}{es:Array DictEntry}{ep:Nat},s₁.heap.get? b=some o->o.data=.dict es ep->H b=none:=λ{b o es ep} e d=>by
   cases q:H b with
   |none=>rfl
   |some u =>
    rcases hA b (by rw[q];simp) with e'|e'
    ·subst e'
     rw[ha] at e;cases e
     have d':Data.seq vs.toArray _=Data.dict es ep:=d
     cases d'
    ·subst e'
     rw[hT] at e;cases e
     cases d
  have Vm:∀{b:Addr}{m:Str->Option Value},s₁.heap.Ns b m->(m8 s₁.heap H).Ns b m:=λ{b m} ⟨o,es,ep,e,d,r⟩=>⟨o,es,ep,oJ e (Qg e d),d,r⟩
  have hKb:K.In (m8 s₁.heap H):=λb o e=>oJ (KX b o e) (by
   cases q:H b with
   |none=>rfl
   |some u =>
    rcases hA b (by rw[q];simp) with e'|e'
    ·subst e'
     rw[hK (by rw[q];simp)] at e;cases e
    ·subst e'
     rw[hKP] at e;cases e)
  have hBM:Im mg (m8 s₁.heap H):=by
   obtain⟨bm,ob,b1,b2,b3,b4,b5,b6⟩:=hbm
   refine⟨bm,ob,b1,b2,oJ b3 ?_,b4,b5,b6⟩
   cases q:H bm with
   |none=>rfl
   |some u =>
    rcases hA bm (by rw[q];simp) with e'|e'
    ·rw[e',ha] at b3;cases b3;exact absurd b4 (by show Value.type "list" ≠ .type "module"; decide +kernel)
    ·rw[e',hT] at b3;cases b3;cases b4
  have hM:Mod K mg (m8 s₁.heap H):=⟨hKb,Vm hns,⟨mb,Vm hb,hbb⟩,let⟨mc,h1,h2⟩:=hlim;⟨mc,Vm h1,h2⟩⟩
  have e0:qJ P w K mg (m8 s₁.heap H) callerA [] s₁ H:=⟨rfl,hM,λb o e=>Cr e,Nat.le_of_eq (zQf _ _),trivial,λb hb=>absurd (show b∈([]:List Addr) from hb) (by simp),hok,.of_eq hg⟩
  refine codeAny_mono ((F _ hKb (Vm hns) hBM).run callerA [] s₁ H ⟨[.ref a],[]⟩ [.ref a] [.ref a] _ _ hr e0 (hbind s₁ (.ref a)) (.cons rfl .nil) (hsp H Yo hS)) λr s' h=>?_
  cases r with
  |error e=>exact(Yn H e s' h).elim
  |ok fl =>
   cases fl with
   |next=>exact False.elim h
   |brk=>exact False.elim h
   |cont=>exact False.elim h
   |ret u =>
    obtain⟨v,H',os,bare,un,hok',r',q⟩:=h
    obtain⟨q1,q2⟩:v=.bl true/\H' tP=some (.tab pos qual):=q
    subst q1
    obtain rfl:u=Value.bool true:=r'
    obtain⟨ps,ep,_⟩:∃ps:Array Value,s'.heap.get? tP=some { cls:=.none,data:=.fields ps }/\_:=hok' tP _ q2
    have kp:∀b o,b≠tP->s₁.heap.get? b=some o->s'.heap.get? b=some o:=λb o nb e=>by
     cases q:H b with
     |none=>exact un.keep b o e q (by intro z;exact absurd (show b∈([]:List Addr) from z) (by simp)) (by simp)
     |some u =>
      rcases hA b (by rw[q];simp) with z|z
      ·subst z
       rcases hO with z|⟨ob,xs,z⟩
       ·rw[q] at z;cases z
       ·have z2:=un.lD b ob _ z
        obtain⟨e1,_⟩:=hok b _ z
        obtain⟨e2,_⟩:=hok' b _ z2
        rw[e] at e1;cases e1
        exact e2
      ·exact absurd z nb
    refine⟨rfl,⟨λb o e=>?_,λb o e=>?_⟩,os,bare⟩
    ·by_cases z:b=tP
     ·subst z
      rw[hT] at e;cases e
      exact .inr (.inl ⟨(hC.tab hT).isCodeTable,rfl,#[],ps,rfl,by rw[ep];simp⟩)
     ·exact .inl (kp b o z e)
    ·by_cases z:b=tP
     ·exact⟨_,z▸ep⟩
     ·exact⟨o,kp b o z e⟩
 have Io:∀H:Hp,aR P w H s₁.heap tP (.tab pos qual):=λH=>⟨#[],hT,trivial,.inl rfl⟩
 cases hk:K.lookup a with
 |some o =>
  have e:=KX a o hk
  rw[ha] at e
  cases e
  refine core (λb=>if b=tP then some (.tab pos qual) else none) (if_pos rfl) (.inl (if_neg haP)) (.inr ⟨_,vs.toArray,_,hk,rfl,rfl,rfl,by rw[size_toArray,lenV];exact hl,by simpa using rv⟩) (λb u z=>?_) (λb z=>?_) λz=>absurd (if_neg haP) z
  ·by_cases hb:b=tP
   ·have z':=(if_pos hb).symm.trans z
    cases z'
    subst hb
    exact Io _
   ·have z':=(if_neg hb).symm.trans z
    cases z'
  ·by_cases hb:b=tP
   ·exact .inr hb
   ·exact absurd (if_neg hb) z
 |none =>
  refine core (λb=>if b=tP then some (.tab pos qual) else if b=a then some (.lC { cls:=.type "list",data:=.seq vs.toArray } (.lst (ns.map V.int))) else none) (if_pos rfl) (.inr ⟨_,_,(if_neg haP).trans (if_pos rfl)⟩)
   (.inl (.inr ⟨{ cls:=.type "list",data:=.seq vs.toArray },(if_neg haP).trans (if_pos rfl)⟩)) (λb u z=>?_) (λb z=>?_) λ_=>hk
  ·by_cases hb:b=tP
   ·have z':=(if_pos hb).symm.trans z
    cases z'
    subst hb
    exact Io _
   ·have z':=(if_neg hb).symm.trans z
    by_cases hb2:b=a
    ·have z'':=(if_pos hb2).symm.trans z'
     cases z''
     subst hb2
     exact⟨ha,by rw[length_map];exact hl,vs,_,rv,ha⟩
    ·have z'':=(if_neg hb2).symm.trans z'
     cases z''
  ·by_cases hb:b=tP
   ·exact .inr hb
   ·by_cases hb2:b=a
    ·exact .inl hb2
    ·exact absurd ((if_neg hb).trans (if_neg hb2)) z
theorem zRt{l:PySem.W.OpenLaw}{YP:World->Heap->Prop}{d:DefRec}{K:Params->PySem.W.Frag}{CX:World->tE}{sp:World->Sp}(hn:l.most=some n)(hn2:n<=sizeLine)(hdf:d.params.defaults=[])(hr:bJ k callerA)(hY:∀(w:World) (h:Heap),YP w h->(K w.params).In h)(hTb:∀(w:World) (h:Heap),YP w h->h.get? tP=some (PySem.W.tabObj #[]))(F:∀(w:World) (mg:Str->Option Value) (fa:Addr) (h:Heap),(K w.params).In h->h.Ns mainGlobals mg->mg d.name=some (.ref fa) ->
   ∃(fd:FuncData) (c:Addr),(∀(s:Shared) (u:Value),BindsTo s fd ⟨[u],[]⟩ [(x,u)])/\codeHdIn (K w.params) c tP=true/\(K w.params).lookup tP=none /\
    ∀base:Heap,(K w.params).In base->base.Ns mainGlobals mg->Im mg base->aB l.prog w (K w.params) mg base (CX w) k fa fd [x] (sp w))(hsp:∀(w:World) (H:Hp) (a:Addr) (ns:LI),ns.length<=n->H tP=some (.tab pos qual)->aV (K w.params) H a (ns.map V.int)->sp w [.ref a] H (λv H'=>v=.bl true/\H' tP=some (.tab pos qual)) λ_ _ _=>False)(Yn:∀(w:World) (H:Hp) (s:Shared) (e:Value) (s':Shared),CX w [] H s (λ_ _ _=>False) e s'->False) :
  PySem.W.WalkO q loose XP YP l.row.toRowW d [] (λf vs=>PySem.call f vs):=by
 refine Att.pR hn hdf λw s₀ s₁ mg mb fa o pm cd doc a vs ns G Y ho hd hcd hmg hobj hints hlen hg=>?_
 have KX:=hY w _ Y
 obtain⟨fd,c,hb,h1,h2,hF⟩:=F w mg fa _ KX G.T.g hmg
 exact zP5 KX G.T.g G.T.b G.T.builtins G.T.nolimit hg hobj hints (Nat.le_trans hlen hn2) hr G.T.bmain (hTb w _ Y) (PySem.W.codeHd_of_K KX h1) h2 hF hb (λH hO hS=>hsp w H a ns hlen hO hS) λH e s'=>Yn w H s₁ e s'
section
variable{X:Cx}{pos pos':Pos}{x:Str}{e:Expr}{te:TE}
theorem yF(i:Nat)(hN:X.N.Nodup)(he:PE X e te)(hi:X.N[i]?=some x:=by rfl)(hx:Loc X.env.scope x:=by first|exact .inl rfl|exact .inr rfl)(hs:swapsWith e (some (.Name x pos')) pos.line X.env=pure false:=by rfl)(hf:X.fn x=true\/X.env.scope.names.lookup x=some .local:=by first|exact .inl rfl|exact .inr rfl|assumption):PS X (.Assign [.Name x pos'] e pos) (lE te (qH i)):=V6 hN hi hx he hs hf
theorem bw(i:Nat)(hN:X.N.Nodup)(hi:X.N[i]?=some x:=by rfl)(hx:Loc X.env.scope x:=by first|exact .inl rfl|exact .inr rfl)(hf:X.fn x=true\/X.env.scope.names.lookup x=some .local:=by first|exact .inl rfl|exact .inr rfl|assumption):PG X (.Name x pos) (qH i):=yM hN hi hx hf
end
theorem esc{K:PySem.W.Frag}{B:Bs}{sl:SL K}{md:Md}{α:Type}[Rp K α][Sc K α]{t:TE}{m:Option α}(h:Ex B sl .hp t m):Ex B sl md t m:=h.sc
theorem fsc{N P:List Str}{s:Scope}(h1:s.kind=.function:=by rfl)(h2:s.isCoroutine=false:=by rfl)(h3:s.isGenerator=false:=by rfl)(h4:N.Nodup:=by decide +kernel)(h5:N.take P.length=P:=by rfl)(h6:∀x∈P,s.names.lookup x=some .local\/s.names.lookup x=some .cell:=by decide +kernel)(h7:∀y∈s.names,y.2≠.free:=by decide +kernel):ao N P s:=⟨h1,h2,h3,h4,h5,h6,h7⟩
section
variable{K:PySem.W.Frag}{x y:Str}{st:Stmt}{f:Addr}{fd:FuncData}{p0 p1 p2 p3 p4:Str}
theorem uc(F:bH K x y st f fd)(h:∀kV dc pm an cd ct u0,bindArgs (fnOf x y (vL st) (xX st) (zK st) .none kV dc pm an cd ct) ⟨[u0],[]⟩=pure [(p0,u0)]:=by intros;rfl):Binds K fd [p0] []:=F.binds λa b c d e g us hl=>match us,hl with|[u0],_=>h a b c d e g u0
theorem nj(F:bH K x y st f fd)(h:∀kV dc pm an cd ct u0 u1,bindArgs (fnOf x y (vL st) (xX st) (zK st) .none kV dc pm an cd ct) ⟨[u0,u1],[]⟩=pure [(p0,u0),(p1,u1)]:=by intros;rfl):Binds K fd [p0,p1] []:=F.binds λa b c d e g us hl=>match us,hl with|[u0,u1],_=>h a b c d e g u0 u1
theorem Ci(F:bH K x y st f fd)(h:∀kV dc pm an cd ct u0 u1 u2,bindArgs (fnOf x y (vL st) (xX st) (zK st) .none kV dc pm an cd ct) ⟨[u0,u1,u2],[]⟩=pure [(p0,u0),(p1,u1),(p2,u2)]:=by intros;rfl):Binds K fd [p0,p1,p2] []:=F.binds λa b c d e g us hl=>match us,hl with|[u0,u1,u2],_=>h a b c d e g u0 u1 u2
theorem Yp(F:bH K x y st f fd)(h:∀kV dc pm an cd ct u0 u1 u2 u3,bindArgs (fnOf x y (vL st) (xX st) (zK st) .none kV dc pm an cd ct) ⟨[u0,u1,u2,u3],[]⟩=pure [(p0,u0),(p1,u1),(p2,u2),(p3,u3)]:=by intros;rfl):Binds K fd [p0,p1,p2,p3] []:=F.binds λa b c d e g us hl=>match us,hl with|[u0,u1,u2,u3],_=>h a b c d e g u0 u1 u2 u3
theorem bi5(F:bH K x y st f fd)(h:∀kV dc pm an cd ct u0 u1 u2 u3 u4,bindArgs (fnOf x y (vL st) (xX st) (zK st) .none kV dc pm an cd ct) ⟨[u0,u1,u2,u3,u4],[]⟩=pure [(p0,u0),(p1,u1),(p2,u2),(p3,u3),(p4,u4)]:=by intros;rfl):Binds K fd [p0,p1,p2,p3,p4] []:=F.binds λa b c d e g us hl=>match us,hl with|[u0,u1,u2,u3,u4],_=>h a b c d e g u0 u1 u2 u3 u4
end
end Ts
namespace lM
open PySem PySem.SetTable
set_option maxRecDepth 100000
def seen(m:Nat):Nat->Nat->Nat->Nat
 |0,_,acc=>acc
 |t+1,i,acc=>seen m t ((i*5+1)%m) (acc|||1 <<< i)
theorem getD_none{owner:Array (Option Nat)}:owner.getD j (some 0)=none↔owner.toList[j]?=some none:=by
 rw[Array.getD_eq_getD_getElem?,getElem?_toList]
 cases owner[j]? with
 |none=>simp
 |some x=>simp
def small(n:Nat):Prop:=n<=255
open PySem PySem.Spec PyProof.Rows
set_option maxRecDepth 100000
section
variable{prog:Program}{w:World}{κ:Type}[DecidableEq κ]{knd:KeyKind prog w κ}{dec:Value->κ}{led:Bool}{A:Around}{E:Value->Shared->Prop}{s:Shared}
end
set_option maxRecDepth 100000
section
variable{prog:Program}{w:World}{κ:Type}[DecidableEq κ]{knd:KeyKind prog w κ}{dec:Value->κ}{led:Bool}{A:Around}{E:Value->Shared->Prop}{s:Shared}
end
set_option maxRecDepth 100000
section
variable{prog:Program}{w:World}{κ:Type}[DecidableEq κ]{knd:KeyKind prog w κ}{dec:Value->κ}{led:Bool}{A:Around}{E:Value->Shared->Prop}{s:Shared}
end
set_option maxRecDepth 100000
section
variable{prog:Program}{w:World}{κ:Type}[DecidableEq κ]{knd:KeyKind prog w κ}{dec:Value->κ}{led:Bool}{A:Around}{E:Value->Shared->Prop}{s:Shared}
end
end lM
namespace L2
open PySem PySem.Spec PyProof.Rows lM
section
variable{X:Cx}
end
end L2
namespace Ts
open PySem L2
section
variable{K:PySem.W.Frag}{B:Bs}{sl:SL K}{md:Md}{t1 t2:TE}
end
end Ts
namespace L2
open PySem PySem.Spec PyProof.Rows
structure Cat(K:PySem.W.Frag)(C:Addr)(m:Str)(f:Addr):Prop where
 sp:specialIn K (.ref C) "__getattribute__" = some (some (.builtin "type.__getattribute__"))
 rd:PySem.W.readsIn K C (.type "type")=true
 at_:PySem.W.findCls K (.ref C) (.type "type") m=some (.val (.ref f))
 kp:keepIn K (.ref f)=true
section
variable{X:Cx}{CX:tE}{k:Nat}{f C:Addr}{fd:FuncData}{ps:List Str}{sp:Sp}{mZ:List V}{ds:List Value}{E:XK}{x m:Str}{p pos apos:Pos}{e o:Expr}{es:List Expr}{ta:TE}{t:TA}
end
end L2
namespace Sy
open PySem L2
inductive Tr where
 |all
 |mark (x:Str)
 |one (i:Fin 7) (t:Tr)
 |two (i:Fin 4) (l r:Tr)
def w1(i:Fin 7):Str:=(["not","somenext","eachnext","somealways","eachalways","someever","eachever"]:List Str).getD i.val Str.empty
def w2(i:Fin 4):Str:=(["both","either","sometill","eachtill"]:List Str).getD i.val Str.empty
def Tr.depth:Tr->Nat
 |.all=>0
 |.mark _=>0
 |.one _ t=>t.depth+1
 |.two _ l r=>max l.depth r.depth+1
def Kp(p:Addr)(H H':Hp):Prop:=∀b o,b≠p->H b=some o->H' b=some o
theorem aO(h:H p=none)(o:HO):Same H (upd H p o):=λb u q=>by rw[zP (zV q h)];exact q
def RM(w:V)(q:Addr):List (Str×V):=aA "parts" (.ref q) (aA "word" w [])
def RN(w v:V)(q:Addr):List (Str×V):=aA "part" v (RM w q)
def RP(w v u:V)(q:Addr):List (Str×V):=aA "right" u (aA "left" v (RM w q))
def Ip(x:V)(q:Addr):List (Str×V):=aA "name" x (RM x q)
theorem cT(f:Str)(v:V):∀fs:List (Str×V),(aA f v fs).length<=fs.length+1
 |[]=>Nat.le_refl _
 | (g,x)::r=>by
  unfold aA
  split
  ·exact Nat.le_succ _
  ·exact Nat.succ_le_succ (cT f v r)
structure Yq(K:PySem.W.Frag)(C:Addr):Prop where
 cl:Cls K C
 nW:aU K C "word"
 nP:aU K C "parts"
 n1:aU K C "part"
 nL:aU K C "left"
 nR:aU K C "right"
 nN:aU K C "name"
inductive Hd where
 |all
 |mark
 |one (i:Fin 7)
 |two (i:Fin 4)
def Yr(C:Addr):Sp:=λvs H Q _=>∃(p dx:Addr),vs=[.ref p]/\H p=some (.ins C dx [])/\∀(q:Addr)(H':Hp),Kp p H H'->H q=none->H' q=some (.tup [])->H' p=some (.ins C dx (RM (.str "all") q))->Q .non H'
def Ys(C:Addr):Sp:=λvs H Q _=>∃(p dx:Addr)(x:V),vs=[.ref p,x]/\H p=some (.ins C dx [])/\∀(q:Addr)(H':Hp),Kp p H H'->H q=none->H' q=some (.tup [])->H' p=some (.ins C dx (Ip x q))->Q .non H'
def Yt(C:Addr)(w:Str):Sp:=λvs H Q _=>∃(p dx:Addr)(v:V),vs=[.ref p,v]/\H p=some (.ins C dx [])/\∀(q:Addr)(H':Hp),Kp p H H'->H q=none->H' q=some (.tup [v])->H' p=some (.ins C dx (RN (.str w) v q))->Q .non H'
def Yu(C:Addr)(w:Str):Sp:=λvs H Q _=>∃(p dx:Addr)(v u:V),vs=[.ref p,v,u]/\H p=some (.ins C dx [])/\∀(q:Addr)(H':Hp),Kp p H H'->H q=none->H' q=some (.tup [v,u])->H' p=some (.ins C dx (RP (.str w) v u q))->Q .non H'
inductive lO(cl:Hd->Addr)(H:Hp):Addr->Tr->Prop where
 |all {p q dx:Addr}:H p=some (.ins (cl .all) dx (RM (.str "all") q))->H q=some (.tup [])->lO cl H p .all
 |mark {p q dx:Addr} {x:Str}:H p=some (.ins (cl .mark) dx (Ip (.str x) q))->H q=some (.tup [])->lO cl H p (.mark x)
 |one {p q dx c:Addr} {i:Fin 7} {t:Tr}:H p=some (.ins (cl (.one i)) dx (RN (.str (w1 i)) (.ref c) q))->H q=some (.tup [.ref c])->lO cl H c t->lO cl H p (.one i t)
 |two {p q dx c d:Addr} {i:Fin 4} {l r:Tr}:H p=some (.ins (cl (.two i)) dx (RP (.str (w2 i)) (.ref c) (.ref d) q))->H q=some (.tup [.ref c,.ref d])->lO cl H c l->lO cl H d r->lO cl H p (.two i l r)
def hd:Tr->Hd
 |.all=>.all
 |.mark _=>.mark
 |.one i _=>.one i
 |.two i _ _=>.two i
def hw:Tr->Str
 |.all=>"all"
 |.mark x=>x
 |.one i _=>w1 i
 |.two i _ _=>w2 i
def pts:Tr->List Tr
 |.all=>[]
 |.mark _=>[]
 |.one _ t=>[t]
 |.two _ l r=>[l,r]
def n1(i:Fin 7):Str:=(["Not","SomeNext","EachNext","SomeAlways","EachAlways","SomeEver","EachEver"]:List Str).getD i.val Str.empty
def n2(i:Fin 4):Str:=(["Both","Either","SomeTill","EachTill"]:List Str).getD i.val Str.empty
structure Ini(P:Program)(w:World)(K:PySem.W.Frag)(mg:Str->Option Value)(base:Heap)(k:Nat)(cl fi:Hd->Addr)(di:Hd->FuncData):Prop where
 made:∀h,Mk K (cl h) (fi h)
 iA:aB P w K mg base aZ k (fi .all) (di .all) ["self"] (Yr (cl .all))
 bA:Binds K (di .all) ["self"] []
 iM:aB P w K mg base aZ k (fi .mark) (di .mark) ["self","name"] (Ys (cl .mark))
 bM:Binds K (di .mark) ["self","name"] []
 i1:∀i,aB P w K mg base aZ k (fi (.one i)) (di (.one i)) ["self","part"] (Yt (cl (.one i)) (w1 i))
 b1:∀i,Binds K (di (.one i)) ["self","part"] []
 i2:∀i,aB P w K mg base aZ k (fi (.two i)) (di (.two i)) ["self","left","right"] (Yu (cl (.two i)) (w2 i))
 b2:∀i,Binds K (di (.two i)) ["self","left","right"] []
 mA:mg "All" = some (.ref (cl .all))
 mM:mg "Mark" = some (.ref (cl .mark))
 m1:∀i,mg (n1 i)=some (.ref (cl (.one i)))
 m2:∀i,mg (n2 i)=some (.ref (cl (.two i)))
end Sy
namespace Ts
open PySem L2 Sy
structure Od(cl:Hd->Addr) where
 t:Tr
def Yv:Hd->Tr->Bool
 |.all,.all=>true
 |.mark,.mark _=>true
 |.one i,.one j _=>decide (j=i)
 |.two i,.two j _ _=>decide (j=i)
 |_,_=>false
def Od.parts(x:Od cl):List (Od cl):=(pts x.t).map Od.mk
def Od.name(x:Od cl):Option Str:=match x.t with
 |.mark s=>some s
 |_=>none
structure aac(P:Program)(w:World)(K:PySem.W.Frag)(mg:Str->Option Value)(base:Heap)(k:Nat)(cl fi:Hd->Addr)(di:Hd->FuncData):Prop where
 ini:Ini P w K mg base k cl fi di
 kd:∀h,Yq K (cl h)
 B_:∀h h':Hd,∀t:Tr,hd t=h->kitOne K (.ref (cl h)) (.ref (cl h'))=some (Yv h' t)
 c1:∀h,findIn K (.ref (cl h)) "__class__" = some (some (.builtin "object.__class__"))
 c2:specialIn K (.builtin "object.__class__") "__get__" = some (some (.builtin "getset_descriptor.__get__"))
 c3:PySem.W.takesIn K (.builtin "object.__class__")=some true
 c4:∀h,PySem.W.mroIn K (cl h) (.type "object")=some true
section
variable{K:PySem.W.Frag}{cl:Hd->Addr}
end
section
variable{K:PySem.W.Frag}{B:Bs}{F H H2:Hp}{O:Own}
end
section
variable{P:Program}{w:World}{K:PySem.W.Frag}{mg:Str->Option Value}{base:Heap}{B:Bs}{sl:SL K}{md:Md}{te t1 t2:TE}{cl fi:Hd->Addr}{di:Hd->FuncData}{k:Nat}
end
section
variable{K:PySem.W.Frag}{B:Bs}{sl:SL K}{md:Md}{te:TE}{α:Type}[Rp K α]
end
end Ts
namespace RQ
open PySem PySem.Spec PyProof.Rows
set_option maxRecDepth 100000
section
variable{prog:Program}{w:World}{A:Around}{E:Value->Shared->Prop}{s:Shared}
abbrev Yw(h:Heap)(z TI TO T:Addr)(b:Bool):Prop :=
 h.get? z=some { cls:=.type "zip",dict:=none,data:=.fields #[rawInt T,.bool b,.bool false,.ref TI,.ref TO],slots:=#[] }
structure ZSt(h:Heap)(S z TI TO i1 i2 l1 l2 N i:Nat)(xs ys acc:Array Value):Prop where
 sz:h.objs.size=N+i
 zz:(i=0/\IsZip h z TI TO .none/\∃a b,IsPair h TO a b)\/(0<i/\∃b,Yw h z TI TO N b)
 ti:IsPair h TI (.ref i1) (.ref i2)
 h1:h.IsListIter i1 l1 i
 h2:h.IsListIter i2 l2 i
 q1:h.IsList l1 xs
 q2:h.IsList l2 ys
 ls:∃c,h.get? S=some { cls:=.type "list",dict:=none,data:=.seq acc c,slots:=#[] }
 al:acc.toList=(List.range i).map λj=>Value.ref (N+j)
 tp:∀j x y,j<i->xs[j]?=some x->ys[j]?=some y->IsPair h (N+j) x y
variable{R:Result->Shared->Prop}
end
section
variable{prog:Program}{w:World}{A:Around}{E:Value->Shared->Prop}{s:Shared}
end
end RQ
namespace L2
open PySem PySem.Spec PyProof.Rows RQ
end L2
namespace Ts
open PySem L2
section
variable{K:PySem.W.Frag}{B:Bs}{sl:SL K}{md:Md}{t1 t2:TE}{α β:Type}[Rp K α][Rp K β]
end
open PySem L2 Sy
inductive sJ where
 |none
 |step (n:Int)
 |shut
 |walk (xs:LI)
 |out
 |loop (xs ys:LI)
 |rank (n:Int) (o:Option Int)
 |here
 |dead
 |plain
def sJ.word:sJ->Str
 |.none=>"none"
 |.step _=>"step"
 |.shut=>"shut"
 |.walk _=>"walk"
 |.out=>"out"
 |.loop _ _=>"loop"
 |.rank _ _=>"rank"
 |.here=>"here"
 |.dead=>"dead"
 |.plain=>"plain"
def sJ.len:sJ->Int
 |.step _=>2
 |.walk _=>2
 |.loop _ _=>3
 |.rank _ _=>3
 |_=>1
def sJ.at1:sJ->Option Int
 |.step n=>some n
 |.rank n _=>some n
 |_=>Option.none
section
variable{K:PySem.W.Frag}
def sJ.rest(K:PySem.W.Frag)(F:Hp):sJ->List V->Prop
 |.step n,vs=>vs=[.int n]
 |.walk xs,vs=>∃a,vs=[a]/\rp K F a xs
 |.loop xs ys,vs=>∃a b,vs=[a,b]/\rp K F a xs/\rp K F b ys
 |.rank n o,vs=>∃b,vs=[.int n,b]/\rp K F b o
 |_,vs=>vs=[]
theorem sJ.ud(s:Same F F'):∀{r:sJ}{vs:List V},r.rest K F vs->r.rest K F' vs
 |.step _,_,h=>h
 |.walk _,_,⟨a,h1,h2⟩=>⟨a,h1,Rp.mono s h2⟩
 |.loop _ _,_,⟨a,b,h1,h2,h3⟩=>⟨a,b,h1,Rp.mono s h2,Rp.mono s h3⟩
 |.rank _ _,_,⟨b,h1,h2⟩=>⟨b,h1,Rp.mono s h2⟩
 |.none,_,h=>h
 |.shut,_,h=>h
 |.out,_,h=>h
 |.here,_,h=>h
 |.dead,_,h=>h
 |.plain,_,h=>h
instance:Rp K sJ:=⟨λF v r=>∃p vs,v=.ref p/\F p=some (.tup (.str r.word::vs))/\r.rest K F vs,λs ⟨p,vs,h1,h2,h3⟩=>⟨p,vs,h1,s _ _ h2,sJ.ud s h3⟩⟩
instance:Nn K sJ:=⟨λ⟨_,_,h,_⟩=>by rw[h];intro e;cases e⟩
instance:Ty K sJ:=⟨.type "tuple",λ⟨p,_,e,h,_⟩=>by rw[e];exact .tup h⟩
end
section
variable{K:PySem.W.Frag}{B:Bs}{sl:SL K}{md:Md}{te t1 t2:TE}
end
end Ts
namespace L2
open PySem PySem.Spec PyProof.Rows
section
variable{X:Cx}
def RT:V->Option Int->Option Int->Hp->VK->Prop:=λx lo hi H Q=>∃z j,x=.str z/\lo=none/\hi=some j/\z.length<=sizeLine/\Q (.str (Txt.slice z none (some j))) H
theorem K9:Uj X RT:=by
 intro pins s σ H x v vl vu lo hi sl Q I rx hs pl pu h
 obtain⟨z,j,rfl,rfl,rfl,hz,q⟩:=h
 obtain⟨t,rfl⟩:=rx
 cases pl
 cases pu with
 |int _ tk =>
  refine⟨"str",_,PySem.F.slot_str_getitem.lookup,typeIs_str _ _ _,?_⟩
  exact wpAny_getItem_str_slice (l:=none) (u:=some (j,tk)) (st:=none) hs rfl (post_val_or_str ⟨Nat.le_trans (Txt.slice_le z _ _) hz,λt' k=>⟨.str _,H,I.tok k,⟨t',rfl⟩,q⟩⟩)
def Ir:R2:=λx y H Q=>∃i j,x=.str i/\y=.str j/\i.length+j.length<=sizeLine/\Q (.str (i++j)) H
theorem zPj:iB X (binaryOp .Add) Ir:=zM0
def Iu:R2:=λx y H Q=>∃z i c,x=.str z/\y=.int i/\0<=i/\i<2^63/\i<z.length/\z.cps[i.toNat]?=some c/\Q (.str ⟨#[c]⟩) H
theorem K_(ha:PE X a ta)(hb:PE X b tb)(hs:zMl b):PE X (.Subscript a b pos) (dN Iu ta tb):=zKl ha hb hs
end
end L2
namespace Ts
open PySem L2
section
variable{K:PySem.W.Frag}{B:Bs}{sl:SL K}{md:Md}{t t1 t2:TE}
def p8(a b:Str):Option Str:=if a.length+b.length<=1000 then some (a++b) else none
theorem zQt(h1:Ex B sl .hp t1 m1)(h2:Ex B sl .hp t2 m2):Ex B sl md (dN Ir t1 t2) (m1.bind λa=>m2.bind λb=>p8 a b):=λc hc F O H σ Q s k=>by
 obtain⟨a,b,ha,hb,hf⟩:=m6 hc
 unfold p8 at hf
 split at hf
 case isFalse=>cases hf
 rename_i hl
 cases hf
 refine h1 a ha F O H σ _ s λv F' H' g r1=>?_
 refine h2 b hb F' O H' σ _ (s.grow g) λw F2 H2 g2 r2=>?_
 cases r1
 cases r2
 exact⟨a,b,rfl,rfl,Nat.le_trans hl (by decide),k _ F2 H2 (g.trans g2) rfl⟩
def Oe(z:Str)(i:Int):Option Str:=if 0<=i/\i<2^63/\i<z.length then(z.cps[i.toNat]?).map λc=>⟨#[c]⟩ else none
theorem Lb(h1:Ex B sl .hp t1 m1)(h2:Ex B sl .hp t2 m2):Ex B sl md (dN Iu t1 t2) (m1.bind λa=>m2.bind λb=>Oe a b):=λc hc F O H σ Q s k=>by
 obtain⟨a,b,ha,hb,hf⟩:=m6 hc
 unfold Oe at hf
 split at hf
 case isFalse=>cases hf
 rename_i hl
 cases e:a.cps[b.toNat]? with
 |none=>rw[e] at hf;cases hf
 |some z =>
  rw[e] at hf
  cases hf
  refine h1 a ha F O H σ _ s λv F' H' g r1=>?_
  refine h2 b hb F' O H' σ _ (s.grow g) λw F2 H2 g2 r2=>?_
  cases r1
  cases r2
  exact⟨a,b,z,rfl,rfl,hl.1,hl.2.1,hl.2.2,e,k _ F2 H2 (g.trans g2) rfl⟩
def Ah(z:Str)(j:Int):Option Str:=if z.length<=1000 then some (Txt.slice z none (some j)) else none
theorem Fy(h1:Ex B sl .hp t1 m1)(h2:Ex B sl .hp t2 m2):Ex B sl md (Uk RT t1 Uh (Ui t2)) (m1.bind λa=>m2.bind λb=>Ah a b):=λc hc F O H σ Q s k=>by
 obtain⟨a,b,ha,hb,hf⟩:=m6 hc
 unfold Ah at hf
 split at hf
 case isFalse=>cases hf
 rename_i hl
 cases hf
 refine h1 a ha F O H σ _ s λv F' H' g r1=>?_
 refine h2 b hb F' O H' σ _ (s.grow g) λw F2 H2 g2 r2=>?_
 cases r1
 cases r2
 exact⟨b,rfl,a,b,rfl,rfl,rfl,Nat.le_trans hl (by decide),k _ F2 H2 (g.trans g2) rfl⟩
def Ai:List Str->TA
 |[]=>bF
 |w::ws=>xG (tC (.str w)) (Ai ws)
theorem zP4:∀(ws:List Str)(σ:St)(H:Hp)(Q:List V->Hp->Prop),Q (ws.map V.str) H->Ai ws σ H Q
 |[],_,_,_,h=>h
 |_::ws,σ,H,_,h=>zP4 ws σ H _ h
theorem zTl(ws:List Str)(hw:ws.length<=1000)(h:Ex B sl .hp t m):Ex B sl md (dN (Hr K false) t (tD (Ai ws))) (m.bind λx=>some (decide (x∈ws))):=λc hc F O H σ Q s k=>by
 cases m with
 |none=>cases hc
 |some x =>
  cases(show some (decide (x∈ws))=some c from hc)
  refine h x rfl F O H σ _ s λv F' H' g r1=>?_
  cases r1
  refine zP4 ws σ H' _ ⟨by rw[length_map];exact Nat.le_trans hw (by decide),λp hp=>?_⟩
  have g2:=bh.new g.ok hp (.tup (ws.map V.str))
  refine⟨p,_,rfl,.inr (ou.of zW),Fl.flat (K:=K) x,UG (K:=K) ws,?_⟩
  have:=QZ (K:=K) x ws
  simp only[Bool.false_eq_true,if_false]
  rw[show inV (V.str x) (ws.map V.str)=decide (x∈ws) from this]
  exact k _ _ _ (g.trans g2) rfl
end
section
variable{K:PySem.W.Frag}{B:Bs}{sl:SL K}{F H H' L L':Hp}{O:Own}{σ:St}{α:Type}[Rp K α]
end
open PySem L2 Sy
open PySem.SeqAt (EqAt RcAt RcNeAt)
section
variable{K:PySem.W.Frag}
variable{B:Bs}{sl:SL K}{md:Md}{t1 t2:TE}
end
theorem Aj{β:Type}[Rp K β]{m:Option β}(sl2:SL K)(h:SB B sl2 t al m)(e:sl=sl2:=by rfl):SB B sl t al m:=e▸h
section
variable{K:PySem.W.Frag}{B:Bs}{sl:SL K}{md:Md}{β:Type}[Rp K β]
end
structure RL(p:Addr) where
 ws:LI
section
variable{K:PySem.W.Frag}{B:Bs}{sl:SL K}{F H:Hp}{O:Own}{σ:St}{md:Md}{β:Type}[Rp K β]{p:Addr}{ws:LI}
instance:Rp K (RL p):=⟨λF v x=>v=.ref p/\F p=some (.lst (x.ws.map V.int)),λs ⟨h1,h2⟩=>⟨h1,s _ _ h2⟩⟩
end
section
variable{K:PySem.W.Frag}{B:Bs}{sl:SL K}{F H:Hp}{O:Own}{σ:St}{md:Md}{α β S:Type}[Rp K α][Rp K β]{p:Addr}{ws:LI}{te:TE}{t u:TS}
theorem zOp(hs:sl[i]?=some s):(sl.set i s')[i]?=some s':=by
 have hlt:i<sl.length:=by
  cases c:decide (i<sl.length) with
  |true=>exact of_decide_eq_true c
  |false=>rw[List.getElem?_eq_none (by have:=of_decide_eq_false c;omega)] at hs;cases hs
 rw[List.getElem?_set,if_pos rfl,if_pos hlt]
end
section
variable{P:Program}{w:World}{K:PySem.W.Frag}{mg:Str->Option Value}{base:Heap}
end
section
variable{K:PySem.W.Frag}{B:Bs}{sl:SL K}{md:Md}{α β S:Type}[Rp K α][Rp K β]{te:TE}
end
section
variable{K:PySem.W.Frag}{B:Bs}{sl:SL K}{md:Md}{α β S:Type}[Rp K α][Rp K β]{te:TE}{p:Addr}{ws:LI}
structure Fr(p:Addr)(F H F' H':Hp):Prop where
 ff:Same F F'
 hh:∀b o,b≠p->H b=some o->H' b=some o
 nw:∀b,F b=none->H b≠none->F' b=none
end
section
variable{K:PySem.W.Frag}{B:Bs}{sl:SL K}{md:Md}{α β S:Type}[Rp K α][Rp K β]{te:TE}{p:Addr}{ws:LI}{n n':Bool}
end
section
variable{K:PySem.W.Frag}{B:Bs}{sl:SL K}{md:Md}{α β S:Type}[Rp K α][Rp K β]{te t1 t2:TE}{p:Addr}
end
section
variable{K:PySem.W.Frag}{B:Bs}{sl:SL K}{F H:Hp}{O:Own}{σ:St}
end
structure Yx(α β γ:Type) where
 a:α
 b:β
 c:γ
section
variable{K:PySem.W.Frag}{B:Bs}{sl:SL K}{md:Md}{n:Bool}{α β γ S:Type}[Rp K α][Rp K β][Rp K γ]{te t1 t2 t3:TE}
instance:Rp K (Yx α β γ):=⟨λF v x=>∃p u w z,v=.ref p/\F p=some (.tup [u,w,z])/\rp K F u x.a/\rp K F w x.b/\rp K F z x.c,λs ⟨p,u,w,z,h1,h2,h3,h4,h5⟩=>⟨p,u,w,z,h1,s _ _ h2,Rp.mono s h3,Rp.mono s h4,Rp.mono s h5⟩⟩
instance:Nn K (Yx α β γ):=⟨λ⟨_,_,_,_,h,_⟩=>by rw[h];intro e;cases e⟩
end
section
variable{K:PySem.W.Frag}{B:Bs}{sl:SL K}{md:Md}{te:TE}
end
section
variable{K:PySem.W.Frag}{B:Bs}{sl sl2:SL K}{md:Md}{te:TE}{t:TS}{β:Type}[Rp K β]{p:Addr}
end
section
variable{K:PySem.W.Frag}{B:Bs}{sl:SL K}{F H:Hp}{O:Own}{σ:St}{t u:TS}{al:Bool}{α β S A A1 A2:Type}[Rp K α][Rp K β]{b:β}
end
end Ts
namespace L2
open PySem PySem.Spec PyProof.Rows
section
variable{X:Cx}
end
end L2
namespace Ts
open PySem L2
open PySem.SeqAt (EqAt RcAt RcNeAt)
section
variable{K:PySem.W.Frag}{B:Bs}{sl:SL K}{md:Md}{te t1 t2:TE}{α β γ δ:Type}[Rp K α][Rp K β][Rp K γ][Rp K δ]
end
section
variable{K:PySem.W.Frag}{α β γ:Type}[Rp K α][DecidableEq α][Eqv K α][Rp K β][DecidableEq β][Eqv K β][Rp K γ][DecidableEq γ][Eqv K γ]{X:Cx}{pins:List (Addr×Obj)}{σ:St}{H:Hp}{s:Shared}{A:Around}{a b:Yx α β γ}{p p':Addr}{v1 v2 v3 w1 w2 w3:V}
end
section
variable{K:PySem.W.Frag}{B:Bs}{sl:SL K}{md:Md}{te:TE}{β S:Type}[Rp K β]{p:Addr}{ws:LI}{g:TG}{tb:TS}
end
section
variable{K:PySem.W.Frag}{B:Bs}{sl slE slW:SL K}{md:Md}{te:TE}{F F' H H' L L':Hp}{O:Own}{σ:St}{α β γ:Type}[Rp K α][Rp K β][Rp K γ]
inductive qe:SL K->Prop
 |nil:qe []
 |nu {a:SL K}:qe a->qe (.nu (Ej.mk ())::a)
 |oth {s:Slot K} {a:SL K}:wk s=false->qe a->qe (s::a)
inductive RV:SL K->SL K->SL K->Prop
 |nil:RV [] [] []
 |nu {α:Type} [Rp K α] [IsL K α] {x:α} {a b c:SL K}:RV a b c->RV (.nu x::a) (.fz true x::b) (.nu (Ej.mk ())::c)
 |oth {s:Slot K} {a b c:SL K}:wk s=false->iW s=false->RV a b c->RV (s::a) (.un::b) (s::c)
end
end Ts
namespace L2
open PySem PySem.Spec PyProof.Rows
section
variable{X:Cx}
end
end L2
namespace Ts
open PySem L2
section
variable{K:PySem.W.Frag}{mg:Str->Option Value}{B:Bs}{sl:SL K}{md:Md}{te t1 t2:TE}{C:Addr}{α β γ S:Type}[Rp K α][Rp K β][Rp K γ]{u:TS}{al:Bool}
end
end Ts
namespace L2
open PySem PySem.Spec PyProof.Rows
section
variable{X:Cx}
end
end L2
namespace Ts
open PySem L2
section
variable{K:PySem.W.Frag}{B:Bs}{sl:SL K}{md:Md}{α β:Type}[Rp K α][Rp K β]{te t1 t2:TE}
end
end Ts
namespace PySem
open Sem (wp)
structure IK(prog:Program)(w:World)(α:Type)[DecidableEq α] where
 is:Heap->α->Value->Prop
 hash:α->Int
 draws:α->Nat
 inj:∀{h:Heap}{v:Value}{x y:α},is h x v->is h y v->x=y
 keeps:∀{h h':Heap}{k:α}{v:Value}{d:Addr}{o:Obj}{es ep},is h k v->h.get? d=some o->o.data=.dict es ep->SameBut d h h'->is h' k v
 pyHash:∀{A:Around}{E:Value->Shared->Prop}{s:Shared}{k:α}{v:Value}{Q:Int->Shared->Prop},A.units<cLine->is s.heap k v->Q (hash k) { s with toks:=s.toks+draws k }->wpAny (model prog w) A (PySem.pyHash v) Q E s
 eqBool:∀{A:Around}{E:Value->Shared->Prop}{s:Shared}{x y:α}{u v:Value}{Q:Bool->Shared->Prop},A.units<cLine->is s.heap x u->is s.heap y v->Q (decide (x=y)) s->wpAny (model prog w) A (PySem.eqBool u v) Q E s
 quiet:∀{A:Around}{E:Value->Shared->Prop}{s:Shared}{k:α}{v:Value}{Q:Bool->Shared->Prop},is s.heap k v->Q true s->wpAny (model prog w) A (eqIsQuiet 7 v) Q E s
section
variable{prog:Program}{w:World}{α β:Type}[DecidableEq α][DecidableEq β]
variable{k1:IK prog w α}{k2:IK prog w β}
variable{A:Around}{E:Value->Shared->Prop}{s:Shared}
end
section
variable{prog:Program}{w:World}{K:Type}[DecidableEq K]{knd:HeapKind prog w K}{A:Around}{E:Value->Shared->Prop}{s:Shared}
end
end PySem
namespace L2
open PySem PySem.Spec PyProof.Rows
structure AK(α:Type)[DecidableEq α] where
 at_:Hp->α->V->Prop
 ik:∀(P:Program)(w:World),IK P w α
 ok:∀{P:Program}{w:World}{H:Hp}{h:Heap}{x:α}{v:V}{u:Value},gn P w H h->at_ H x v->RelV v u->(ik P w).is h x u
 mono:∀{H H':Hp}{x:α}{v:V},at_ H x v->(∀b xs,H b=some (.tup xs)->H' b=some (.tup xs))->at_ H' x v
section
variable{α β:Type}[DecidableEq α][DecidableEq β]
abbrev NKV(α β:Type):=List ((α×β)×Addr×Int)
variable{X:Cx}{pins:List (Addr×Obj)}{σ:St}{H:Hp}{s:Shared}{a1:AK α}{a2:AK β}{d:Addr}{kvs:NKV α β}
end
end L2
namespace Ts
open PySem PySem.Spec L2 PyProof.Rows
section
variable{X:Cx}{K:PySem.W.Frag}{B:Bs}{sl:SL K}{md:Md}{t:TE}
structure Tp(α:Type) where
 xs:List α
deriving instance DecidableEq for Tp
end
open PySem L2
section
variable{X:Cx}{K:PySem.W.Frag}{B:Bs}{sl:SL K}{md:Md}{t:TE}{α:Type}[Rp K α]
instance{α:Type}[Rp K α]:Rp K (Tp α):=⟨λF v x=>∃p vs,v=.ref p/\F p=some (.tup vs)/\A2 (rp K F) vs x.xs,λs ⟨p,vs,h1,h2,h3⟩=>⟨p,vs,h1,s _ _ h2,h3.imp λ_ _=>Rp.mono s⟩⟩
end
section
variable{κ:Type}[DecidableEq κ]
def dd:List κ->List κ->List κ
 |acc,[]=>acc
 |acc,k::r=>dd (if k∈acc then acc else acc++[k]) r
end
end Ts
namespace L2
open PySem Ts
section
variable{α β:Type}[DecidableEq α][DecidableEq β]
end
end L2
namespace Ts
open PySem L2
structure RwD where
 xss:List LI
def Yy(F:Hp)(q:Addr)(xs:LI):Prop:=F q=some (.lst (xs.map V.int))
section
variable{K:PySem.W.Frag}{B:Bs}{sl:SL K}{F H G L:Hp}{O:Own}{σ:St}{te t2:TE}{u:TS}{al:Bool}
instance:Rp K RwD:=⟨λF v x=>∃(p:Addr)(ps:List Addr),v=.ref p/\F p=some (.lst (ps.map V.ref))/\(p::ps).Nodup/\A2 (Yy F) ps x.xss,λs ⟨p,ps,h1,h2,h3,h4⟩=>⟨p,ps,h1,s _ _ h2,h3,h4.imp λ_ _ h=>s _ _ h⟩⟩
structure Yz where
 n:Nat
instance:Rp K Yz:=⟨λF v x=>∃p vs,v=.ref p/\F p=some (.lst vs)/\vs.length<=x.n,λs ⟨p,vs,h1,h2,h3⟩=>⟨p,vs,h1,s _ _ h2,h3⟩⟩
end
structure Fx(v:V)(α:Type) where
 x:α
section
variable{K:PySem.W.Frag}{B:Bs}{sl:SL K}{F H G L:Hp}{O:Own}{σ:St}{te t2:TE}{t:TS}{al:Bool}{α:Type}[Rp K α]{md:Md}
instance:Rp K (Fx v α):=⟨λF u a=>u=v/\rp K F u a.x,λs h=>⟨h.1,Rp.mono s h.2⟩⟩
end
section
variable{K:PySem.W.Frag}{B:Bs}{sl:SL K}{te:TE}
end
end Ts
namespace lM
open PySem PySem.Spec PyProof.Rows
set_option maxRecDepth 100000
section
variable{prog:Program}{w:World}{κ:Type}[DecidableEq κ]{knd:KeyKind prog w κ}{dec:Value->κ}{led:Bool}{A:Around}{E:Value->Shared->Prop}{s:Shared}
end
end lM
namespace L2
open PySem PySem.Spec PyProof.Rows lM
section
variable{X:Cx}
end
end L2
namespace Ts
open PySem L2
section
variable{K:PySem.W.Frag}{B:Bs}{sl:SL K}{md:Md}{t u:TE}
end
section
variable{K:PySem.W.Frag}{B:Bs}{sl:SL K}{md:Md}{t:TE}
instance:Rp K Key:=⟨λ_ v k=>v=kV k,λ_ h=>h⟩
instance:Nn K Key:=⟨λ{_ v a} h=>by cases a<;>(intro e;rw[e] at h;cases h)⟩
instance:Sc K Key:=⟨kV,Iff.rfl,λ{a b} h=>by cases a<;>cases b<;>cases h<;>rfl⟩
end
end Ts
namespace L2
open PySem PySem.Spec PyProof.Rows
section
variable{X:Cx}{pins:List (Addr×Obj)}{σ:St}{H:Hp}{s:Shared}
end
section
variable{X:Cx}{tg:Expr}
end
end L2
namespace Ts
open PySem L2
structure Dz(α:Type) where
 kv:List (Key×α)
section
variable{K:PySem.W.Frag}{α:Type}[Rp K α]{B:Bs}{sl:SL K}{md:Md}{t t2:TE}{u:TS}{S:Type}
instance:Rp K (Dz α):=⟨λF v d=>∃p ks o,v=.ref p/\F p=some (.lC o (.dK ks))/\A2 (DR K F) ks d.kv,λs ⟨p,ks,o,h1,h2,h3⟩=>⟨p,ks,o,h1,s _ _ h2,h3.imp λ_ _ z=>⟨z.1,Rp.mono s z.2⟩⟩⟩
end
end Ts
namespace L2
open PySem PySem.Spec PyProof.Rows
section
variable{X:Cx}
end
end L2
namespace Ts
open PySem L2
section
variable{K:PySem.W.Frag}{α:Type}[Rp K α]{B:Bs}{sl:SL K}{md:Md}{t t2 te:TE}{u:TS}{S:Type}
instance:Nn K (Dz α):=⟨λ⟨_,_,_,h,_⟩=>by rw[h];intro e;cases e⟩
structure LNe where
 u:Unit
instance:Rp K LNe:=⟨λF v _=>∃p vs,v=.ref p/\F p=some (.lst vs)/\vs≠[],λs ⟨p,vs,h1,h2,h3⟩=>⟨p,vs,h1,s _ _ h2,h3⟩⟩
end
structure YB(α:Type) where
 xss:List (List α)
abbrev Rr:=List (Addr×List V)
def Vn(p:Addr)(rs:Rr):Own:=(p,.lst (rs.map λr=>V.ref r.1))::rs.map λr=>(r.1,HO.lst r.2)
def Ld(K:PySem.W.Frag){α:Type}[Rp K α](R:Hp)(rs:Rr)(xss:List (List α)):Prop:=A2 (λ(r:Addr×List V) (row:List α)=>A2 (rp K R) r.2 row) rs xss
section
variable{K:PySem.W.Frag}{α:Type}[Rp K α]
theorem zOw:∀{rs:Rr}{xss:List (List α)},Ld K R rs xss->(∀r∈rs,R r.1=some (.lst r.2))->A2 (rp K R) (rs.map λr=>V.ref r.1) xss
 |[],[],_,_=>trivial
 |r::rs,row::xss,h,m=>⟨⟨r.1,r.2,rfl,m r mem_cons_self,h.1⟩,zOw h.2 λq hq=>m q (mem_cons_of_mem _ hq)⟩
 |[],_::_,h,_=>h.elim
 |_::_,[],h,_=>h.elim
theorem RW(h:r∈rs):(r.1,HO.lst r.2)∈Vn p rs:=mem_cons_of_mem _ (mem_map.mpr ⟨r,h,rfl⟩)
end
section
variable{K:PySem.W.Frag}{B:Bs}{sl sl2:SL K}{F H G:Hp}{O:Own}{σ:St}{md:Md}{te t2 t3:TE}{t u:TS}{al:Bool}
section
variable{α:Type}[Rp K α]
end
end
section
variable{K:PySem.W.Frag}{B:Bs}{sl sl2:SL K}{F H G:Hp}{O:Own}{σ:St}{md:Md}{te t2 t3:TE}{t u:TS}{al:Bool}{α:Type}[Rp K α]
end
section
variable{K:PySem.W.Frag}{B:Bs}{sl sl2:SL K}{F H G:Hp}{O:Own}{σ:St}{md:Md}{te ti t2 t3:TE}{t u tb:TS}{al:Bool}{p:Addr}{ws:LI}{S:Type}
end
section
variable{P:Program}{w:World}{K:PySem.W.Frag}{mg:Str->Option Value}{base:Heap}
end
structure Ob0 where
 u:Unit
instance:Ob K Ob0 where
 β:=Unit
 lK:=inferInstance
 ro _ v _ O:=v=.non/\O=[]
 mono _ h:=h
 val _:=()
 lC h _:=h.1
class Ak (K:PySem.W.Frag) (α:Type) [Rp K α]:Prop where
 keep:∀{F F':Hp}{v:V}{a:α},(∀b t,F b=some (.tup t)->F' b=some (.tup t))->rp K F v a->rp K F' v a
section
variable{K:PySem.W.Frag}
instance:Ak K Int:=⟨λ_ h=>h⟩
instance:Ak K Str:=⟨λ_ h=>h⟩
instance:Ak K Key:=⟨λ_ h=>h⟩
instance{α:Type}[Rp K α][Ak K α]:Ak K (Option α):=⟨λ{_ _ _ a} k h=>match a,h with
 |none,h=>h
 |some _,h=>⟨h.1,Ak.keep k h.2⟩⟩
instance{α β:Type}[Rp K α][Rp K β][Ak K α][Ak K β]:Ak K (α×β):=⟨λk ⟨p,a,b,h1,h2,h3,h4⟩=>⟨p,a,b,h1,k _ _ h2,Ak.keep k h3,Ak.keep k h4⟩⟩
variable{B:Bs}{sl sl2:SL K}{F F' H H1 H2 G:Hp}{O:Own}{σ:St}{md:Md}{te t1 t2 t3:TE}{t u:TS}{al:Bool}
theorem At.RX(X:Addr->Bool)(z:At B sl F O H1 σ)(s2:Same H1 H2)(hn:sl.all (λs=>!wk s)=true):∃F2,Same F F2/\At B sl F2 O H2 σ/\(∀b o,dif H2 H1 b=some o->X b=false->F2 b=some o)/\∀b o,dif H2 H1 b=some o->X b=true->F2 b=none/\B.H0 b=none/\∀x∈O,x.1≠b:=by
 have nw:∀b o,dif H2 H1 b=some o->H1 b=none/\H2 b=some o:=λb o e=>by
  unfold dif at e
  cases q:H1 b with
  |none=>rw[q] at e;exact⟨rfl,e⟩
  |some u=>rw[q] at e;cases e
 let F2:Hp:=λb=>match F b with
  |some o=>some o
  |none=>if X b=true then none else dif H2 H1 b
 have e1:∀b o,F b=some o->F2 b=some o:=λb o e=>by show(match F b with|some o=>some o|none=>_)=_;rw[e]
 have e2:∀b,F b=none->F2 b=if X b=true then none else dif H2 H1 b:=λb e=>by show(match F b with|some o=>some o|none=>_)=_;rw[e]
 refine⟨F2,e1,⟨⟨λb o e=>?_,z.1.h0.trans s2,λb o e=>?_,λx hx=>?_,z.1.nd⟩,(z.2.mono e1 (.refl _) s2).calm hn⟩,λb o e x=>?_,λb o e x=>?_⟩
 ·cases q:F b with
  |some u=>rw[e1 b u q] at e;cases e;exact s2 _ _ (z.1.fh _ _ q)
  |none =>
   rw[e2 b q] at e
   split at e
   ·cases e
   ·exact(nw b o e).2
 ·cases q:F b with
  |some u=>rw[e1 b u q] at e;cases e;exact z.1.fa _ _ q
  |none =>
   rw[e2 b q] at e
   split at e
   ·cases e
   ·exact .inr (z.1.h0.free (nw b o e).1)
 ·obtain⟨a1,a2,a3⟩:=z.1.fo x hx
  refine⟨?_,a2,s2 _ _ a3⟩
  rw[e2 _ a1]
  split
  ·rfl
  ·unfold dif
   rw[a3]
 ·rw[e2 b (z.1.fh.free (nw b o e).1),if_neg (by rw[x];decide)]
  exact e
 ·have h1:=(nw b o e).1
  refine⟨by rw[e2 b (z.1.fh.free h1),if_pos x],z.1.h0.free h1,λy hy q=>?_⟩
  have:=(z.1.fo y hy).2.2
  rw[q,h1] at this
  cases this
theorem At.YC{β:Type}[Ob K β]{a:β}{Oc:Own}(z:At B sl F O H σ)(hn:sl.all (λs=>!wk s)=true)(hs:sl[i]?=some s)(ho:iW s=false)(nd:(Oc.map (·.1)).Nodup)(cells:∀x∈Oc,F x.1=none/\B.H0 x.1=none/\H x.1=some x.2/\∀y∈O,y.1≠x.1)(r:Ob.ro K (reg B F H (jt n)) v a Oc):∃O',At B (sl.set i (.ob n a)) F O' H (σ.set i (some v)):=by
 obtain⟨k,z0⟩:=z
 have q1:=z0.put (s':=.ob true (Ob0.mk ())) (x:=some .non) (λ_ _ _ y=>ak.ob (Oc:=[]) (show V.non=.non/\([]:Own)=[] from⟨rfl,rfl⟩) y) hs ho
 obtain⟨O1,Oc0,O2,v0,e,_,⟨_,rfl⟩,h3⟩:=q1.pU (zOp hs)
 have e:O=O1++O2:=e
 subst e
 have zz:=h3 (.ob n a) (some v) Oc λ_ _ _ y=>.ob r y
 rw[set_set,set_set] at zz
 refine⟨O1++(Oc++O2),⟨k.fh,k.h0,k.fa,λx hx=>?_,?_⟩,zz.calm (QS rfl hn)⟩
 ·rcases mem_append.mp hx with hx|hx
  ·exact k.fo x (mem_append_left _ hx)
  ·rcases mem_append.mp hx with hx|hx
   ·exact⟨(cells x hx).1,(cells x hx).2.1,(cells x hx).2.2.1⟩
   ·exact k.fo x (mem_append_right _ hx)
 ·have n0:=k.nd
  rw[map_append,nodup_append] at n0
  rw[map_append,map_append,nodup_append,nodup_append]
  refine⟨n0.1,⟨nd,n0.2.1,λa ha b hb e=>?_⟩,λa ha b hb e=>?_⟩
  ·obtain⟨x,hx,rfl⟩:=mem_map.mp ha
   obtain⟨y,hy,rfl⟩:=mem_map.mp hb
   exact(cells x hx).2.2.2 y (mem_append_right _ hy) e.symm
  ·obtain⟨y,hy,rfl⟩:=mem_map.mp ha
   rcases mem_append.mp hb with hb|hb
   ·obtain⟨x,hx,rfl⟩:=mem_map.mp hb
    exact(cells x hx).2.2.2 y (mem_append_left _ hy) e
   ·exact n0.2.2 _ ha _ hb e
section
variable{α:Type}[Rp K α]
end
structure TpL(α β:Type) where
 a:α
 b:List β
instance{α β:Type}[Rp K α][Rp K β]:Ob K (TpL α β) where
 β:=α×List β
 lK:=inferInstance
 ro R v x Oc:=∃t p vs w,v=.ref t/\R t=some (.tup [w,.ref p])/\Oc=[(p,.lst vs)]/\rp K R w x.a/\A2 (rp K R) vs x.b
 mono s:=λ⟨t,p,vs,w,h1,h2,h3,h4,h5⟩=>⟨t,p,vs,w,h1,s _ _ h2,h3,Rp.mono s h4,h5.imp λ_ _=>Rp.mono s⟩
 val x:=(x.a,x.b)
 lC:=λ⟨t,p,vs,w,h1,h2,h3,h4,h5⟩ m=>⟨t,w,.ref p,h1,h2,h4,p,vs,rfl,m (p,.lst vs) (by rw[h3];exact mem_cons_self),h5⟩
section
variable{α:Type}[Rp K α]
end
end
section
variable{K:PySem.W.Frag}{B:Bs}{sl:SL K}{md:Md}{te ti tj:TE}
end
open PySem L2 SeqAt
section
variable{K:PySem.W.Frag}
def unV:Value->V
 |.none=>.non
 |.bool b=>.bl b
 |.int i _=>.int i
 |.str x _=>.str x
 |.bytes b _=>.BL b
 |.float b _=>.flt b
 |.ref a=>.ref a
 |.type n=>.ty n
 |_=>.non
noncomputable def eIn(K:PySem.W.Frag)(H:Hp){α:Type}[Rp K α](a:α)(u:Value):Bool:=@decide (rp K H (unV u) a) (Classical.propDecidable _)
variable{B:Bs}{sl:SL K}{md W8:Md}{α:Type}[Rp K α]{t1 t2:TE}
end
structure Dp where
 ks:List (Int×Int)
def dpK(p:Int×Int):List Key:=[Sum.inl p.1,Sum.inl p.2]
def dpV(ks:List (Int×Int)):List (List Key×V):=ks.map λp=>(dpK p,V.bl true)
section
variable{K:PySem.W.Frag}
instance:Rp K Dp:=⟨λF v x=>∃p,v=.ref p/\F p=some (.dT (dpV x.ks)),λs ⟨p,h1,h2⟩=>⟨p,h1,s _ _ h2⟩⟩
instance:Nn K Dp:=⟨λ⟨_,h,_⟩=>by rw[h];intro e;cases e⟩
instance:Ob K Dp where
 β:=Dp
 lK:=inferInstance
 ro _ v x Oc:=∃p,v=.ref p/\Oc=[(p,.dT (dpV x.ks))]
 mono _:=id
 val x:=x
 lC:=λ⟨p,h1,h2⟩ m=>by
  subst h2
  exact⟨p,h1,m _ mem_cons_self⟩
variable{B:Bs}{sl:SL K}{md:Md}{te ti t t2:TE}
end
inductive Lv where
 |loop (w l:LI)
 |rank (r:Int) (o:Option Int)
structure Fz where
 x:Lv
structure b_ where
 xs:List Lv
abbrev La:=Addr×Option (Addr×Addr)
def Vo:Option Int->V
 |none=>.non
 |some i=>.int i
def RZ:Lv->Option (Addr×Addr)->Option (List V)
 |.loop _ _,some ab=>some [.str "loop",.ref ab.1,.ref ab.2]
 |.rank r o,none=>some [.str "rank",.int r,Vo o]
 |_,_=>none
def gC:Lv->Option (Addr×Addr)->Own
 |.loop w l,some ab=>[(ab.1,.lst (w.map V.int)),(ab.2,.lst (l.map V.int))]
 |_,_=>[]
def aX:List La->List Lv->Own
 |r::rs,x::xs=>gC x r.2++aX rs xs
 |_,_=>[]
def nq(p:Addr)(rs:List La)(xs:List Lv):Own:=(p,.lst (rs.map λr=>V.ref r.1))::aX rs xs
def YD(R:Hp)(r:La)(x:Lv):Prop:=∃t,RZ x r.2=some t/\R r.1=some (.tup t)
def lq(R:Hp)(rs:List La)(xs:List Lv):Prop:=A2 (YD R) rs xs
theorem zPy(h:y∈gC x o):∃vs,y.2=.lst vs:=by
 cases x with
 |rank r o'=>cases h
 |loop w l =>
  cases o with
  |none=>cases h
  |some ab =>
   rcases mem_cons.mp h with e|h
   ·exact⟨_,by rw[e]⟩
   ·exact⟨_,by rw[mem_singleton.mp h]⟩
theorem zJe:∀{rs:List La}{xs:List Lv},rs.length=xs.length->aX (rs++[r]) (xs++[x])=aX rs xs++gC x r.2
 |[],[],_=>by show gC x r.2++[]=[]++gC x r.2;rw[append_nil];rfl
 |q::rs,y::xs,h=>by
  show gC y q.2++aX (rs++[r]) (xs++[x])=(gC y q.2++aX rs xs)++gC x r.2
  rw[zJe (by simpa using h),append_assoc]
 |[],_::_,h=>by simp at h
 |_::_,[],h=>by simp at h
theorem zLz:∀{rs:List La}{xs:List Lv}{y:Addr×HO},y∈aX rs xs->∃vs,y.2=.lst vs
 |r::rs,x::xs,y,h=>by
  rcases mem_append.mp (show y∈gC x r.2++aX rs xs from h) with h|h
  ·exact zPy h
  ·exact zLz h
 |[],_,_,h=>by simp[aX] at h
 |_::_,[],_,h=>by simp[aX] at h
section
variable{K:PySem.W.Frag}
instance:Rp K Lv:=⟨λF v x=>∃(q:Addr)(o:Option (Addr×Addr))(t:List V),v=.ref q/\RZ x o=some t/\F q=some (.tup t)/\∀y∈gC x o,F y.1=some y.2,λs ⟨q,o,t,h1,h2,h3,h4⟩=>⟨q,o,t,h1,h2,s _ _ h3,λy hy=>s _ _ (h4 y hy)⟩⟩
instance:Nn K Lv:=⟨λ⟨_,_,_,h,_⟩=>by rw[h];intro e;cases e⟩
instance:Rp K Fz:=⟨λF v x=>∃(q:Addr)(o:Option (Addr×Addr))(t:List V),v=.ref q/\RZ x.x o=some t/\F q=some (.tup t)/\(∀y∈gC x.x o,F y.1=some y.2)/\((gC x.x o).map λy:Addr×HO=>y.1).Nodup,λs ⟨q,o,t,h1,h2,h3,h4,h5⟩=>⟨q,o,t,h1,h2,s _ _ h3,λy hy=>s _ _ (h4 y hy),h5⟩⟩
instance:Nn K Fz:=⟨λ⟨_,_,_,h,_⟩=>by rw[h];intro e;cases e⟩
theorem lq.mono(s:∀b t,R b=some (.tup t)->R' b=some (.tup t))(h:lq R rs xs):lq R' rs xs:=A2.imp (λ_ _ ⟨t,a,b⟩=>⟨t,a,s _ _ b⟩) h
theorem YF(s:∀b t,R b=some (.tup t)->R' b=some (.tup t)):∀{rs:List La}{xs:List Lv},lq R rs xs->(∀y∈aX rs xs,R' y.1=some y.2)->A2 (rp K R') (rs.map λr=>V.ref r.1) xs
 |[],[],_,_=>trivial
 |r::rs,x::xs,h,m=>by
  obtain⟨⟨t,a,b⟩,h2⟩:=h
  exact⟨⟨r.1,r.2,t,rfl,a,s _ _ b,λy hy=>m y (mem_append_left _ hy)⟩,YF s h2 λy hy=>m y (mem_append_right _ hy)⟩
 |[],_::_,h,_=>h.elim
 |_::_,[],h,_=>h.elim
instance:Ob K b_ where
 β:=List Lv
 lK:=inferInstance
 ro R v x Oc:=∃(p:Addr)(rs:List La),v=.ref p/\Oc=nq p rs x.xs/\lq R rs x.xs
 mono s:=λ⟨p,rs,h1,h2,h3⟩=>⟨p,rs,h1,h2,h3.mono λb t e=>s _ _ e⟩
 val x:=x.xs
 lC:=λ⟨p,rs,h1,h2,h3⟩ m=>by
  subst h2
  exact⟨p,_,h1,m _ mem_cons_self,YF (λ_ _ e=>e) h3 λy hy=>m y (mem_cons_of_mem _ hy)⟩
instance:Rp K b_:=⟨λF v x=>∃(p:Addr)(rs:List La),v=.ref p/\(∀y∈nq p rs x.xs,F y.1=some y.2)/\((nq p rs x.xs).map λy:Addr×HO=>y.1).Nodup/\lq F rs x.xs,λs ⟨p,rs,h1,h2,h3,h4⟩=>⟨p,rs,h1,λy hy=>s _ _ (h2 y hy),h3,h4.mono λb t e=>s _ _ e⟩⟩
instance:Nn K b_:=⟨λ⟨_,_,h,_⟩=>by rw[h];intro e;cases e⟩
variable{B:Bs}{sl sl2:SL K}{F H G:Hp}{O:Own}{σ:St}{md:Md}{te t2 t3:TE}{t u:TS}{al:Bool}
theorem At.FJ{β:Type}[Ob K β]{a:β}(z:At B sl F O H σ)(hn:sl.all (λs=>!wk s)=true)(hs:sl[i]?=some (.ob n a)) :
  ∃Oc v,σ[i]?=some (some v)/\Ob.ro K (reg B F H (jt n)) v a Oc/\(∀x∈Oc,H x.1=some x.2/\F x.1=none/\B.H0 x.1=none)/\(Oc.map (·.1)).Nodup/\(∀x∈Oc,x∈O) /\
   ∀(a':β)(Oc':Own)(H':Hp),Ob.ro K (reg B F H (jt n)) v a' Oc'->(Oc'.map (·.1)).Nodup->(∀b u,H b=some u->(∀x∈Oc,x.1≠b)->H' b=some u)->(∀x∈Oc',H' x.1=some x.2/\F x.1=none/\B.H0 x.1=none/\((∃y∈Oc,y.1=x.1)\/∀y∈O,y.1≠x.1))->∃O',At B (sl.set i (.ob n a')) F O' H' σ:=by
 obtain⟨k,z0⟩:=z
 obtain⟨O1,Oc,O2,v,rfl,h1,h2,h3⟩:=z0.pU hs
 have qC:∀x∈Oc,x∈O1++(Oc++O2):=λx hx=>mem_append_right _ (mem_append_left _ hx)
 have nd:=k.nd
 rw[map_append,map_append,nodup_append] at nd
 obtain⟨Va,pL,nd3⟩:=nd
 rw[nodup_append] at pL
 obtain⟨nd4,nd5,nd6⟩:=pL
 have off1:∀x∈O1,∀y∈Oc,y.1≠x.1:=λx hx y hy e=>nd3 x.1 (mem_map.mpr ⟨x,hx,rfl⟩) y.1 (mem_append_left _ (mem_map.mpr ⟨y,hy,rfl⟩)) e.symm
 have off2:∀x∈O2,∀y∈Oc,y.1≠x.1:=λx hx y hy e=>nd6 y.1 (mem_map.mpr ⟨y,hy,rfl⟩) x.1 (mem_map.mpr ⟨x,hx,rfl⟩) e
 have in1:∀x∈O1,x∈O1++(Oc++O2):=λx hx=>mem_append_left _ hx
 have in2:∀x∈O2,x∈O1++(Oc++O2):=λx hx=>mem_append_right _ (mem_append_right _ hx)
 refine⟨Oc,v,h1,h2,λx hx=>⟨(k.fo x (qC x hx)).2.2,(k.fo x (qC x hx)).1,(k.fo x (qC x hx)).2.1⟩,nd4,qC,λa' Oc' H' r nd' keep cells=>⟨O1++(Oc'++O2),?_,?_⟩⟩
 ·refine⟨λb o e=>?_,λb o e=>?_,k.fa,λx hx=>?_,?_⟩
  ·exact keep b o (k.fh b o e) λx hx q=>by rw[<-q,(k.fo x (qC x hx)).1] at e;cases e
  ·exact keep b o (k.h0 b o e) λx hx q=>by rw[<-q,(k.fo x (qC x hx)).2.1] at e;cases e
  ·rcases mem_append.mp hx with hx|hx
   ·obtain⟨a1,a2,a3⟩:=k.fo x (in1 x hx)
    exact⟨a1,a2,keep _ _ a3 (off1 x hx)⟩
   ·rcases mem_append.mp hx with hx|hx
    ·exact⟨(cells x hx).2.1,(cells x hx).2.2.1,(cells x hx).1⟩
    ·obtain⟨a1,a2,a3⟩:=k.fo x (in2 x hx)
     exact⟨a1,a2,keep _ _ a3 (off2 x hx)⟩
  ·have fresh:∀x∈Oc',∀y,y∈O1\/y∈O2->y.1≠x.1:=λx hx y hy e=>by
    rcases(cells x hx).2.2.2 with⟨w,hw,q⟩|q
    ·rcases hy with hy|hy
     ·exact off1 y hy w hw (q.trans e.symm)
     ·exact off2 y hy w hw (q.trans e.symm)
    ·exact q y (hy.elim (in1 y) (in2 y)) e
   rw[map_append,map_append,nodup_append,nodup_append]
   refine⟨Va,⟨nd',nd5,λa ha b hb e=>?_⟩,λa ha b hb e=>?_⟩
   ·obtain⟨x,hx,rfl⟩:=mem_map.mp ha
    obtain⟨y,hy,rfl⟩:=mem_map.mp hb
    exact fresh x hx y (.inr hy) e.symm
   ·obtain⟨y,hy,rfl⟩:=mem_map.mp ha
    rcases mem_append.mp hb with hb|hb
    ·obtain⟨x,hx,rfl⟩:=mem_map.mp hb
     exact fresh x hx y (.inl hy) e
    ·exact nd3 _ ha _ (mem_append_right _ hb) e
 ·have zz:=h3 (.ob n a') (some v) Oc' λ_ _ _ y=>.ob r y
  rw[QM h1] at zz
  exact zz.calm (QS rfl hn)
theorem zR9(i:Nat)(hs:sl[i]?=some s)(ho:iW s=false):Sn B sl (lE (C_ bF) (qH i)) (λx:b_=>sl.set i (.ob true x)) (some (b_.mk [])):=λa ha G D σ H s k=>by
 cases ha
 obtain⟨F,O,g,k0,z0⟩:=s
 refine⟨Nat.zero_le _,λp hp=>k _ _ ?_⟩
 obtain⟨O1,O2,rfl,z'⟩:=z0.own (s':=.ob true (b_.mk [])) (x:=some (.ref p)) (c:=(p,.lst [])) (λ_ _ _ z=>ak.ob (Oc:=nq p [] []) (show∃(q:Addr)(rs:List La),V.ref p=.ref q/\nq p [] []=nq q rs []/\lq _ rs [] from⟨p,[],rfl,rfl,trivial⟩) z) hs ho
 exact⟨F,_,g,k0.add hp,z'.mono (.refl _) (Ut hp) (aO hp _)⟩
def Lf(x:b_)(y:Fz):Option b_:=if x.xs.length<cap then some (b_.mk (x.xs++[y.x])) else none
theorem Og(e:dif H2 H1 b=some o):H1 b=none/\H2 b=some o:=by
 unfold dif at e
 cases q:H1 b with
 |none=>rw[q] at e;exact⟨rfl,e⟩
 |some u=>rw[q] at e;cases e
theorem zLi(i:Nat)(hs:sl[i]?=some (.ob true x))(hn:sl.all (λs=>!wk s)=true)(h:En B sl te m) :
  Sn B sl (Hf (Nk K "list" Um (dh i) (xG te bF))) (λa=>sl.set i (.ob true a)) (m.bind λy=>Lf x y):=λc hc G D σ H s k=>by
 cases m with
 |none=>cases hc
 |some y =>
  have hc:Lf x y=some c:=hc
  unfold Lf at hc
  split at hc
  case isFalse=>cases hc
  rename_i hl
  cases hc
  obtain⟨F,O,g,z⟩:=s
  obtain⟨Oc,v,h1,⟨p,rs,rfl,rfl,h2⟩,c1,_⟩:=z.FJ hn hs
  refine⟨_,h1,.inl ⟨rfl,_,aV.of (c1 _ mem_cons_self).1⟩,h y rfl F O H σ _ z λv F' H1 H2 gr s2 r=>?_⟩
  obtain⟨q,o,tt,rfl,r2,r3,r4,r5⟩:=r
  obtain⟨F2,sf,z2,o1,o2⟩:=(z.grow gr).RX (λb=>decide (b∈(gC y.x o).map (·.1))) s2 hn
  obtain⟨Oc2,v2,h1',⟨p2,Al,rfl,rfl,h2'⟩,c2,nd,qC,up⟩:=z2.FJ hn hs
  cases h1.symm.trans h1'
  have hp:=(c2 _ mem_cons_self).1
  have len:Al.length=x.xs.length:=h2'.len
  have qx:q∉(gC y.x o).map (·.1):=λhq=>by
   obtain⟨w,hw,e⟩:=mem_map.mp hq
   obtain⟨vs,ew⟩:=zPy hw
   have:=r4 w hw
   rw[e,r3,ew] at this
   cases this
  have fq:dif F2 B.H0 q=some (.tup tt):=by
   rw[uO (gr.ok.h0.free (Og r3).1)]
   exact o1 q _ r3 (decide_eq_false qx)
  have nw:∀w∈gC y.x o,F2 w.1=none/\B.H0 w.1=none/\∀v∈O,v.1≠w.1:=λw hw=>o2 w.1 w.2 (r4 w hw) (decide_eq_true (mem_map.mpr ⟨w,hw,rfl⟩))
  have ne:∀w∈gC y.x o,w.1≠p:=λw hw e=>(nw w hw).2.2 _ (qC _ mem_cons_self) e.symm
  refine⟨p,_,.ref q,rfl,rfl,hp,Hw (by rw[length_map,len];exact hl),?_⟩
  have eO:nq p (Al++[(q,o)]) (x.xs++[y.x])=(p,.lst ((Al++[(q,o)]).map λr=>V.ref r.1))::(aX Al x.xs++gC y.x o):=by unfold nq;rw[zJe len]
  obtain⟨O',z'⟩:=up (b_.mk (x.xs++[y.x])) (nq p (Al++[(q,o)]) (x.xs++[y.x])) (upd H2 p (.lst (Al.map (λr=>V.ref r.1)++[.ref q]))) ⟨p,_,rfl,rfl,A2.snoc h2' ⟨tt,r2,fq⟩⟩ (by
   rw[eO]
   have nd:(p::(aX Al x.xs).map (·.1)).Nodup:=nd
   show(p::(aX Al x.xs++gC y.x o).map (·.1)).Nodup
   rw[map_append,<-List.cons_append,nodup_append]
   refine⟨nd,r5,λa ha b hb e=>?_⟩
   obtain⟨w,hw,rfl⟩:=mem_map.mp hb
   have ha:a∈(nq p Al x.xs).map (·.1):=ha
   obtain⟨v,hv,rfl⟩:=mem_map.mp ha
   exact(nw w hw).2.2 v (qC v hv) e) (λb u e off=>by
   rw[zP λe2=>off _ mem_cons_self e2.symm];exact e) (λw hw=>by
   rw[eO] at hw
   rcases mem_cons.mp hw with e|hw
   ·subst e
    exact⟨by rw[zW,map_append];rfl,(c2 _ mem_cons_self).2.1,(c2 _ mem_cons_self).2.2,.inl ⟨_,mem_cons_self,rfl⟩⟩
   ·rcases mem_append.mp hw with hw|hw
    ·have hm:w∈nq p Al x.xs:=mem_cons_of_mem _ hw
     have n1:w.1≠p:=λe=>by
      have nd:(p::(aX Al x.xs).map (·.1)).Nodup:=nd
      exact(nodup_cons.mp nd).1 (e▸mem_map.mpr ⟨w,hw,rfl⟩)
     exact⟨by rw[zP n1];exact(c2 w hm).1,(c2 w hm).2.1,(c2 w hm).2.2,.inl ⟨w,hm,rfl⟩⟩
    ·exact⟨by rw[zP (ne w hw)];exact(Og (r4 w hw)).2,(nw w hw).1,(nw w hw).2.1,.inr (nw w hw).2.2⟩)
  exact k _ _ ⟨F2,O',(g.trans gr.ff).trans sf,z'⟩
theorem zSh{x:b_}(i:Nat)(hs:sl[i]?=some (.ob true x)):SB B sl (kO (yj (dh i)) u) false (some x):=λb hb G D σ H s k=>by
 cases hb
 obtain⟨F,O,g,a⟩:=s
 obtain⟨O1,Oc,O2,v,e,h1,⟨p,rs,rfl,rfl,h2⟩,_⟩:=a.2.pU hs
 have qC:∀y∈nq p rs x.xs,y∈O:=λx hx=>by rw[e];exact mem_append_right _ (mem_append_left _ hx)
 refine⟨_,h1,k _ H ⟨a.1.h0,p,rs,rfl,λy hy=>?_,?_,h2.mono λb t e=>wK a.1.fh _ _ e⟩⟩
 ·obtain⟨_,a2,a3⟩:=a.1.fo y (qC y hy)
  show dif H B.H0 y.1=_
  rw[uO a2];exact a3
 ·have nd:=a.1.nd
  rw[e,map_append,map_append,nodup_append] at nd
  exact(nodup_append.mp nd.2.1).1
theorem FN{s:Slot K}{m:Option b_}(i:Nat)(hs:sl[i]?=some s)(ho:iW s=false)(hn:sl.all (λs=>!wk s)=true)(h:En B sl te m):Sn B sl (lE te (qH i)) (λa=>sl.set i (.ob true a)) m:=λa ha G D σ H s k=>by
 obtain⟨F,O,g,z⟩:=s
 refine h a ha F O H σ _ z λv F' H1 H2 gr s2 r=>k _ _ ?_
 obtain⟨p,rs,rfl,c,nd,r4⟩:=r
 obtain⟨F2,sf,z2,o1,o2⟩:=(z.grow gr).RX (λb=>decide (b∈(nq p rs a.xs).map (·.1))) s2 hn
 have isl:∀b t,dif H2 H1 b=some (.tup t)->b∉(nq p rs a.xs).map (·.1):=λb t e hb=>by
  obtain⟨y,hy,rfl⟩:=mem_map.mp hb
  rw[c y hy] at e
  rcases mem_cons.mp hy with q|hy
  ·rw[q] at e;cases e
  ·obtain⟨w,q⟩:=zLz hy
   rw[q] at e;cases e
 have rr:lq (dif F2 B.H0) rs a.xs:=r4.mono λb t e=>by
  rw[uO (gr.ok.h0.free (Og e).1)]
  exact o1 b _ e (decide_eq_false (isl b t e))
 obtain⟨O',z'⟩:=z2.YC (n:=true) (a:=a) (v:=.ref p) (Oc:=nq p rs a.xs) hn hs ho nd (λx hx=>by
  obtain⟨a1,a2,a3⟩:=o2 x.1 x.2 (c x hx) (decide_eq_true (mem_map.mpr ⟨x,hx,rfl⟩))
  exact⟨a1,a2,aP _ _ (c x hx),a3⟩) (show∃(p':Addr)(rs':List La),V.ref p=.ref p'/\nq p rs a.xs=nq p' rs' a.xs/\lq (dif F2 B.H0) rs' a.xs from⟨p,rs,rfl,rfl,rr⟩)
 exact⟨F2,O',(g.trans gr.ff).trans sf,z'⟩
theorem zTk{n:Bool}{x:b_}(i:Nat)(hs:sl[i]?=some (.ob n x)):Ex B sl .hp (dh i) (some x.xs):=λa' ha F O H σ Q s k=>by
 cases ha
 obtain⟨O1,Oc,O2,v,e,h1,⟨p,rs,rfl,rfl,h2⟩,_⟩:=s.2.pU hs
 have qC:∀y∈nq p rs x.xs,H y.1=some y.2:=λx hx=>(s.1.fo x (by rw[e];exact mem_append_right _ (mem_append_left _ hx))).2.2
 exact⟨_,h1,k _ F H (.refl s.1) ⟨p,_,rfl,qC _ mem_cons_self,YF (λb t e=>BX s.1 n _ _ e) h2 λy hy=>qC y (mem_cons_of_mem _ hy)⟩⟩
end
def Cj:Lv->Option Str
 |.loop _ _=>some "loop"
 |.rank _ _=>some "rank"
def jz:Lv->Option LI
 |.loop w _=>some w
 |.rank _ _=>none
def iH:Lv->Option LI
 |.loop _ l=>some l
 |.rank _ _=>none
def lQ:Lv->Option Int
 |.loop _ _=>none
 |.rank r _=>some r
def jT:Lv->Option (Option Int)
 |.loop _ _=>none
 |.rank _ o=>some o
section
variable{K:PySem.W.Frag}{B:Bs}{sl sl2:SL K}{F H G:Hp}{O:Own}{σ:St}{md:Md}{te t1 t2 t3:TE}{t u:TS}{al:Bool}
theorem R3{δ:Type}[Rp K δ]{pr:Lv->Option δ}(i:Int)(hp:∀(R:Hp) (x:Lv) (o:Option (Addr×Addr)) (t:List V) (d:δ),RZ x o=some t->(∀y∈gC x o,R y.1=some y.2)->pr x=some d->∃y,L2.aH t i=some y/\rp K R y d)(h1:Ex B sl md t1 m)(h2:Ex B sl .hp t2 (some i)):Ex B sl md (dN (kZ K) t1 t2) (m.bind pr):=λc hc F O H σ Q s k=>by
 cases m with
 |none=>cases hc
 |some x =>
  have hc:pr x=some c:=hc
  refine h1 x rfl F O H σ _ s λv F' H' g r1=>?_
  refine h2 i rfl F' O H' σ _ (s.grow g) λw F2 H2 g2 r2=>?_
  cases r2
  obtain⟨q,o,tt,rfl,z1,z2,z3⟩:=r1
  have hle:Same (reg B F' H' md) H2:=(match md with
   |.nw=>aP.trans g.ok.fh
   |.fz=>g.ok.fh
   |.hp=>.refl _:Same (reg B F' H' md) H').trans g2.hh
  obtain⟨y,e1,e2⟩:=hp (reg B F' H' md) x o tt c z1 z3 hc
  exact⟨q,tt,i,y,rfl,rfl,.inl (.inl (hle _ _ z2)),e1,k y F2 H2 (g.trans g2) (Rp.mono (wE g2 md) e2)⟩
theorem R5(h1:Ex B sl md t1 m)(h2:Ex B sl .hp t2 (some (0:Int))):Ex B sl md (dN (kZ K) t1 t2) (m.bind Cj):=R3 0 (λR x o t d e _ q=>by
 cases x with
 |loop w l=>cases o with
  |none=>cases e
  |some ab=>cases e;cases q;exact⟨_,rfl,rfl⟩
 |rank r o'=>cases o with
  |none=>cases e;cases q;exact⟨_,rfl,rfl⟩
  |some ab=>cases e) h1 h2
theorem R7(h1:Ex B sl md t1 m)(h2:Ex B sl .hp t2 (some (1:Int))):Ex B sl md (dN (kZ K) t1 t2) (m.bind jz):=R3 1 (λR x o t d e c q=>by
 cases x with
 |loop w l=>cases o with
  |none=>cases e
  |some ab=>cases e;cases q;exact⟨_,rfl,ab.1,_,rfl,c _ mem_cons_self,Ed _⟩
 |rank r o'=>cases q) h1 h2
theorem Lg(h1:Ex B sl md t1 m)(h2:Ex B sl .hp t2 (some (2:Int))):Ex B sl md (dN (kZ K) t1 t2) (m.bind iH):=R3 2 (λR x o t d e c q=>by
 cases x with
 |loop w l=>cases o with
  |none=>cases e
  |some ab=>cases e;cases q;exact⟨_,rfl,ab.2,_,rfl,c _ (mem_cons_of_mem _ mem_cons_self),Ed _⟩
 |rank r o'=>cases q) h1 h2
theorem Oh(h1:Ex B sl md t1 m)(h2:Ex B sl .hp t2 (some (1:Int))):Ex B sl md (dN (kZ K) t1 t2) (m.bind lQ):=R3 1 (λR x o t d e _ q=>by
 cases x with
 |loop w l=>cases q
 |rank r o'=>cases o with
  |none=>cases e;cases q;exact⟨_,rfl,rfl⟩
  |some ab=>cases e) h1 h2
theorem Lh:∀o:Option Int,rp K R (Vo o) o
 |none=>rfl
 |some i=>⟨λe=>(by cases e),rfl⟩
theorem Iv(h1:Ex B sl md t1 m)(h2:Ex B sl .hp t2 (some (2:Int))):Ex B sl md (dN (kZ K) t1 t2) (m.bind jT):=R3 2 (λR x o t d e _ q=>by
 cases x with
 |loop w l=>cases q
 |rank r o'=>cases o with
  |none=>cases e;cases q;exact⟨_,rfl,Lh _⟩
  |some ab=>cases e) h1 h2
theorem FQ{x:Lv}{o:Option (Addr×Addr)}{t:List V}(e:RZ x o=some t):t.length=3:=by
 cases x<;>cases o<;>cases e<;>rfl
theorem YG{m:Option Lv}(h:Ex B sl .hp t1 m):Ex B sl md (rT (DP K) (xG t1 bF)) (m.bind λ_=>some (3:Int)):=λd hd F O H σ Q s k=>by
 cases m with
 |none=>cases hd
 |some a =>
  cases(show some (3:Int)=some d from hd)
  refine h a rfl F O H σ _ s λv F' H' g r1=>?_
  obtain⟨q,o,tt,rfl,z1,z2,_⟩:=r1
  refine⟨q,_,rfl,.inr (.inl (.inl z2)),?_⟩
  rw[FQ z1]
  exact k _ F' H' g rfl
theorem At.view{β:Type}[Ob K β]{a:β}(z:At B sl F O H σ)(hs:sl[i]?=some (.ob n a)):∃O',At B (sl.set i (@Slot.hs K (Ob.β K β) Ob.lK (Ob.val a))) F O' H σ/\∀F' H',bh B F H O' F' H'->bh B F H O F' H':=by
 obtain⟨k,z0⟩:=z
 obtain⟨O1,Oc,O2,v,rfl,h1,h2,h3⟩:=z0.pU hs
 have sb:Sublist (O1++O2) (O1++(Oc++O2)):=Sublist.append (Sublist.refl _) (sublist_append_right Oc O2)
 have cells:∀x∈Oc,H x.1=some x.2:=λx hx=>(k.fo x (mem_append_right _ (mem_append_left _ hx))).2.2
 have zz:=h3 (@Slot.hs K (Ob.β K β) Ob.lK (Ob.val a)) (some v) [] λ_ _ _ y=>@ak.hs _ _ _ _ _ _ Ob.lK _ _ _ _ _ (Ob.lC (Ob.mono (BX k n) h2) cells) y
 rw[QM h1] at zz
 refine⟨O1++O2,⟨k.sub sb,zz.mono (.refl _) (W_ sb) (.refl _)⟩,λF' H' g=>⟨g.ff,g.hh,⟨g.ok.fh,g.ok.h0,g.ok.fa,λx hx=>?_,k.nd⟩,g.nw⟩⟩
 obtain⟨a1,a2,a3⟩:=k.fo x hx
 exact⟨g.nw _ a1 (by rw[a3];intro e;cases e),a2,g.hh _ _ a3⟩
theorem YH{β α:Type}[Ob K β][Rp K α]{a:β}{m:Option (List α)}(i:Nat)(hs:sl[i]?=some (.ob n a))(h:Eo B (sl.set i (@Slot.hs K (Ob.β K β) Ob.lK (Ob.val a))) md te m):Eo B sl md te m:=λc hc F O H σ Q s k=>by
 obtain⟨O',z',up⟩:=s.view hs
 exact h c hc F O' H σ Q z' λp vs F' H' g=>k p vs F' H' (up _ _ g)
theorem zPx:∀{rs:List La}{xs:List Lv}{k:Nat},lq R rs xs->xs[k]?=some (.loop w l)->∃q a b,rs[k]?=some (q,some (a,b))/\R q=some (.tup [.str "loop",.ref a,.ref b])/\(a,HO.lst (w.map V.int))∈aX rs xs/\(b,HO.lst (l.map V.int))∈aX rs xs
 |r::rs,x::xs,0,h,e=>by
  cases(Option.some.inj (show some x=some (.loop w l) from e))
  obtain⟨⟨t,h1,h2⟩,_⟩:=h
  obtain⟨q,o⟩:=r
  cases o with
  |none=>cases h1
  |some ab =>
   cases h1
   exact⟨q,ab.1,ab.2,rfl,h2,mem_append_left _ mem_cons_self,mem_append_left _ (mem_cons_of_mem _ mem_cons_self)⟩
 |r::rs,x::xs,k+1,h,e=>by
  obtain⟨q,a,b,h1,h2,h3,h4⟩:=zPx (k:=k) h.2 (by simpa using e)
  exact⟨q,a,b,by simpa using h1,h2,mem_append_right _ h3,mem_append_right _ h4⟩
 |[],[],_,_,e=>by simp at e
 |[],_::_,_,h,_=>h.elim
 |_::_,[],_,h,_=>h.elim
theorem YJ:∀{rs:List La}{xs:List Lv}{k:Nat},rs[k]?=some (q,some (a,b))->xs[k]?=some (.loop w l)->((aX rs xs).map (·.1)).Nodup ->
  (aX rs (xs.set k (.loop w' l'))).map (·.1)=(aX rs xs).map (·.1)/\∀y∈aX rs (xs.set k (.loop w' l')),y=(a,.lst (w'.map V.int))\/y=(b,.lst (l'.map V.int))\/y∈aX rs xs/\y.1≠a/\y.1≠b
 |r::rs,x::xs,0,hr,hx,nd=>by
  cases(Option.some.inj (show some r=some (q,some (a,b)) from hr))
  cases(Option.some.inj (show some x=some (.loop w l) from hx))
  refine⟨rfl,λy hy=>?_⟩
  have nd:(a::b::(aX rs xs).map (·.1)).Nodup:=nd
  rcases mem_cons.mp (show y∈(a,HO.lst (w'.map V.int))::(b,HO.lst (l'.map V.int))::aX rs xs from hy) with e|hy
  ·exact .inl e
  ·rcases mem_cons.mp hy with e|hy
   ·exact .inr (.inl e)
   ·have n1:=nodup_cons.mp nd
    have n2:=nodup_cons.mp n1.2
    have hm:y.1∈(aX rs xs).map (·.1):=mem_map.mpr ⟨y,hy,rfl⟩
    exact .inr (.inr ⟨mem_cons_of_mem _ (mem_cons_of_mem _ hy),λe=>n1.1 (mem_cons_of_mem _ (e▸hm)),λe=>n2.1 (e▸hm)⟩)
 |r::rs,x::xs,k+1,hr,hx,nd=>by
  have nd:((gC x r.2++aX rs xs).map (·.1)).Nodup:=nd
  rw[map_append,nodup_append] at nd
  have hr':rs[k]?=some (q,some (a,b)):=by simpa using hr
  have hx':xs[k]?=some (.loop w l):=by simpa using hx
  obtain⟨e1,e2⟩:=YJ (w':=w') (l':=l') hr' hx' nd.2.1
  refine⟨by show(gC x r.2++aX rs (xs.set k _)).map _=(gC x r.2++aX rs xs).map _;rw[map_append,map_append,e1],λy hy=>?_⟩
  have ab:a∈(aX rs xs).map (·.1)/\b∈(aX rs xs).map (·.1):=by
   have:∀{rs:List La}{xs:List Lv}{k:Nat},rs[k]?=some (q,some (a,b))->xs[k]?=some (.loop w l)->a∈(aX rs xs).map (·.1)/\b∈(aX rs xs).map (·.1):=by
    intro rs
    induction rs with
    |nil=>intro xs k h;simp at h
    |cons r rs ih =>
     intro xs k h1 h2
     cases xs with
     |nil=>simp at h2
     |cons x xs =>
      show a∈(gC x r.2++aX rs xs).map _/\b∈(gC x r.2++aX rs xs).map _
      cases k with
      |zero =>
       cases(Option.some.inj (show some r=some (q,some (a,b)) from h1))
       cases(Option.some.inj (show some x=some (.loop w l) from h2))
       exact⟨mem_cons_self,mem_cons_of_mem _ mem_cons_self⟩
      |succ k =>
       have:=ih (xs:=xs) (k:=k) (by simpa using h1) (by simpa using h2)
       rw[map_append]
       exact⟨mem_append_right _ this.1,mem_append_right _ this.2⟩
   exact this hr' hx'
  rcases mem_append.mp (show y∈gC x r.2++aX rs (xs.set k _) from hy) with hy|hy
  ·have hm:y.1∈(gC x r.2).map (·.1):=mem_map.mpr ⟨y,hy,rfl⟩
   exact .inr (.inr ⟨mem_append_left _ hy,λe=>nd.2.2 _ hm _ ab.1 e,λe=>nd.2.2 _ hm _ ab.2 e⟩)
  ·rcases e2 y hy with e|e|⟨e,n1,n2⟩
   ·exact .inl e
   ·exact .inr (.inl e)
   ·exact .inr (.inr ⟨mem_append_right _ e,n1,n2⟩)
 |[],_,_,hr,_,_=>by simp at hr
 |_::_,[],_,_,hx,_=>by simp at hx
theorem YK:∀{rs:List La}{xs:List Lv}{k:Nat},lq R rs xs->xs[k]?=some (.loop w l)->lq R rs (xs.set k (.loop w' l'))
 |r::rs,x::xs,0,h,e=>by
  cases(Option.some.inj (show some x=some (.loop w l) from e))
  obtain⟨⟨t,h1,h2⟩,h3⟩:=h
  refine⟨⟨t,?_,h2⟩,h3⟩
  cases hr:r.2 with
  |none=>rw[hr] at h1;cases h1
  |some ab=>rw[hr] at h1;exact h1
 |r::rs,x::xs,k+1,h,e=>⟨h.1,YK (k:=k) h.2 (by simpa using e)⟩
 |[],[],_,_,e=>by simp at e
 |[],_::_,_,h,_=>h.elim
 |_::_,[],_,h,_=>h.elim
end
structure w6 where
 w:LI
 l:LI
def Iw(x:b_)(k:Int):Option b_:=if 0<=k then match x.xs[k.toNat]? with
 |some (.loop _ l)=>some (b_.mk (x.xs.set k.toNat (.loop [] l)))
 |_=>none else none
def Iz(x:b_)(k v:Int):Option b_:=if 0<=k then match x.xs[k.toNat]? with
 |some (.loop w l)=>if l.length<cap then some (b_.mk (x.xs.set k.toNat (.loop w (l++[v])))) else none
 |_=>none else none
section
variable{K:PySem.W.Frag}
instance:Rp K w6:=⟨λF v x=>∃(p a b:Addr),v=.ref p/\F p=some (.tup [.ref a,.ref b])/\F a=some (.lst (x.w.map V.int))/\F b=some (.lst (x.l.map V.int))/\a≠b,λs ⟨p,a,b,h1,h2,h3,h4,h5⟩=>⟨p,a,b,h1,s _ _ h2,s _ _ h3,s _ _ h4,h5⟩⟩
instance:Nn K w6:=⟨λ⟨_,_,_,h,_⟩=>by rw[h];intro e;cases e⟩
variable{B:Bs}{sl sl2:SL K}{F H G:Hp}{O:Own}{σ:St}{md:Md}{te t1 t2 t3:TE}{t u:TS}{al:Bool}
theorem YL:∀{vs:List V}{xs:LI},A2 (rp K R) vs xs->vs=xs.map V.int
 |[],[],_=>rfl
 |v::vs,x::xs,h=>by
  have e:v=.int x:=h.1
  rw[e,YL h.2];rfl
 |[],_::_,h=>h.elim
 |_::_,[],h=>h.elim
theorem Li(h1:Ex B sl .nw t1 m1)(h2:En B sl t2 m2):Ex B sl .nw (tD (xG t1 (xG t2 bF))) (m1.bind λw=>m2.bind λl=>some (w6.mk w l)):=λc hc F O H σ Q s kk=>by
 obtain⟨w,l,hw,hl,hf⟩:=m6 hc
 cases hf
 refine h1 w hw F O H σ _ s λv F' H' g r1=>?_
 refine h2 l hl F' O H' σ _ (s.grow g) λv2 F2 H1 H2 g2 s2 r2=>?_
 obtain⟨a,vs,rfl,a1,a2⟩:=r1
 obtain⟨b,ws,rfl,b1,b2⟩:=r2
 have g3:=g2.ok.called s2
 have r3:=QF (F:=F2) g2.ok.h0 s2
 refine⟨by show 2<=sizeLine;decide,λp hp=>?_⟩
 have g4:=bh.new g3.ok hp (.tup [.ref a,.ref b])
 have ab:a≠b:=λe=>by
  have q1:=(Og b1).1
  have q2:=g2.hh _ _ (g.ok.fh _ _ (aP _ _ a1))
  rw[e,q1] at q2;cases q2
 refine kk _ _ _ (g.trans (g2.trans (g3.trans g4))) ⟨p,a,b,rfl,QK g3.ok hp .nw,?_,?_,ab⟩
 ·have:=wE (g2.trans (g3.trans g4)) .nw _ _ a1
  rw[YL a2] at this
  exact this
 ·have:=wE g4 .nw _ _ (r3 _ _ b1)
  rw[YL b2] at this
  exact this
theorem zQs(h1:Ex B sl .hp t1 m1)(h2:Ex B sl .hp t2 m2):Ex B sl md (tD (xG (tC (.str "rank")) (xG t1 (xG t2 bF)))) (m1.bind λr=>m2.bind λo=>some (Fz.mk (.rank r o))):=λc hc F O H σ Q s kk=>by
 obtain⟨r,o,hr,ho,hf⟩:=m6 hc
 cases hf
 refine h1 r hr F O H σ _ s λv F' H' g r1=>?_
 refine h2 o ho F' O H' σ _ (s.grow g) λw F2 H2 g2 r2=>?_
 have r1:v=.int r:=r1
 subst r1
 have r2:w=Vo o:=by
  cases o with
  |none=>exact r2
  |some i=>exact r2.2
 subst r2
 refine⟨by show 3<=sizeLine;decide,λp hp=>?_⟩
 have g3:=bh.new g2.ok hp (.tup [.str "rank",.int r,Vo o])
 exact kk _ _ _ (g.trans (g2.trans g3)) ⟨p,none,_,rfl,rfl,QK g2.ok hp md,λy hy=>(by cases hy),.nil⟩
def R8:Sp:=λvs H Q _=>∃q a b,vs=[.ref q]/\H q=some (.tup [.ref a,.ref b])/\∀p,H p=none->Q (.ref p) (upd H p (.tup [.str "loop",.ref a,.ref b]))
theorem R9{m:Option w6}(h:En B sl te m):En B sl (JC R8 [] E0 (xG te bF)) (m.bind λx=>some (Fz.mk (.loop x.w x.l))):=λc hc F O H σ Q s kk=>by
 cases m with
 |none=>cases hc
 |some x =>
  cases hc
  refine h x rfl F O H σ _ s λv F' H1 H2 g s2 r=>?_
  obtain⟨q,a,b,rfl,r1,r2,r3,ne⟩:=r
  refine⟨q,a,b,rfl,(Og r1).2,λp hp=>kk (.ref p) F' H1 _ g (s2.trans (aO hp _)) ?_⟩
  have h1p:=s2.free hp
  have up:∀b' o,dif H2 H1 b'=some o->dif (upd H2 p (.tup [.str "loop",.ref a,.ref b])) H1 b'=some o:=λb' o e=>by
   obtain⟨e1,e2⟩:=Og e
   rw[uO e1,zP (λq=>by rw[q,hp] at e2;cases e2)]
   exact e2
  refine⟨p,some (a,b),_,rfl,rfl,by rw[uO h1p,zW],λy hy=>?_,?_⟩
  ·rcases mem_cons.mp hy with e|hy
   ·rw[e];exact up _ _ r2
   ·rw[mem_singleton.mp hy];exact up _ _ r3
  ·exact nodup_cons.mpr ⟨λz=>ne (mem_singleton.mp z),by simp⟩
theorem zUm:∀{rs:List La}{xs:List Lv}{k:Nat},rs[k]?=some (q,some (a,b))->xs[k]?=some (.loop w l)->Sublist [a,b] ((aX rs xs).map (·.1))
 |r::rs,x::xs,0,h1,h2=>by
  cases(Option.some.inj (show some r=some (q,some (a,b)) from h1))
  cases(Option.some.inj (show some x=some (.loop w l) from h2))
  exact Sublist.cons₂ _ (Sublist.cons₂ _ (List.nil_sublist _))
 |r::rs,x::xs,k+1,h1,h2=>by
  show Sublist _ ((gC x r.2++aX rs xs).map _)
  rw[map_append]
  exact(zUm (k:=k) (by simpa using h1) (by simpa using h2)).trans (sublist_append_right _ _)
 |[],_,_,h,_=>by simp at h
 |_::_,[],_,_,h=>by simp at h
theorem At.gC{n:Bool}{x:b_}{i:Nat}(z:At B sl F O H σ)(hn:sl.all (λs=>!wk s)=true)(hs:sl[i]?=some (.ob n x)){k:Nat}{w l:LI}(hk:x.xs[k]?=some (.loop w l)) :
  ∃p ps q a b,σ[i]?=some (some (.ref p))/\H p=some (.lst ps)/\ps[k]?=some (.ref q)/\H q=some (.tup [.str "loop",.ref a,.ref b])/\H a=some (.lst (w.map V.int))/\H b=some (.lst (l.map V.int)) /\
   (∀w',∃O',At B (sl.set i (.ob n (b_.mk (x.xs.set k (.loop w' l))))) F O' (upd H a (.lst (w'.map V.int))) σ)/\∀l',∃O',At B (sl.set i (.ob n (b_.mk (x.xs.set k (.loop w l'))))) F O' (upd H b (.lst (l'.map V.int))) σ:=by
 obtain⟨Oc,v,h1,⟨p,rs,rfl,rfl,h2⟩,c1,nd,qC,up⟩:=z.FJ hn hs
 obtain⟨q,a,b,hr,hq,ha,hb⟩:=zPx h2 hk
 have nd:(p::(aX rs x.xs).map (·.1)).Nodup:=nd
 have pL:=(nodup_cons.mp nd).2
 have ab:a≠b:=λe=>by
  have:=(zUm hr hk).nodup pL
  rw[e] at this
  simp at this
 have Ha:=c1 _ (mem_cons_of_mem _ ha)
 have Hb:=c1 _ (mem_cons_of_mem _ hb)
 have Hp:=c1 _ mem_cons_self
 have pa:p≠a:=λe=>(nodup_cons.mp nd).1 (e▸mem_map.mpr ⟨_,ha,rfl⟩)
 have pb:p≠b:=λe=>(nodup_cons.mp nd).1 (e▸mem_map.mpr ⟨_,hb,rfl⟩)
 refine⟨p,_,q,a,b,h1,Hp.1,by rw[getElem?_map,hr];rfl,BX z.1 n _ _ hq,Ha.1,Hb.1,λw'=>?_,λl'=>?_⟩
 ·obtain⟨e1,e2⟩:=YJ (w':=w') (l':=l) hr hk pL
  refine up (b_.mk (x.xs.set k (.loop w' l))) (nq p rs (x.xs.set k (.loop w' l))) _ ⟨p,rs,rfl,rfl,YK h2 hk⟩ (by show(p::(aX rs _).map (·.1)).Nodup;rw[e1];exact nd) (λc u e off=>by rw[zP λe2=>off _ (mem_cons_of_mem _ ha) e2.symm];exact e) λy hy=>?_
  rcases mem_cons.mp hy with e|hy
  ·rw[e]
   exact⟨by rw[zP pa];exact Hp.1,Hp.2.1,Hp.2.2,.inl ⟨_,mem_cons_self,rfl⟩⟩
  ·rcases e2 y hy with e|e|⟨e,n1,n2⟩
   ·rw[e];exact⟨zW,Ha.2.1,Ha.2.2,.inl ⟨_,mem_cons_of_mem _ ha,rfl⟩⟩
   ·rw[e];exact⟨by rw[zP ab.symm];exact Hb.1,Hb.2.1,Hb.2.2,.inl ⟨_,mem_cons_of_mem _ hb,rfl⟩⟩
   ·have:=c1 y (mem_cons_of_mem _ e)
    exact⟨by rw[zP n1];exact this.1,this.2.1,this.2.2,.inl ⟨y,mem_cons_of_mem _ e,rfl⟩⟩
 ·obtain⟨e1,e2⟩:=YJ (w':=w) (l':=l') hr hk pL
  refine up (b_.mk (x.xs.set k (.loop w l'))) (nq p rs (x.xs.set k (.loop w l'))) _ ⟨p,rs,rfl,rfl,YK h2 hk⟩ (by show(p::(aX rs _).map (·.1)).Nodup;rw[e1];exact nd) (λc u e off=>by rw[zP λe2=>off _ (mem_cons_of_mem _ hb) e2.symm];exact e) λy hy=>?_
  rcases mem_cons.mp hy with e|hy
  ·rw[e]
   exact⟨by rw[zP pb];exact Hp.1,Hp.2.1,Hp.2.2,.inl ⟨_,mem_cons_self,rfl⟩⟩
  ·rcases e2 y hy with e|e|⟨e,n1,n2⟩
   ·rw[e];exact⟨by rw[zP ab];exact Ha.1,Ha.2.1,Ha.2.2,.inl ⟨_,mem_cons_of_mem _ ha,rfl⟩⟩
   ·rw[e];exact⟨zW,Hb.2.1,Hb.2.2,.inl ⟨_,mem_cons_of_mem _ hb,rfl⟩⟩
   ·have:=c1 y (mem_cons_of_mem _ e)
    exact⟨by rw[zP n2];exact this.1,this.2.1,this.2.2,.inl ⟨y,mem_cons_of_mem _ e,rfl⟩⟩
theorem zOm(i:Nat)(hs:sl[i]?=some (.ob n x))(hn:sl.all (λs=>!wk s)=true)(h2:Ex B sl .hp t2 m2)(h3:Ex B sl .hp t3 (some (1:Int))) :
  Sn B sl (Hf (Ds K "list" WM (dN (kZ K) (dN (tL K) (dh i) t2) t3))) (λa=>sl.set i (.ob n a)) (m2.bind λk=>Iw x k):=λc hc G D σ H s kk=>by
 cases m2 with
 |none=>cases hc
 |some k =>
  have hc:Iw x k=some c:=hc
  unfold Iw at hc
  split at hc
  case isFalse=>cases hc
  rename_i k0
  split at hc
  case h_2=>cases hc
  rename_i w l hk
  cases hc
  obtain⟨F,O,g,z⟩:=s
  obtain⟨p,_,_,_,_,w1,_⟩:=z.gC hn hs hk
  refine⟨_,w1,h2 k rfl F O H σ _ z λu2 F2 H2 g2 r2=>?_⟩
  cases r2
  have z2:=z.grow g2
  obtain⟨p2,ps,q,_,_,YM,v2,v3,_⟩:=z2.gC hn hs hk
  cases w1.symm.trans YM
  have hix:aH ps k=some (.ref q):=by
   have:=WD v3
   rw[show((k.toNat:Nat):Int)=k by omega] at this
   exact this
  refine⟨p,ps,k,.ref q,rfl,rfl,aV.of v2,hix,h3 1 rfl F2 O H2 σ _ z2 λu3 F3 H3 g3 r3=>?_⟩
  cases r3
  have z3:=z2.grow g3
  obtain⟨p3,ps3,q3,a,b,y1,y2,y3,y4,y5,y6,up,_⟩:=z3.gC hn hs hk
  cases w1.symm.trans y1
  cases(g3.hh _ _ v2).symm.trans y2
  cases v3.symm.trans y3
  obtain⟨O',z'⟩:=up []
  exact⟨q,_,1,.ref a,rfl,rfl,.inl (.inl y4),rfl,.inl ⟨rfl,_,aV.of y5⟩,a,_,rfl,rfl,y5,kk _ _ ⟨F3,O',(g.trans g2.ff).trans g3.ff,z'⟩⟩
theorem zOn(i:Nat)(hs:sl[i]?=some (.ob n x))(hn:sl.all (λs=>!wk s)=true)(h2:Ex B sl .hp t2 m2)(h3:Ex B sl .hp t3 (some (2:Int)))(h:Ex B sl .hp te m) :
  Sn B sl (Hf (Nk K "list" Um (dN (kZ K) (dN (tL K) (dh i) t2) t3) (xG te bF))) (λa=>sl.set i (.ob n a)) (m2.bind λk=>m.bind λv=>Iz x k v):=λc hc G D σ H s kk=>by
 cases m2 with
 |none=>cases hc
 |some k =>
  cases m with
  |none=>cases hc
  |some v =>
   have hc:Iz x k v=some c:=hc
   unfold Iz at hc
   split at hc
   case isFalse=>cases hc
   rename_i k0
   split at hc
   case h_2=>cases hc
   rename_i w l hk
   split at hc
   case isFalse=>cases hc
   rename_i hl
   cases hc
   obtain⟨F,O,g,z⟩:=s
   obtain⟨p,_,_,_,_,w1,_⟩:=z.gC hn hs hk
   refine⟨_,w1,h2 k rfl F O H σ _ z λu2 F2 H2 g2 r2=>?_⟩
   cases r2
   have z2:=z.grow g2
   obtain⟨p2,ps,q,_,_,YM,v2,v3,_⟩:=z2.gC hn hs hk
   cases w1.symm.trans YM
   have hix:aH ps k=some (.ref q):=by
    have:=WD v3
    rw[show((k.toNat:Nat):Int)=k by omega] at this
    exact this
   refine⟨p,ps,k,.ref q,rfl,rfl,aV.of v2,hix,h3 2 rfl F2 O H2 σ _ z2 λu3 F3 H3 g3 r3=>?_⟩
   cases r3
   have z3:=z2.grow g3
   obtain⟨p3,ps3,q3,a,b,y1,y2,y3,y4,y5,y6,_,_⟩:=z3.gC hn hs hk
   cases w1.symm.trans y1
   cases(g3.hh _ _ v2).symm.trans y2
   cases v3.symm.trans y3
   refine⟨q,_,2,.ref b,rfl,rfl,.inl (.inl y4),rfl,.inl ⟨rfl,_,aV.of y6⟩,h v rfl F3 O H3 σ _ z3 λu4 F4 H4 g4 r4=>?_⟩
   have r4:u4=.int v:=r4
   subst r4
   have z4:=z3.grow g4
   obtain⟨p4,ps4,q4,a4,b4,x1,x2,x3,x4,x5,x6,_,up⟩:=z4.gC hn hs hk
   cases w1.symm.trans x1
   cases(g4.hh _ _ y2).symm.trans x2
   cases y3.symm.trans x3
   cases(g4.hh _ _ y4).symm.trans x4
   obtain⟨O',z'⟩:=up (l++[v])
   refine⟨b,_,.int v,rfl,rfl,x6,Hw (by rw[length_map];exact hl),?_⟩
   rw[map_append] at z'
   exact kk _ _ ⟨F4,O',((g.trans g2.ff).trans g3.ff).trans g4.ff,z'⟩
theorem zSa{n:Bool}{x:b_}(i:Nat)(hs:sl[i]?=some (.ob n x))(hn:sl.all (λs=>!wk s)=true):Sn B sl (Hf (Ds K "list" WM (dh i))) (λa=>sl.set i (.ob n a)) (some (b_.mk [])):=λc hc G D σ H s kk=>by
 cases hc
 obtain⟨F,O,g,z⟩:=s
 obtain⟨Oc,v,h1,⟨p,rs,rfl,rfl,h2⟩,c1,nd,qC,up⟩:=z.FJ hn hs
 have Hp:=c1 _ mem_cons_self
 obtain⟨O',z'⟩:=up (b_.mk []) (nq p [] []) (upd H p (.lst [])) ⟨p,[],rfl,rfl,trivial⟩ (by show[p].Nodup;simp) (λc u e off=>by rw[zP λe2=>off _ mem_cons_self e2.symm];exact e) (λy hy=>by
  rw[mem_singleton.mp (show y∈[(p,HO.lst [])] from hy)]
  exact⟨zW,Hp.2.1,Hp.2.2,.inl ⟨_,mem_cons_self,rfl⟩⟩)
 exact⟨_,h1,.inl ⟨rfl,_,aV.of Hp.1⟩,p,_,rfl,rfl,Hp.1,kk _ _ ⟨F,O',g,z'⟩⟩
end
theorem aG{K:PySem.W.Frag}{a b:SL K}(h:Le a b:=by repeat(first|exact Le.nil|refine Le.eq ?_|refine Le.un ?_|refine Le.fr ?_)):Le a b:=h
theorem dW{K:PySem.W.Frag}{a b:SL K}(h:qz a b:=by repeat(first|exact qz.nil|refine qz.eq ?_|refine qz.un ?_)):qz a b:=h
abbrev Slot.z{α:Type}[Rp K α](a:α):Slot K:=.fz false a
abbrev Slot.y{α:Type}[Rp K α](a:α):Slot K:=.fz true a
section
variable{K:PySem.W.Frag}{B:Bs}{sl:SL K}{md:Md}{α β:Type}[Rp K α][Rp K β]{tA:Addr}{tO:HO}{te:TE}
instance:Ty K Lv:=⟨.type "tuple",λ⟨q,_,_,e,_,h,_⟩=>by rw[e];exact .tup h⟩
theorem YQ{A:Type}{as:A->SL K}{f:A->Option β}{ma:Option A}(tb:B.H0 tA=some tO)(h:Ea B sl .hp ta as ma):En B sl (JC (spT tA tO (bV K false as f)) [] E0 ta) (ma.bind f):=λc hc F O H σ Q s kk=>by
 cases ma with
 |none=>cases hc
 |some a =>
  refine h a rfl F O H σ _ s λvs F' H' g r=>?_
  rw[append_nil]
  exact⟨g.ok.h0 _ _ tb,a,c,H',.refl _,hc,r,λv H2 s2 r2=>kk v F' H' H2 g s2 r2⟩
theorem Lj{m:Option (Option α)}(h:En B sl te m):En B sl te (m.bind λx=>x):=λc hc F O H σ Q s kk=>by
 cases m with
 |none=>cases hc
 |some x =>
  have hc:x=some c:=hc
  subst hc
  exact h (some c) rfl F O H σ Q s λv F' H1 H2 g s2 r=>kk v F' H1 H2 g s2 r.2
end
def top(i:Nat):Stmt:=PySem.Challenge.pw_treesay_k55_lives_told.main.body.getD i (.Pass ⟨0,0,0,0⟩)
abbrev jU:HO:=.tab ⟨98,94,98,119⟩ ((Str.ofString "way_back" ++ Str.ofString ".<locals>.")++Str.ofString "<lambda>")
abbrev fD:Stmt:=top 2
abbrev oK:Stmt:=top 3
abbrev lR:Stmt:=top 4
abbrev gD:Stmt:=top 6
abbrev i_:Stmt:=top 7
abbrev gF:Stmt:=top 8
abbrev fG:Stmt:=top 9
abbrev oM:Stmt:=top 11
abbrev jV:Stmt:=top 12
abbrev dX:Stmt:=top 13
abbrev oO:Stmt:=top 14
abbrev gG:Stmt:=top 15
abbrev fH:Stmt:=top 16
abbrev lV:Stmt:=top 17
abbrev qP:Stmt:=top 18
abbrev jc:Stmt:=top 19
abbrev gH:Stmt:=top 20
abbrev jW:Stmt:=top 21
abbrev oR:Stmt:=top 22
abbrev dY:Stmt:=top 24
abbrev dZ:Stmt:=top 25
abbrev cg:Stmt:=top 26
abbrev oV:Stmt:=top 27
abbrev je:Stmt:=top 38
abbrev dj:Stmt:=top 39
abbrev d7:Stmt:=top 40
abbrev jX:Stmt:=top 41
abbrev d8:Stmt:=top 42
abbrev fJ:Stmt:=top 43
abbrev lW:Stmt:=top 44
abbrev Vp:Stmt:=top 45
abbrev Am:Stmt:=Qt (top 46) 0
abbrev dw:Stmt:=Qt (top 46) 1
abbrev cj:Stmt:=Qt (top 46) 2
abbrev cI:Stmt:=Qt (top 46) 3
abbrev cu:Stmt:=Qt (top 46) 6
abbrev gJ:Stmt:=top 48
abbrev jY:Stmt:=top 49
abbrev oW:Stmt:=top 50
abbrev fK:Stmt:=top 51
abbrev jf:Stmt:=top 52
abbrev gM:Stmt:=top 53
abbrev fL:Stmt:=top 54
abbrev gO:Stmt:=top 55
abbrev lX:Stmt:=top 56
abbrev lY:Stmt:=top 57
abbrev gP:Stmt:=top 58
abbrev jZ:Stmt:=top 59
abbrev jg:Stmt:=top 60
abbrev lZ:Stmt:=top 61
abbrev nQ:Stmt:=top 62
section
variable{P:Program}{w:World}{K:PySem.W.Frag}{mg:Str->Option Value}{base:Heap}
def YS(K:PySem.W.Frag):Sp:=λvs H Q _=>∃(a:Addr)(bs:List Addr)(xss:List LI),vs=[.ref a]/\aV K H a (bs.map V.ref)/\pX K H bs xss/\xss.length<=60/\UJ xss.length xss /\
 ∀(r:Addr)(cs:List Addr)(H':Hp),Same H H'->H r=none->H' r=some (.lst (cs.map V.ref))->cs.length=xss.length->pY H' cs (src xss)->(∀c∈cs,H c=none)->Q (.ref r) H'
theorem Ao:ao ["steps","sources","stand","targets","target"] ["steps"] (zK Vp):=⟨rfl,rfl,rfl,by decide +kernel,rfl,by decide +kernel,by decide +kernel⟩
theorem YT:(["stand"]:List Str).Nodup:=by decide +kernel
theorem Lk{cs:List Addr}(nd:cs.Nodup){i j:Nat}{c:Addr}(h1:cs[i]?=some c)(h2:cs[j]?=some c):i=j:=by
 obtain⟨k1,e1⟩:=List.getElem?_eq_some_iff.mp h1
 obtain⟨k2,e2⟩:=List.getElem?_eq_some_iff.mp h2
 exact(getElem_inj nd).mp (e1.trans e2.symm)
theorem pY.put{Ln:Nat->LI}(r:pY H cs row)(nd:cs.Nodup)(hc:cs[j]?=some c)(e:Ln j=xs)(e':∀k,k≠j->Ln k=row k):pY (upd H c (.lst (xs.map V.int))) cs Ln:=λk d hd=>by
 by_cases hk:k=j
 ·subst hk
  rw[hc] at hd
  cases hd
  rw[zW,e]
 ·rw[zP (λz=>hk (Lk nd hd (by rw[z];exact hc))),e' k hk]
  exact r k d hd
theorem R_(F:bH K "sources_of" "sources_of" Vp f fd)(B:Bl K mg):aB P w K mg base aZ 1 f fd ["steps"] (YS K):=by
 refine F.ok Ao (λvs H Q E h=>?_) (λcdv A outer s H vs Q E hr h=>?_)
 ·obtain⟨a,bs,xss,rfl,_⟩:=h
  rfl
 obtain⟨a,bs,xss,rfl,hS,hR,YW,hV,q⟩:=h
 have hbl:(bs.map V.ref).length=xss.length:=by rw[length_map];exact hR.1
 refine⟨_,zA (BW (i:=1) (own:=["stand"]) (ix:=[]) Ao.nd rfl rfl rfl rfl rfl (V_ (pv 0)) (λC s H fp=>yM (i:=0) YT rfl (Or.inl rfl)) (λC s H fp=>vO) (λC s H fp=>wO zH))
  (zA (yN PassesOwn.never rfl (zPb rfl B.enum (zB (pv 0) zH)) (PB rfl (wR (yM (i:=2) Ao.nd rfl (Or.inl rfl)) (wR (yM (i:=3) Ao.nd rfl (Or.inl rfl)) M9)))
   (Px (yN PassesOwn.never rfl (V_ (pv 3)) (yM (i:=4) Ao.nd rfl (Or.inl rfl))
    (Px (yY (Hs PySem.F.plainAttrs_list PySem.F.slot_list_append PySem.F.type_list_append xM (zY zP8 (pv 1) (pv 4) (λ_ _=>rfl)) (zB (pv 2) zH)))))))
  (Px (zS (pv 1)))),?_⟩
 refine⟨_,rfl,a,rfl,⟨_,hS⟩,zRb (K:=K) (a:=a) (xs:=bs.map V.ref) (λi ys σ H2=>∃(cs:List Addr)(v:Option V),ys=cs.map V.ref/\σ=[v]/\Same H H2/\News H H2 cs (replicate i [])/\cs.length=i)
  ⟨[],none,rfl,rfl,Same.refl H,News.nil,rfl⟩ (λi ys σ H2 _ ⟨cs,v,e,_,s2,_,hi⟩=>⟨s2.seq hS,by rw[e,length_map,hi];exact Nat.le_refl _⟩) (zIn (by omega)) ?_ ?_⟩
 ·rintro i y ys σ H2 hi ⟨cs,v,rfl,rfl,s2,hN,YX⟩
  refine zS6 ?_
  refine⟨(by show 0<=sizeLine;decide),λl hl'=>?_⟩
  refine⟨cs++[l],_,by rw[map_append]<;>rfl,rfl,s2.trans (aO hl' _),?_,by rw[length_append,YX]<;>rfl⟩
  have e:replicate (i+1) ([]:List V)=replicate i []++[[]]:=List.replicate_succ'
  rw[e]
  exact hN.snoc s2 hl'
 rintro ys σ H2 ⟨cs,v,rfl,rfl,s2,hN,YX⟩ r hr0
 have hcl:cs.length=xss.length:=by rw[YX,hbl]
 have s3:Same H (upd H2 r (.lst (cs.map V.ref))):=s2.trans (aO hr0 _)
 have hrH:H r=none:=s2.free hr0
 have nrc:r∉cs:=hN.Q7 hr0
 have R0:pY (upd H2 r (.lst (cs.map V.ref))) cs (src (xss.take 0)):=λj c hc=>by
  obtain⟨xs,h1,h2⟩:=hN.at_ j c hc
  have e:xs=[]:=by
   rw[getElem?_replicate] at h1
   split at h1
   ·exact(Option.some.inj h1).symm
   ·cases h1
  subst e
  rw[zP (λz=>nrc (by rw[<-z];exact mem_of_getElem? hc)),h2]
  rfl
 refine⟨_,rfl,a,rfl,⟨_,s3.seq hS⟩,zTj (K:=K) (a:=a) (xs:=bs.map V.ref) (λi σ H4=>∃u v t,σ=[some (.ref a),some (.ref r),u,v,t]/\Same H H4/\H4 r=some (.lst (cs.map V.ref))/\pY H4 cs (src (xss.take i)))
  ⟨none,none,none,rfl,s3,zW,R0⟩ (λi σ H4 _ ⟨_,_,_,_,s4,_⟩=>s4.seq hS) ?_ ?_⟩
 ·rintro i x t σ H4 hi ht ⟨u,v,t',rfl,s4,YZ,R4⟩
  obtain⟨b,rfl,hb⟩:=Kf hi
  obtain⟨xs,hx,hsq⟩:=hR.2 i b hb
  obtain⟨ne,nd,len,vr⟩:=hV.2 xs (mem_of_getElem? hx)
  have il:=yV hx
  have st:Same H4 (upd H4 t (.tup [.int i,.ref b])):=aO ht _
  have s5:=s4.trans st
  refine⟨t,_,rfl,ou.of zW,rfl,_,_,rfl,_,_,rfl,rfl,?_⟩
  refine⟨_,rfl,b,rfl,⟨_,s5.seq hsq⟩,zTi (K:=K) (a:=b) (xs:=xs.map V.int) (λm σ H6=>∃tt,σ=[some (.ref a),some (.ref r),some (.int i),some (.ref b),tt]/\Same H H6/\H6 r=some (.lst (cs.map V.ref)) /\
   pY H6 cs λj=>src (xss.take i) j++(if(j:Int)∈xs.take m then[(i:Int)] else[])) ⟨t',rfl,s5,st _ _ YZ,λj c hc=>?_⟩ (λm σ H6 _ ⟨_,_,s6,_⟩=>s6.seq hsq) ?_ ?_⟩
  ·rw[st _ _ (R4 j c hc)]
   simp
  ·rintro m y σ H6 hm ⟨tt,rfl,s6,Vq,R6⟩
   obtain⟨z,rfl,hz⟩:=int_at hm
   obtain⟨z0,z1⟩:=vr z (mem_of_getElem? hz)
   have zl:z.toNat<cs.length:=by rw[hcl];omega
   have hc:cs[z.toNat]?=some cs[z.toNat]:=List.getElem?_eq_getElem zl
   have hz':((z.toNat:Nat):Int)=z:=by omega
   have hrow:=R6 z.toNat _ hc
   have hno:¬z∈xs.take m:=zGb nd hz
   simp only[hz',if_neg hno,append_nil] at hrow
   have hix:aH (cs.map V.ref) z=some (.ref cs[z.toNat]):=by
    have:=WD (Eb hc)
    rw[hz'] at this
    exact this
   refine⟨_,rfl,_,rfl,r,_,z,_,rfl,rfl,aV.of Vq,hix,.inl ⟨rfl,_,aV.of hrow⟩,_,rfl,_,_,_,rfl,rfl,hrow,?_,?_⟩
   ·have:=D_ (xss.take i) z.toNat
    rw[length_take] at this
    refine zIn ?_
    rw[length_map]
    omega
   ·have cH:H cs[z.toNat]=none:=hN.new _ (mem_of_getElem? hc)
    have cr:r≠cs[z.toNat]:=λe=>nrc (by rw[e];exact mem_of_getElem? hc)
    refine⟨_,rfl,s6.put cH _,by rw[zP cr];exact Vq,?_⟩
    have em:(src (xss.take i) z.toNat).map V.int++[V.int i]=(src (xss.take i) z.toNat++[(i:Int)]).map V.int:=by rw[map_append]<;>rfl
    rw[em]
    refine R6.put hN.nd hc ?_ λk hk=>?_
    ·rw[hz',if_pos ((uR hz).mpr (.inr rfl))]
    ·have hk':((k:Int)∈xs.take (m+1))=((k:Int)∈xs.take m):=by
      rw[uR hz]
      refine propext ⟨λh=>h.elim id λe=>absurd (by omega) hk,.inl⟩
     simp only[hk']
  ·rintro σ H6 ⟨tt,rfl,s6,Vq,R6⟩
   refine⟨_,_,_,rfl,s6,Vq,λj c hc=>?_⟩
   rw[R6 j c hc,zR5 hx j,length_map,take_length]
 ·rintro σ H4 ⟨u,v,t,rfl,s4,YZ,R4⟩
  refine⟨_,rfl,?_⟩
  have e:xss.take (bs.map V.ref).length=xss:=by rw[hbl];exact take_length
  rw[e] at R4
  exact q r cs H4 s4 hrH YZ hcl R4 hN.new
end
structure Aq(K:PySem.W.Frag)(x qual:Str)(st:Stmt)(dV:Value)(f:Addr)(fd:FuncData):Prop where
 ex:∃(oc:Value)(od:Option Addr)(kV doc pm:Value)(an:Option Addr)(cdv ct:Value)(osl:Array (Option Value)),
  fd=fnOf x qual (vL st) (xX st) (zK st) dV kV doc pm an cdv ct/\K.lookup f=some ⟨oc,od,.func fd,osl⟩/\codeIn K cdv qual=true
 kp:keepIn K (.ref f)=true
section
variable{P:Program}{w:World}{K:PySem.W.Frag}{mg:Str->Option Value}{base:Heap}
theorem Aq.ok(F:Aq K x qual st dV f fd)(S:ao N ps (zK st))(len:∀vs H Q E,sp vs H Q E->vs.length=ps.length)(hbody:∀(cdv:Value) (A:Around) (outer:List Env) (s:Shared) (H:Hp) (vs:List V) (Q:VK) (E:XK),bJ k (A.deeper (PyProof.Rows.envOfC qual (zK st) s.heap.objs.size f cdv))->sp vs H Q E ->
   ∃t,pI (lF aZ P w K mg base N qual (zK st) f cdv A outer s H E).yh (xX st) t/\t { nx:=λ_ H'=>Q .non H',rt:=Q } (start N vs) H):aB P w K mg base aZ (k+1) f fd ps sp:=by
 obtain⟨oc,od,kV,doc,pm,an,cdv,ct,osl,rfl,lk,hcd⟩:=F.ex
 refine yu lk hcd S len λA outer s H vs Q E hr hsp=>?_
 obtain⟨t,h,q⟩:=hbody cdv A outer s H vs Q E hr hsp
 exact⟨t,h.yh,q⟩
structure Cl(K:PySem.W.Frag)(mg:Str->Option Value)(C:Addr):Prop where
 cl:Cls K C
 nS:aU K C "steps"
 nM:aU K C "marks"
 nF:aU K C "fair"
 nB:aU K C "sources"
 mgC:mg "Machine" = some (.ref C)
theorem Lp:ao ["self","steps","marks","fair","given_marks","given_fair"] ["self","steps","marks","fair"] (zK Am):=⟨rfl,rfl,rfl,by decide +kernel,rfl,by decide +kernel,by decide +kernel⟩
theorem Sd:(["name","stands"]:List Str).Nodup:=by decide +kernel
theorem cT(f:Str)(v:V):∀fs:List (Str×V),(aA f v fs).length<=fs.length+1
 |[]=>Nat.le_refl _
 | (g,x)::r=>by
  unfold aA
  split
  ·exact Nat.le_succ _
  ·exact Nat.succ_le_succ (cT f v r)
theorem zOy:∀{vs:List V}{xss:List LI},A2 (rp K R) vs xss->∃bs:List Addr,vs=bs.map V.ref/\pX K R bs xss
 |[],[],_=>⟨[],rfl,rfl,λi b h=>by simp at h⟩
 |v::vs,xs::xss,h=>by
  obtain⟨bs,e,h1,h2⟩:=zOy h.2
  obtain⟨p,ws,rfl,h3,h4⟩:=h.1
  have h5:ws=xs.map V.int:=h4.vals
  refine⟨p::bs,by rw[e,map_cons],by rw[length_cons,length_cons,h1],λi b hb=>?_⟩
  cases i with
  |zero=>simp at hb;subst hb;exact⟨xs,rfl,aV.of (by rw[h3,h5])⟩
  |succ i=>exact h2 i b (by simpa using hb)
 |[],_::_,h=>h.elim
 |_::_,[],h=>h.elim
def Oi(xss:LLI):Option LLI:=if xss.length<=60/\UJ xss.length xss then some (srcs xss) else none
theorem Lq(F:bH K "sources_of" "sources_of" Vp f fd)(B:Bl K mg):aB P w K mg base aZ 1 f fd ["steps"] (bV K false (λa:LLI×Unit=>([.fz false a.1]:SL K)) λa=>Oi a.1):=by
 refine(R_ F B).imp λvs H Q E h=>?_
 obtain⟨⟨xss,⟨⟩⟩,b,Fa,s,hb,r,q⟩:=h
 have hb:Oi xss=some b:=hb
 unfold Oi at hb
 split at hb
 case isFalse=>cases hb
 rename_i hv
 cases hb
 cases r with
 |cons r1 r2 =>
  cases r2
  obtain⟨a,ws,rfl,h1,h2⟩:=r1
  obtain⟨bs,rfl,h3⟩:=zOy (K:=K) h2
  refine⟨a,bs,xss,rfl,aV.of (s _ _ h1),h3.same s,hv.1,hv.2,λrr cs H' s' hr e l R N=>q _ _ s' ?_⟩
  refine⟨rr,_,rfl,by show dif H' H rr=_;rw[uO hr];exact e,?_⟩
  exact Ef (K:=K) l R λc hc o e=>by show dif H' H c=_;rw[uO (N c hc)];exact e
theorem Lr{fS:LLI->Option Unit}{fM:Cd->Int->Option Unit}{fF:LLI->Int->Option Unit}{fC fO:LLI->Option LLI}(F:Aq K "__init__" "Machine.__init__" Am dV f fd)(T:Cl K mg C)(B:Bl K mg)(CS:bC P w K mg base k "check_steps" ["steps"] (bV K false (λa:LLI×Unit=>([.fz false a.1]:SL K)) λa=>fS a.1))(CM:bC P w K mg base k "check_marks" ["marks","many"] (bV K false (λa:Cd×Int×Unit=>([.fz false a.1,.fz false a.2.1]:SL K)) λa=>fM a.1 a.2.1))(CF:bC P w K mg base k "check_fair" ["fair","many"] (bV K false (λa:LLI×Int×Unit=>([.fz false a.1,.fz false a.2.1]:SL K)) λa=>fF a.1 a.2.1))(CC:bC P w K mg base k "copied" ["lists"] (bV K false (λa:LLI×Unit=>([.fz false a.1]:SL K)) λa=>fC a.1))(CO:bC P w K mg base k "sources_of" ["steps"] (bV K false (λa:LLI×Unit=>([.fz false a.1]:SL K)) λa=>fO a.1)) :
  aB P w K mg base aZ (k+1) f fd ["self","steps","marks","fair"] (Rj K C (U8 C fS fM fF fC fO)):=by
 refine F.ok Lp (λvs H Q E h=>?_) (λcdv A outer s H vs Q E hr h=>?_)
 ·obtain⟨p,dx,vS,vM,vF,xss,mo,fo,M,rfl,_⟩:=h
  rfl
 obtain⟨p,dx,vS,vM,vF,xss,mo,fo,M,rfl,hp,rS,rM,rF,hm,q⟩:=h
 unfold U8 at hm
 obtain⟨⟨⟩,e1,hm⟩:=Ce hm
 obtain⟨⟨⟩,e2,hm⟩:=Ce hm
 obtain⟨⟨⟩,e3,hm⟩:=Ce hm
 obtain⟨a,e4,hm⟩:=Ce hm
 obtain⟨b,e5,hm⟩:=Ce hm
 obtain⟨c,e6,hm⟩:=Ce hm
 obtain⟨d,e7,hm⟩:=Ce hm
 cases hm
 refine⟨_,zA (V6 (i:=4) Lp.nd rfl (Or.inl rfl) (zLq (rR (Cy (pv 2))) (wO zH) (pv 2)))
  (zA (V6 (i:=5) Lp.nd rfl (Or.inl rfl) (zLq (rR (Cy (pv 3))) (wO zH) (pv 3)))
  (zA (yY (yC CS hr (zB (pv 1) zH)))
  (zA (yY (yC CM hr (zB (pv 4) (zB (zT (xT K) rfl B.len PySem.boot_len (zB (pv 1) zH)) zH))))
  (zA (yY (yC CF hr (zB (pv 5) (zB (zT (xT K) rfl B.len PySem.boot_len (zB (pv 1) zH)) zH))))
  (zA (Ud (pv 0) (yC CC hr (zB (pv 1) zH)) rfl)
  (zA (Ud (pv 0) (vP (own:=["name","stands"]) (ix:=[]) rfl rfl rfl (yD K (pv 4)) (λC s H fp=>zPc (K:=K) (n:=2) rfl rfl (wR (yM (i:=0) Sd rfl (Or.inl rfl)) (wR (yM (i:=1) Sd rfl (Or.inl rfl)) M9))) (λC s H fp=>vO)
   (λC s H fp=>Dd (zB (pv 0) (zB (wP (Ek K) rfl B.list Aa (zB (pv 1) zH)) zH)))) rfl)
  (zA (Ud (pv 0) (yC CC hr (zB (pv 5) zH)) rfl)
  (Px (Ud (pv 0) (yC CO hr (zB (zUh (pv 0) rfl) zH)) rfl))))))))),?_⟩
 have sg0:Sg (K:=K) ⟨hid H p,H⟩ (hid H p) [.fz false (gB.mk ():gB p),.fz false xss,.fz false mo,.fz false fo,.un,.un] [some (.ref p),some vS,some vM,some vF,none,none] H :=
  ⟨hid H p,[],.refl _,zU2 (.fz (show rp K _ _ (gB.mk ():gB p) from rfl) (.fz rS (.fz rM (.fz rF (.un (.un .nil))))))⟩
 refine(Sn.of (yB false 4 rfl rfl (zUq (bK (md:=.hp) (DQ (zE 2 rfl))) (Eo.ex (v8 (α:=Str×LI))) (tW (yO 2 rfl)))) (show _=some (mo.getD []) by cases mo<;>rfl)) _ rfl (hid H p) _ _ H sg0 λσ1 H1 sg1=>?_
 refine(Sn.of (yB false 5 rfl rfl (zUq (bK (md:=.hp) (DQ (zE 3 rfl))) (Eo.ex (v8 (α:=LI))) (tW (yO 3 rfl)))) (show _=some (fo.getD []) by cases fo<;>rfl)) _ rfl (hid H p) _ _ H1 sg1 λσ2 H2 sg2=>?_
 refine(Sn.of (Nr (md:=.hp) (zN (f:=λa:LLI×Unit=>fS a.1) (zG (zE 1 rfl) zO))) (show _=fS xss from rfl)) () e1 (hid H p) _ _ H2 sg2 λσ3 H3 sg3=>?_
 refine(Sn.of (Nr (md:=.hp) (zN (f:=λa:Cd×Int×Unit=>fM a.1 a.2.1) (zG (zE 4 rfl) (zG (Ex.sc (md:=.hp) (wQ (zE 1 rfl))) zO)))) (show _=fM (mo.getD []) (xss.length:Int) from rfl)) () e2 (hid H p) _ _ H3 sg3 λσ4 H4 sg4=>?_
 refine(Sn.of (Nr (md:=.hp) (zN (f:=λa:LLI×Int×Unit=>fF a.1 a.2.1) (zG (zE 5 rfl) (zG (Ex.sc (md:=.hp) (wQ (zE 1 rfl))) zO)))) (show _=fF (fo.getD []) (xss.length:Int) from rfl)) () e3 (hid H p) _ _ H4 sg4 λσ5 H5 sg5=>?_
 obtain⟨F5,O5,g5,k5,s5⟩:=sg5
 have s5:ak (K:=K) ⟨hid H p,H⟩ F5 (lo F5 O5 H5) H5 [.fz false (gB.mk ():gB p),.fz false xss,.fz false mo,.fz false fo,.fz false (mo.getD []),.fz false (fo.getD [])] σ5 O5:=s5
 cases s5 with|fz r0 s5 =>
 cases s5 with|fz r1 s5 =>
 cases s5 with|fz r2 s5 =>
 cases s5 with|fz r3 s5 =>
 cases s5 with|fz r4 s5 =>
 cases s5 with|fz r5 s5 =>
 cases s5
 rename_i v0 v1 v2 v3 v4 v5
 have r0:v0=.ref p:=r0
 subst r0
 have hF:Same F5 (hid H5 p):=λb o e=>by
  by_cases z:b=p
  ·subst z
   rcases k5.fa b o e with z|z
   ·have z:hid H b b=some o:=z
    rw[NK] at z
    cases z
   ·have z:H b=none:=z
    rw[hp] at z
    cases z
  ·rw[KR z];exact k5.fh b o e
 have r1:rp K (hid H5 p) v1 xss:=Rp.mono hF r1
 have r2:rp K (hid H5 p) v2 mo:=Rp.mono hF r2
 have r3:rp K (hid H5 p) v3 fo:=Rp.mono hF r3
 have r4:rp K (hid H5 p) v4 (mo.getD []):=Rp.mono hF r4
 have r5:rp K (hid H5 p) v5 (fo.getD []):=Rp.mono hF r5
 have Y0:Same H H5:=k5.h0
 have hp5:H5 p=some (.ins C dx []):=Y0 _ _ hp
 refine⟨_,rfl,(xss,()),a,H5,.refl _,e4,.cons (Rp.mono Rk r1) .nil,λy1 H6 s6 t1=>?_⟩
 have t1:rp K (dif H6 H5) y1 a:=t1
 have hp6:=s6 _ _ hp5
 refine⟨_,rfl,p,C,dx,[],rfl,hp6,T.cl,T.nS,(by show 0<1000;decide),?_⟩
 have f1:=Rp.mono (U9 (H:=H) (p:=p) (λb o _ e=>Y0 b o e) (by rw[hp5];intro z;cases z)) t1
 have kp6:∀b o,b≠p->H b=some o->(upd H6 p (.ins C dx (aA "steps" y1 []))) b=some o:=λb o n e=>by rw[zP n];exact s6 _ _ (Y0 _ _ e)
 have h6:Same (hid H5 p) (hid (upd H6 p (.ins C dx (aA "steps" y1 []))) p):=by rw[Ig];exact NP s6
 have E2:Ex (K:=K) ⟨hid (upd H6 p (.ins C dx (aA "steps" y1 []))) p,upd H6 p (.ins C dx (aA "steps" y1 []))⟩ [.fz false (gB.mk ():gB p),.fz false xss,.fz false mo,.fz false fo,.fz false (mo.getD []),.fz false (fo.getD [])] .nw _ _ :=
  (xB (n:=false) (jQ:=[.un,.un]) (no:=2) (ix:=[]) rfl rfl (yE (yO 4 rfl)) (QV 0 1 rfl rfl (λ_=>rfl) rfl) (λx=>wu) (λx=>QL (zD 0 rfl) (uS (zE 1 rfl)).ex) (λx=>qz.un (qz.un qz.nil))).ex
 refine E2 b e5 (hid (upd H6 p (.ins C dx (aA "steps" y1 []))) p) [] _ _ _ (zU2 (.fz (show rp K _ _ (gB.mk ():gB p) from rfl) (.fz (Rp.mono h6 r1) (.fz (Rp.mono h6 r2) (.fz (Rp.mono h6 r3) (.fz (Rp.mono h6 r4) (.fz (Rp.mono h6 r5) .nil))))))) λy2 F7 H7 g7 t2=>?_
 have s7:=g7.hh
 have t2:rp K (dif H7 (upd H6 p (.ins C dx (aA "steps" y1 [])))) y2 b:=Rp.mono (wK g7.ok.fh) t2
 have hp7:H7 p=some (.ins C dx (aA "steps" y1 [])):=s7 _ _ zW
 refine⟨_,rfl,p,C,dx,_,rfl,hp7,T.cl,T.nM,(by show 1<1000;decide),?_⟩
 have f2:=Rp.mono (U9 (H:=H) (p:=p) kp6 (by rw[zW];intro z;cases z)) t2
 have kp7:∀b o,b≠p->H b=some o->(upd H7 p (.ins C dx (aA "marks" y2 (aA "steps" y1 [])))) b=some o:=λb o n e=>by rw[zP n];exact s7 _ _ (kp6 _ _ n e)
 have h7:Same (hid (upd H6 p (.ins C dx (aA "steps" y1 []))) p) (hid (upd H7 p (.ins C dx (aA "marks" y2 (aA "steps" y1 [])))) p):=by rw[Ig (H:=H7)];exact NP s7
 refine⟨_,rfl,(fo.getD [],()),c,_,.refl _,e6,.cons (Rp.mono (h6.trans (h7.trans Rk)) r5) .nil,λy3 H8 s8 t3=>?_⟩
 have t3:rp K (dif H8 (upd H7 p (.ins C dx (aA "marks" y2 (aA "steps" y1 []))))) y3 c:=t3
 have hp8:H8 p=some (.ins C dx (aA "marks" y2 (aA "steps" y1 []))):=s8 _ _ zW
 have l2:(aA "marks" y2 (aA "steps" y1 [])).length<1000:=by
  have a1:=cT "marks" y2 (aA "steps" y1 [])
  have a2:=cT "steps" y1 []
  have a3:([]:List (Str×V)).length=0:=rfl
  omega
 refine⟨_,rfl,p,C,dx,_,rfl,hp8,T.cl,T.nF,l2,?_⟩
 have f3:=Rp.mono (U9 (H:=H) (p:=p) kp7 (by rw[zW];intro z;cases z)) t3
 have kp8:∀b o,b≠p->H b=some o->(upd H8 p (.ins C dx (aA "fair" y3 (aA "marks" y2 (aA "steps" y1 []))))) b=some o:=λb o n e=>by rw[zP n];exact s8 _ _ (kp7 _ _ n e)
 have h8:Same (hid (upd H7 p (.ins C dx (aA "marks" y2 (aA "steps" y1 [])))) p) (hid (upd H8 p (.ins C dx (aA "fair" y3 (aA "marks" y2 (aA "steps" y1 []))))) p):=by rw[Ig (H:=H8)];exact NP s8
 have lk:(aA "fair" y3 (aA "marks" y2 (aA "steps" y1 []))).lookup ("steps":Str)=some y1:=by
  rw[yI,if_neg (by decide +kernel),yI,if_neg (by decide +kernel),yI,if_pos rfl]
 have d1:Same (dif (hid H6 p) (hid H p)) (hid (upd H8 p (.ins C dx (aA "fair" y3 (aA "marks" y2 (aA "steps" y1 []))))) p):=aP.trans ((by rw[Ig];exact .refl _:Same (hid H6 p) (hid (upd H6 p (.ins C dx (aA "steps" y1 []))) p)).trans (h7.trans h8))
 refine⟨_,rfl,p,C,dx,_,_,rfl,zW,T.cl,T.nS,lk,(a,()),d,_,.refl _,e7,.cons (Rp.mono (d1.trans Rk) f1) .nil,λy4 H9 s9 t4=>?_⟩
 have t4:rp K (dif H9 (upd H8 p (.ins C dx (aA "fair" y3 (aA "marks" y2 (aA "steps" y1 [])))))) y4 d:=t4
 have hp9:H9 p=some (.ins C dx (aA "fair" y3 (aA "marks" y2 (aA "steps" y1 [])))):=s9 _ _ zW
 have l3:(aA "fair" y3 (aA "marks" y2 (aA "steps" y1 []))).length<1000:=by
  have a0:=cT "fair" y3 (aA "marks" y2 (aA "steps" y1 []))
  have a1:=cT "marks" y2 (aA "steps" y1 [])
  have a2:=cT "steps" y1 []
  have a3:([]:List (Str×V)).length=0:=rfl
  omega
 refine⟨_,rfl,p,C,dx,_,rfl,hp9,T.cl,T.nB,l3,?_⟩
 have f4:=Rp.mono (U9 (H:=H) (p:=p) kp8 (by rw[zW];intro z;cases z)) t4
 have kp9:∀b o,b≠p->H b=some o->(upd H9 p (.ins C dx (aA "sources" y4 (aA "fair" y3 (aA "marks" y2 (aA "steps" y1 [])))))) b=some o:=λb o n e=>by rw[zP n];exact s9 _ _ (kp8 _ _ n e)
 have u9:Same (hid H9 p) (upd H9 p (.ins C dx (aA "sources" y4 (aA "fair" y3 (aA "marks" y2 (aA "steps" y1 [])))))):=(by rw[Ig];exact .refl _:Same (hid H9 p) (hid (upd H9 p (.ins C dx (aA "sources" y4 (aA "fair" y3 (aA "marks" y2 (aA "steps" y1 [])))))) p)).trans Rk
 have u8:Same (hid H8 p) (hid H9 p):=(by rw[Ig];exact .refl _:Same (hid H8 p) (hid (upd H8 p (.ins C dx (aA "fair" y3 (aA "marks" y2 (aA "steps" y1 []))))) p)).trans (NP s9)
 have u7:Same (hid H7 p) (hid H8 p):=(by rw[Ig];exact .refl _:Same (hid H7 p) (hid (upd H7 p (.ins C dx (aA "marks" y2 (aA "steps" y1 [])))) p)).trans (NP s8)
 have u6:Same (hid H6 p) (hid H7 p):=(by rw[Ig];exact .refl _:Same (hid H6 p) (hid (upd H6 p (.ins C dx (aA "steps" y1 []))) p)).trans (NP s7)
 refine q _ kp9 ⟨p,dx,aA "sources" y4 (aA "fair" y3 (aA "marks" y2 (aA "steps" y1 []))),y1,y2,y3,y4,rfl,?_,?_,Rp.mono (wK (u6.trans (u7.trans (u8.trans u9)))) f1,?_,Rp.mono (wK (u7.trans (u8.trans u9))) f2,?_,Rp.mono (wK (u8.trans u9)) f3,?_,Rp.mono (wK u9) f4,?_⟩
 ·rw[uO NK];exact zW
 ·rw[yI,if_neg (by decide +kernel)];exact lk
 ·rw[yI,if_neg (by decide +kernel),yI,if_neg (by decide +kernel),yI,if_pos rfl]
 ·rw[yI,if_neg (by decide +kernel),yI,if_pos rfl]
 ·rw[yI,if_pos rfl]
 ·intro g hg
  simp only[Xj,mem_cons,List.not_mem_nil,or_false] at hg
  rcases hg with rfl|rfl|rfl|rfl|rfl|rfl<;>(rw[yI,if_neg (by decide +kernel),yI,if_neg (by decide +kernel),yI,if_neg (by decide +kernel),yI,if_neg (by decide +kernel)];rfl)
end
theorem FT{K:PySem.W.Frag}{sl:SL K}(h1:Ex B sl .nw t1 m1)(h2:En B sl t2 m2):Ex B sl .nw (tD (xG t1 (xG t2 bF))) (m1.bind λw=>m2.bind λl=>some (some (w6.mk w l))):=by
 have h:=Nm (Li h1 h2)
 have e:((m1.bind λw=>m2.bind λl=>some (w6.mk w l)).bind λa=>some (some a))=m1.bind λw=>m2.bind λl=>some (some (w6.mk w l)):=by cases m1<;>cases m2<;>rfl
 rw[e] at h
 exact h
abbrev Y4(_:PySem.W.Frag):Sp:=R8
theorem zFx:ao ["loop"] ["loop"] (zK dY):=fsc
theorem zF0(F:bH K "loop_reason" "loop_reason" dY f fd):aB P w K mg base aZ (k+1) f fd ["loop"] (Y4 K):=by
 refine F.ok zFx (λvs H Q E ⟨q,a,b,e,_⟩=>by rw[e];rfl) λcdv A outer s H vs Q E hr h=>?_
 obtain⟨q,a,b,rfl,hq,fin⟩:=h
 refine⟨_,Px (zS (Dd (zB vD (zB (zY (bB K) (pv 0) zI (λ_ _=>rfl)) (zB (zY (bB K) (pv 0) zI (λ_ _=>rfl)) zH))))),?_⟩
 refine⟨_,rfl,q,_,0,.ref a,rfl,rfl,.inl (.inl hq),rfl,?_⟩
 refine⟨_,rfl,q,_,1,.ref b,rfl,rfl,.inl (.inl hq),rfl,?_⟩
 exact⟨by show 3<=sizeLine;decide,λp hp=>fin p hp⟩
end Ts
set_option maxHeartbeats 40000000
namespace Ts
open PySem L2
section
variable{P:Program}{w:World}{K:PySem.W.Frag}{mg:Str->Option Value}{base:Heap}
def Sh(q0:Int)(q1:Int):Option Bool:=if true=true then if(!false)=true then if decide ((0:Int)<=q0)=true then some (decide (q0<q1)) else some false else some false else some false
theorem j8:ao ["thing","many"] ["thing","many"] (zK je):=fsc
abbrev zGv(K:PySem.W.Frag):Sp:=bV K false (λa:Int×Int×Unit=>([.z a.1,.z a.2.1]:SL K)) (λa=>Sh a.1 a.2.1)
theorem zKq(F:bH K "is_stand" "is_stand" je f fd)(B:Bl K mg):aB P w K mg base aZ (k+1) f fd ["thing","many"] (zGv K):=by
 refine yP F j8 (λ_=>rfl) (λ_=>rfl) λcdv A outer s H E hr=>?_
 have nd:=j8.nd
 refine⟨_,(zA (zS (M7 (zT (Em K (Dt (n:="int"))) rfl B.B_ Ec (zB (pv 0) (zB (Cw (v:=.ty "int") rfl B.int Xi rfl) zH))) (M7 (zUg (zT (Em K (Dt (n:="bool"))) rfl B.B_ Ec (zB (pv 0) (zB (Cw (v:=.ty "bool") rfl B.bool zRj rfl) zH)))) (M6 (Wh Qd v7 zI (pv 0) (pv 1)))))) zF),?_⟩
 rintro Fa ⟨q0,q1,⟨⟩⟩
 exact SB.of (yA (esc (Nq (DY B.ii rfl (zD 0 rfl)) (Nq (zUp (DY B.ib rfl (zD 0 rfl))) (U5 (f:=(λi j=>decide (i<=j))) (g:=(λi j=>decide (i<j))) (zJ 0) (zD 0 rfl) (zD 1 rfl)))))) (by unfold Sh;simp only[bnd])
def xH(q0:LI)(q1:Int)(q2:Str):Option Unit:=(some ()).bind λqQ=>((some q0).bind λxs=>xA (λ(s2:List (Key×Bool)) (x4:Int)=>(((Sh x4 q1).bind λa5=>some (!a5)).bind λb=>if b=true then none else some ()).bind λs6=>(if((bU (Dc.mk s2).kv x4).isSome)=true then none else some ()).bind λs8=>(dput s2 x4 true).bind λfP=>some fP) xs (([]:List (Key×Bool)))).bind λs3=>some ()
theorem fZ:ao ["stands","many","where","ahead","stand"] ["stands","many","where"] (zK dj):=fsc
abbrev uC(K:PySem.W.Frag):Sp:=bV K false (λa:LI×Int×Str×Unit=>([.z a.1,.z a.2.1,.z a.2.2.1]:SL K)) (λa=>xH a.1 a.2.1 a.2.2.1)
theorem zEv(F:bH K "check_stands" "check_stands" dj f fd)(B:Bl K mg)(jh:bC P w K mg base k "is_stand" ["thing","many"] (zGv K)):aB P w K mg base aZ (k+1) f fd ["stands","many","where"] (uC K):=by
 refine U7 F fZ (λ_=>rfl) (λ_=>rfl) λcdv A outer s H E hr=>?_
 have nd:=fZ.nd
 have hu:=Qu hr
 refine⟨_,(zA (yF 3 nd Ue) (zA (yN PassesOwn.never rfl (yD K (pv 0)) (bw 4 nd) (zA (yT (wW (wN (yC jh hr (zB (pv 4) (zB (pv 1) zH))))) uW zF) (zA (yT (rR (zUi hu (pv 4) (pv 3))) uW zF) (zA (Ql hu (pv 3) (pv 4) wS rfl) zF)))) zF)),?_⟩
 rintro Fa ⟨q0,q1,q2,⟨⟩⟩
 exact⟨_,Sn.of (zL (Uu (α:=Bool) 3 rfl rfl) (λqQ=>(zL (xI (n:=false) (L:=(λs2:List (Key×Bool)=>([.z q0,.z q1,.z q2,.od (s2:List (Key×Bool)),.un]:SL K))) (([]:List (Key×Bool))) aG (yE (yO 0 rfl)) (λs2=>(zR 4 rfl rfl)) (λs2 x4=>(zL (uQ (wY (bK (md:=.hp) (zN (zG (esc (zD 4 rfl)) (zG (esc (zD 1 rfl)) zO))))) KJ (zQ (λs7:Unit=>([.z q0,.z q1,.z q2,.od (s2:List (Key×Bool)),.z x4]:SL K)) () aG)) (λs6=>(zL (uQ (bK (md:=.hp) (Kv (zD 4 rfl) (Ny 3 rfl))) KJ (zQ (λs9:Unit=>([.z q0,.z q1,.z q2,.od (s2:List (Key×Bool)),.z x4]:SL K)) () aG)) (λs8=>(zL (U4 3 rfl rfl (esc (vA true)) (zD 4 rfl)) (λfP=>(zQ (λs2:List (Key×Bool)=>([.z q0,.z q1,.z q2,.od (s2:List (Key×Bool)),.un]:SL K)) fP aG))))))))) (λs3=>(zQ (λ_:Unit=>([.un,.un,.un,.un,.un]:SL K)) () aG))))) (by unfold xH;simp only[bnd])⟩
def vI(q0:List LI):Option Unit:=(some (q0.length:Int)).bind λmany1=>((if(decide (many1<(1:Int)))=true then some true else some (decide ((60:Int)<many1))).bind λb=>if b=true then none else some ()).bind λs2=>((some (zy q0)).bind λxs=>xA (λ(s4:Unit) (x6:Int×LI)=>(((((KN "steps of stand " x6.1).bind λa8=>some ((a8,()))).bind λb9=>some (many1,b9)).bind λb10=>some (x6.2,b10)).bind λz7=>xH z7.1 z7.2.1 z7.2.2.1).bind λu11=>(if(decide ((x6.2.length:Int)=(0:Int)))=true then none else some ()).bind λs12=>some ()) xs ()).bind λs5=>some ()
theorem gQ:ao ["steps","many","stand","targets"] ["steps"] (zK d7):=fsc
abbrev zIf(K:PySem.W.Frag):Sp:=bV K false (λa:((List LI))×Unit=>([.z a.1]:SL K)) (λa=>vI a.1)
theorem zF1(F:bH K "check_steps" "check_steps" d7 f fd)(B:Bl K mg)(nA:mg "MOST_STANDS" = some (.int 60 nD))(aK:bC P w K mg base k "check_stands" ["stands","many","where"] (uC K)):aB P w K mg base aZ (k+1) f fd ["steps"] (zIf K):=by
 refine U7 F gQ (λ_=>rfl) (λ_=>rfl) λcdv A outer s H E hr=>?_
 have nd:=gQ.nd
 refine⟨_,(zA (yF 1 nd (zT (xT K) rfl B.len PySem.boot_len (zB (pv 0) zH))) (zA (yT (PW.pt (pw_or (zX v7 (pv 1) zI (yJ _)) (pw_or1 (zX Ub (pv 1) (T4 (v:=.int 60) rfl nA ⟨_,rfl⟩) (yJ _))))) uW zF) (zA (yN PassesOwn.never rfl (Xn K B.enum (zB (pv 0) zH)) (PB rfl (wR (bw 2 nd) (wR (bw 3 nd) M9))) (zA (yY (yC aK hr (zB (pv 3) (zB (pv 1) (zB (zu (pv 2) (by decide)) zH))))) (zA (yT (zX (uZ K Int hr) (zT (xT K) rfl B.len PySem.boot_len (zB (pv 3) zH)) zI (yJ _)) uW zF) zF))) zF))),?_⟩
 rintro Fa ⟨q0,⟨⟩⟩
 exact⟨_,Sn.of (zL (yB true 1 rfl rfl (esc (wQ (zE 0 rfl)))) (λmany1=>(zL (uQ (pW (zU (md:=.hp) (DN (zD 1 rfl) (zJ 1))) (zU (md:=.hp) (Uz (zD 1 rfl) (zJ 60)))) KJ (zQ (λs3:Unit=>([.z q0,.y many1,.un,.un]:SL K)) () aG)) (λs2=>(zL (xI (n:=false) (L:=(λs4:Unit=>([.z q0,.y many1,.un,.un]:SL K))) () aG (Xc (yO 0 rfl)) (λs4=>(QV 2 3 rfl rfl (λ_=>rfl) rfl)) (λs4 x6=>(zL (Nr (md:=.hp) (zN (zG (zE 3 rfl) (zG (esc (zD 1 rfl)) (zG (esc (zUr "steps of stand " (zD 2 rfl))) zO))))) (λu11=>(zL (uQ (zU (md:=.hp) (qM (wQ (zE 3 rfl)) (zJ 0))) KJ (zQ (λpN:Unit=>([.z q0,.y many1,.z x6.1,.z x6.2]:SL K)) () aG)) (λs12=>(zQ (λs4:Unit=>([.z q0,.y many1,.un,.un]:SL K)) () aG))))))) (λs5=>(zQ (λ_:Unit=>([.un,.un,.un,.un]:SL K)) () aG))))))) (by unfold vI;simp only[bnd])⟩
def uX(q0:Str):Option Bool:=(if(!true)=true then some true else some (decide (q0∈(["all","not","both","either","somenext","eachnext","sometill","eachtill","someever","eachever"]:List Str)))).bind λb=>if b=true then some false else((Ae q0).bind λb1=>if decide ((1:Int)<=b1)=true then some (decide (b1<=(8:Int))) else some false).bind λc4=>if c4=true then((some (H_ q0)).bind λxs=>yU (λ(x2:Str)=>some true) (λ(x2:Str)=>some (U6 x2 ("abcdefghijklmnopqrstuvwxyz":Str))) xs).bind λa3=>some (a3.all id) else some false
theorem mj:ao ["name"] ["name"] (zK jX):=fsc
abbrev zJ6(K:PySem.W.Frag):Sp:=bV K false (λa:Str×Unit=>([.z a.1]:SL K)) (λa=>uX a.1)
theorem zM4(F:bH K "is_name" "is_name" jX f fd)(B:Bl K mg)(uf:mg "LETTERS" = some (.str "abcdefghijklmnopqrstuvwxyz" ug))(mq:mg "LONGEST_NAME" = some (.int 8 mz))(mC:mg "SAYING_WORDS" = some (.ref bL))(dz:∀H,ou K H bL ((["all","not","both","either","somenext","eachnext","sometill","eachtill","someever","eachever"]:List Str).map V.str))(Ls:mg "all" = none)(Av:mg "str" = none):aB P w K mg base aZ (k+1) f fd ["name"] (zJ6 K):=by
 refine yP F mj (λ_=>rfl) (λ_=>rfl) λcdv A outer s H E hr=>?_
 have nd:=mj.nd
 refine⟨_,(zA (yT (PW.pt (pw_or (wW (wN (zT (Em K (Dt (n:="str"))) rfl B.B_ Ec (zB (pv 0) (zB (Cw (v:=.ty "str") rfl Av zUz rfl) zH))))) (pw_or1 (zX (UL K) (pv 0) (T4 (v:=.ref bL) rfl mC rfl) (by with_unfolding_all rfl))))) (zA (zS wS) zF) zF) (zA (zS (M7 (Wh Qd Qd zI (zT zRe rfl B.len PySem.boot_len (zB (pv 0) zH)) (T4 (v:=.int 8) rfl mq ⟨_,rfl⟩)) (M6 (zT (zRg K rfl) rfl Ls Km (zB (vP (own:=["sign"]) (ix:=[]) rfl rfl rfl (Kz (pv 0)) (λC s H fp=>yM (i:=0) (show(["sign"]:List Str).Nodup from by decide +kernel) rfl (Or.inl rfl)) (λC s H fp=>vO) (λC s H fp=>(Qe zPh (pv 0) (T4 (v:=.str "abcdefghijklmnopqrstuvwxyz") rfl uf ⟨_,rfl⟩) (by with_unfolding_all rfl)))) zH))))) zF)),?_⟩
 rintro Fa ⟨q0,⟨⟩⟩
 exact SB.of (su (pW (wY (bK (md:=.hp) (DY Ib rfl (zD 0 rfl)))) (zU (md:=.hp) (KH dz (zD 0 rfl)))) (yA (esc (vA false))) (yA (esc (Nq (U5 (f:=(λi j=>decide (i<=j))) (g:=(λi j=>decide (i<=j))) (zJ 1) (EY (zD 0 rfl)) (zJ 8)) (zTo (xB (n:=true) (jQ:=[.un]) (no:=1) (ix:=[]) rfl rfl (KC (zD 0 rfl)) (zR 0 rfl rfl) (λx2=>wu) (λx2=>(esc (KD (zD 0 rfl) (Hv "abcdefghijklmnopqrstuvwxyz")))) (λx2=>dW)).ex))))) (by unfold uX;simp only[bnd])
def vJ(q0:List (Str×LI))(q1:Int):Option Unit:=(some ()).bind λqQ=>((some q0).bind λxs=>xA (λ(s2:List (Key×Bool)) (x4:Str×LI)=>(((uX x4.1).bind λa5=>some (!a5)).bind λb=>if b=true then none else some ()).bind λs6=>(if((Ie (Dc.mk s2).kv x4.1).isSome)=true then none else some ()).bind λs8=>(Ri s2 x4.1 true).bind λfP=>(((((Nz "mark " x4.1).bind λa12=>some ((a12,()))).bind λOj=>some (q1,Oj)).bind λLw=>some (x4.2,Lw)).bind λLy=>xH Ly.1 Ly.2.1 Ly.2.2.1).bind λu15=>some fP) xs (([]:List (Key×Bool)))).bind λs3=>some ()
theorem gR:ao ["marks","many","ahead","name","stands"] ["marks","many"] (zK d8):=fsc
abbrev zIg(K:PySem.W.Frag):Sp:=bV K false (λa:((List (Str×LI)))×Int×Unit=>([.z a.1,.z a.2.1]:SL K)) (λa=>vJ a.1 a.2.1)
theorem zF2(F:bH K "check_marks" "check_marks" d8 f fd)(B:Bl K mg)(aK:bC P w K mg base k "check_stands" ["stands","many","where"] (uC K))(j4:bC P w K mg base k "is_name" ["name"] (zJ6 K)):aB P w K mg base aZ (k+1) f fd ["marks","many"] (zIg K):=by
 refine U7 F gR (λ_=>rfl) (λ_=>rfl) λcdv A outer s H E hr=>?_
 have nd:=gR.nd
 have hu:=Qu hr
 refine⟨_,(zA (yF 2 nd Ue) (zA (yN PassesOwn.never rfl (yD K (pv 0)) (PB rfl (wR (bw 3 nd) (wR (bw 4 nd) M9))) (zA (yT (wW (wN (yC j4 hr (zB (pv 3) zH)))) uW zF) (zA (yT (rR (zUi hu (pv 3) (pv 2))) uW zF) (zA (Ql hu (pv 2) (pv 3) wS rfl) (zA (yY (yC aK hr (zB (pv 4) (zB (pv 1) (zB (zu (pv 3) (by decide)) zH))))) zF))))) zF)),?_⟩
 rintro Fa ⟨q0,q1,⟨⟩⟩
 exact⟨_,Sn.of (zL (Uu (α:=Bool) 2 rfl rfl) (λqQ=>(zL (xI (n:=false) (L:=(λs2:List (Key×Bool)=>([.z q0,.z q1,.od (s2:List (Key×Bool)),.un,.un]:SL K))) (([]:List (Key×Bool))) aG (yE (yO 0 rfl)) (λs2=>(QV 3 4 rfl rfl (λ_=>rfl) rfl)) (λs2 x4=>(zL (uQ (wY (bK (md:=.hp) (zN (zG (esc (zD 3 rfl)) zO)))) KJ (zQ (λs7:Unit=>([.z q0,.z q1,.od (s2:List (Key×Bool)),.z x4.1,.z x4.2]:SL K)) () aG)) (λs6=>(zL (uQ (bK (md:=.hp) (E_ (zD 3 rfl) (Ny 2 rfl))) KJ (zQ (λs9:Unit=>([.z q0,.z q1,.od (s2:List (Key×Bool)),.z x4.1,.z x4.2]:SL K)) () aG)) (λs8=>(zL (zSb 2 rfl rfl (esc (vA true)) (zD 3 rfl)) (λfP=>(zL (Nr (md:=.hp) (zN (zG (zE 4 rfl) (zG (esc (zD 1 rfl)) (zG (esc (KQ "mark " (zD 3 rfl))) zO))))) (λu15=>(zQ (λs2:List (Key×Bool)=>([.z q0,.z q1,.od (s2:List (Key×Bool)),.un,.un]:SL K)) fP aG))))))))))) (λs3=>(zQ (λ_:Unit=>([.un,.un,.un,.un,.un]:SL K)) () aG))))) (by unfold vJ;simp only[bnd])⟩
def uJ(q0:List LI)(q1:Int):Option Unit:=((some (zy q0)).bind λxs=>xA (λ(s1:Unit) (x3:Int×LI)=>(((((KN "fair set " x3.1).bind λa5=>some ((a5,()))).bind λb6=>some (q1,b6)).bind λb7=>some (x3.2,b7)).bind λz4=>xH z4.1 z4.2.1 z4.2.2.1).bind λu8=>some ()) xs ()).bind λs2=>some ()
theorem iJ:ao ["fair","many","number","stands"] ["fair","many"] (zK fJ):=fsc
abbrev zJ7(K:PySem.W.Frag):Sp:=bV K false (λa:((List LI))×Int×Unit=>([.z a.1,.z a.2.1]:SL K)) (λa=>uJ a.1 a.2.1)
theorem zHp(F:bH K "check_fair" "check_fair" fJ f fd)(B:Bl K mg)(aK:bC P w K mg base k "check_stands" ["stands","many","where"] (uC K)):aB P w K mg base aZ (k+1) f fd ["fair","many"] (zJ7 K):=by
 refine U7 F iJ (λ_=>rfl) (λ_=>rfl) λcdv A outer s H E hr=>?_
 have nd:=iJ.nd
 refine⟨_,(zA (yN PassesOwn.never rfl (Xn K B.enum (zB (pv 0) zH)) (PB rfl (wR (bw 2 nd) (wR (bw 3 nd) M9))) (zA (yY (yC aK hr (zB (pv 3) (zB (pv 1) (zB (zu (pv 2) (by decide)) zH))))) zF)) zF),?_⟩
 rintro Fa ⟨q0,q1,⟨⟩⟩
 exact⟨_,Sn.of (zL (xI (n:=false) (L:=(λs1:Unit=>([.z q0,.z q1,.un,.un]:SL K))) () aG (Xc (yO 0 rfl)) (λs1=>(QV 2 3 rfl rfl (λ_=>rfl) rfl)) (λs1 x3=>(zL (Nr (md:=.hp) (zN (zG (zE 3 rfl) (zG (esc (zD 1 rfl)) (zG (esc (zUr "fair set " (zD 2 rfl))) zO))))) (λu8=>(zQ (λs1:Unit=>([.z q0,.z q1,.un,.un]:SL K)) () aG))))) (λs2=>(zQ (λ_:Unit=>([.un,.un,.un,.un]:SL K)) () aG))) (by unfold uJ;simp only[bnd])⟩
def Ol(q0:List LI):Option (List LI):=(some q0).bind λxs=>yU (λ(x1:LI)=>some true) (λ(x1:LI)=>some x1) xs
theorem nU:ao ["lists"] ["lists"] (zK lW):=fsc
abbrev zT5(K:PySem.W.Frag):Sp:=bV K false (λa:((List LI))×Unit=>([.z a.1]:SL K)) (λa=>Ol a.1)
theorem zPp(F:bH K "copied" "copied" lW f fd)(B:Bl K mg):aB P w K mg base aZ (k+1) f fd ["lists"] (zT5 K):=by
 refine yP F nU (λ_=>rfl) (λ_=>rfl) λcdv A outer s H E hr=>?_
 have nd:=nU.nd
 refine⟨_,(zA (zS (vP (own:=["things"]) (ix:=[]) rfl rfl rfl (yD K (pv 0)) (λC s H fp=>yM (i:=0) (show(["things"]:List Str).Nodup from by decide +kernel) rfl (Or.inl rfl)) (λC s H fp=>vO) (λC s H fp=>(wP (Ek K) rfl B.list Aa (zB (pv 0) zH))))) zF),?_⟩
 rintro Fa ⟨q0,⟨⟩⟩
 exact SB.of (yA (xB (n:=false) (jQ:=[.un]) (no:=1) (ix:=[]) rfl rfl (yE (yO 0 rfl)) (zR 0 rfl rfl) (λx1=>wu) (λx1=>(uS (zE 0 rfl)).ex) (λx1=>dW)).ex) (by unfold Ol;simp only[bnd])
end
abbrev Sq(C:Addr):=U8 C vI vJ uJ Ol Oi
section
variable{P:Program}{w:World}{K:PySem.W.Frag}{mg:Str->Option Value}{base:Heap}
def yR(q0:aD C):Option Int:=some (q0.steps.length:Int)
theorem f9:ao ["self"] ["self"] (zK dw):=fsc
abbrev wD(K:PySem.W.Frag)(C:Addr):Sp:=bV K false (λa:(aD C)×Unit=>([.z a.1]:SL K)) (λa=>yR a.1)
theorem zEw(F:bH K "many" "Machine.many" dw f fd)(B:Bl K mg)(T:Cl K mg C):aB P w K mg base aZ (k+1) f fd ["self"] (wD K C):=by
 refine yP F f9 (λ_=>rfl) (λ_=>rfl) λcdv A outer s H E hr=>?_
 have nd:=f9.nd
 refine⟨_,(zA (zS (zT (xT K) rfl B.len PySem.boot_len (zB (Nv K (pv 0)) zH))) zF),?_⟩
 rintro Fa ⟨q0,⟨⟩⟩
 exact SB.of (yA (esc (wQ (zJm T.cl T.nS (zE 0 rfl))))) (by unfold yR;simp only[bnd])
def yK(q0:aD C)(q1:Int):Option LI:=(aH q0.steps q1).bind λa1=>qN a1
theorem dB:ao ["self","stand"] ["self","stand"] (zK cj):=fsc
abbrev xP(K:PySem.W.Frag)(C:Addr):Sp:=bV K false (λa:(aD C)×Int×Unit=>([.z a.1,.z a.2.1]:SL K)) (λa=>yK a.1 a.2.1)
theorem zCz(F:bH K "next_of" "Machine.next_of" cj f fd)(B:Bl K mg)(T:Cl K mg C)(cA:mg "sorted" = none):aB P w K mg base aZ (k+1) f fd ["self","stand"] (xP K C):=by
 refine yP F dB (λ_=>rfl) (λ_=>rfl) λcdv A outer s H E hr=>?_
 have nd:=dB.nd
 refine⟨_,(zA (zS (zT (zGs K) rfl cA Xo (zB (zY (aL K) (Nv K (pv 0)) (pv 1) (λ_ _=>rfl)) zH))) zF),?_⟩
 rintro Fa ⟨q0,q1,⟨⟩⟩
 exact SB.of (yA (zQv (yS (zJm T.cl T.nS (zE 0 rfl)) (zD 1 rfl))).ex) (by unfold yK;simp only[bnd])
def wA(q0:aD C)(q1:Int):Option LI:=aH q0.sources q1
theorem dO:ao ["self","stand"] ["self","stand"] (zK cI):=fsc
abbrev zBd(K:PySem.W.Frag)(C:Addr):Sp:=bV K false (λa:(aD C)×Int×Unit=>([.z a.1,.z a.2.1]:SL K)) (λa=>wA a.1 a.2.1)
theorem zDm(F:bH K "before" "Machine.before" cI f fd)(B:Bl K mg)(T:Cl K mg C):aB P w K mg base aZ (k+1) f fd ["self","stand"] (zBd K C):=by
 refine yP F dO (λ_=>rfl) (λ_=>rfl) λcdv A outer s H E hr=>?_
 have nd:=dO.nd
 refine⟨_,(zA (zS (wP (Ek K) rfl B.list Aa (zB (zY (aL K) (Nv K (pv 0)) (pv 1) (λ_ _=>rfl)) zH))) zF),?_⟩
 rintro Fa ⟨q0,q1,⟨⟩⟩
 exact SB.of (yA (uS (yS (zKz T.cl T.nB (zE 0 rfl)) (zD 1 rfl))).ex) (by unfold wA;simp only[bnd])
def yX(q0:aD C)(q1:Int):Option LI:=(aH q0.fair q1).bind λa1=>qN a1
theorem dD:ao ["self","number"] ["self","number"] (zK cu):=fsc
abbrev vY(K:PySem.W.Frag)(C:Addr):Sp:=bV K false (λa:(aD C)×Int×Unit=>([.z a.1,.z a.2.1]:SL K)) (λa=>yX a.1 a.2.1)
theorem zC0(F:bH K "fair_at" "Machine.fair_at" cu f fd)(B:Bl K mg)(T:Cl K mg C)(cA:mg "sorted" = none):aB P w K mg base aZ (k+1) f fd ["self","number"] (vY K C):=by
 refine yP F dD (λ_=>rfl) (λ_=>rfl) λcdv A outer s H E hr=>?_
 have nd:=dD.nd
 refine⟨_,(zA (zS (zT (zGs K) rfl cA Xo (zB (zY (aL K) (Nv K (pv 0)) (pv 1) (λ_ _=>rfl)) zH))) zF),?_⟩
 rintro Fa ⟨q0,q1,⟨⟩⟩
 exact SB.of (yA (zQv (yS (Xl T.cl T.nF (zE 0 rfl)) (zD 1 rfl))).ex) (by unfold yX;simp only[bnd])
def wX(q0:aD C):Option LI:=(yR q0).bind λa1=>Fo a1
theorem iK:ao ["machine"] ["machine"] (zK fD):=fsc
abbrev Y5(K:PySem.W.Frag)(C:Addr):Sp:=bV K false (λa:(aD C)×Unit=>([.z a.1]:SL K)) (λa=>wX a.1)
theorem zHo(F:bH K "everywhere" "everywhere" fD f fd)(B:Bl K mg)(au:dM P w K mg base k C "many" ["self"] (wD K C)):aB P w K mg base aZ (k+1) f fd ["machine"] (Y5 K C):=by
 refine yP F iK (λ_=>rfl) (λ_=>rfl) λcdv A outer s H E hr=>?_
 have nd:=iK.nd
 refine⟨_,(zA (zS (zLp rfl rfl B.list rfl B.range (zB (Q8 au hr (pv 0)) zH))) zF),?_⟩
 rintro Fa ⟨q0,⟨⟩⟩
 exact SB.of (yA (zL7 (uK (by decide +kernel) (zE 0 rfl) zO)).ex) (by unfold wX;simp only[bnd])
def IV(q0:aD C)(q1:LI):Option (List Bool):=(((yR q0).bind λa2=>wF a2).bind λxs=>yU (λ(x3:Int)=>some true) (λ(x3:Int)=>some false) xs).bind λdF=>((some q1).bind λxs=>xA (λ(s4:List Bool) (x6:Int)=>(rY s4 x6 true).bind λAw=>some Aw) xs dF).bind λs5=>some s5
theorem qg:ao ["machine","stands","told","stand"] ["machine","stands"] (zK oK):=fsc
abbrev Vr(K:PySem.W.Frag)(C:Addr):Sp:=bV K false (λa:(aD C)×LI×Unit=>([.z a.1,.z a.2.1]:SL K)) (λa=>IV a.1 a.2.1)
theorem zS3(F:bH K "flags" "flags" oK f fd)(B:Bl K mg)(au:dM P w K mg base k C "many" ["self"] (wD K C)):aB P w K mg base aZ (k+1) f fd ["machine","stands"] (Vr K C):=by
 refine yP F qg (λ_=>rfl) (λ_=>rfl) λcdv A outer s H E hr=>?_
 have nd:=qg.nd
 refine⟨_,(zA (BW (i:=2) (own:=["stand"]) (ix:=[]) nd rfl rfl rfl rfl rfl (yL rfl B.range (zB (Q8 au hr (pv 0)) zH)) (λC s H fp=>yM (i:=0) (show(["stand"]:List Str).Nodup from by decide +kernel) rfl (Or.inl rfl)) (λC s H fp=>vO) (λC s H fp=>wS)) (zA (yN PassesOwn.never rfl (yD K (pv 1)) (bw 3 nd) (zA (PL wS (PK (pv 2) (pv 3) Nj)) zF)) (zA (zS (pv 2)) zF))),?_⟩
 rintro Fa ⟨q0,q1,⟨⟩⟩
 exact SB.of (zM (uM true 2 rfl rfl (xB (n:=true) (jQ:=[.un]) (no:=1) (ix:=[]) rfl rfl (yW (uK (by decide +kernel) (zE 0 rfl) zO)) (zR 0 rfl rfl) (λx3=>wu) (λx3=>(esc (vA false))) (λx3=>dW))) (λdF=>(zM (xI (n:=false) (L:=(λs4:List Bool=>([.z q0,.z q1,.ow true s4,.un]:SL K))) dF aG (yE (yO 1 rfl)) (λs4=>(zR 3 rfl rfl)) (λs4 x6=>(zL (QT 2 rfl rfl (esc (vA true)) (zD 3 rfl)) (λAw=>(zQ (λs4:List Bool=>([.z q0,.z q1,.ow true s4,.un]:SL K)) Aw aG))))) (λs5=>(BZ 2 rfl rfl))))) (by unfold IV;simp only[bnd])
def vE(q0:LI)(q1:LI):Option LI:=Vi q0 q1
theorem nY:ao ["one","other"] ["one","other"] (zK lR):=fsc
abbrev Y6(K:PySem.W.Frag):Sp:=bV K false (λa:LI×LI×Unit=>([.z a.1,.z a.2.1]:SL K)) (λa=>vE a.1 a.2.1)
theorem zPk(F:bH K "shared" "shared" lR f fd)(B:Bl K mg)(cA:mg "sorted" = none)(uh:mg "set" = none):aB P w K mg base aZ (k+1) f fd ["one","other"] (Y6 K):=by
 refine yP F nY (λ_=>rfl) (λ_=>rfl) λcdv A outer s H E hr=>?_
 have nd:=nY.nd
 refine⟨_,(zA (zS (zIx rfl cA (Fi (X7 K rfl uh (pv 0)) (X7 K rfl uh (pv 1))))) zF),?_⟩
 rintro Fa ⟨q0,q1,⟨⟩⟩
 exact SB.of (yA (zNn (zE 0 rfl) (zE 1 rfl)).ex) (by unfold vE;simp only[bnd])
def xV(q0:aD C)(q1:LI)(q2:LI):Option (List (Option Int)):=(IV q0 q1).bind λbx=>(((yR q0).bind λa3=>wF a3).bind λxs=>yU (λ(x4:Int)=>some true) (λ(x4:Int)=>some (none:Option Int)) xs).bind λgj=>((some q2).bind λxs=>xA (λ(s5:List (Option Int)) (x7:Int)=>(rY s5 x7 (some (0:Int))).bind λAx=>some Ax) xs gj).bind λs6=>(some q2).bind λLz=>(some (0:Int)).bind λoX=>(Du (λbI:(List (Option Int))×LI×Int=>some (decide (bI.2.2<(bI.2.1.length:Int)))) (λbI:(List (Option Int))×LI×Int=>(aH bI.2.1 bI.2.2).bind λfQ=>((wA q0 fQ).bind λxs=>xA (λ(jA:(List (Option Int))×LI) (oY:Int)=>(((aH bx oY).bind λY7=>if Y7=true then(aH jA.1 oY).bind λa17=>some a17.isNone else some false).bind λb=>if b=true then(((((aH jA.1 fQ).bind λa22=>a22).bind λa23=>some (a23+(1:Int))).bind λa24=>some (some a24)).bind λa25=>rY jA.1 oY a25).bind λfU=>(push jA.2 oY).bind λAy=>some (fU,Ay) else some (jA.1,jA.2)).bind λoZ=>some (oZ.1,oZ.2)) xs (bI.1,bI.2.1)).bind λCk=>(some (bI.2.2+(1:Int))).bind λo7=>some (Ck.1,Ck.2,o7)) fuel (s6,Lz,oX)).bind λs12=>some s12.1
theorem jB:ao ["machine","through","goal","passable","told","stand","row","place","source"] ["machine","through","goal"] (zK gD):=fsc
abbrev Vs(K:PySem.W.Frag)(C:Addr):Sp:=bV K false (λa:(aD C)×LI×LI×Unit=>([.z a.1,.z a.2.1,.z a.2.2.1]:SL K)) (λa=>xV a.1 a.2.1 a.2.2.1)
theorem zI9(F:bH K "distances" "distances" gD f fd)(B:Bl K mg)(cJ:dM P w K mg base k C "before" ["self","stand"] (zBd K C))(au:dM P w K mg base k C "many" ["self"] (wD K C))(cY:bC P w K mg base k "flags" ["machine","stands"] (Vr K C)):aB P w K mg base aZ (k+1) f fd ["machine","through","goal"] (Vs K C):=by
 refine yP F jB (λ_=>rfl) (λ_=>rfl) λcdv A outer s H E hr=>?_
 have nd:=jB.nd
 refine⟨_,(zA (yF 3 nd (yC cY hr (zB (pv 0) (zB (pv 1) zH)))) (zA (BW (i:=4) (own:=["stand"]) (ix:=[]) nd rfl rfl rfl rfl rfl (yL rfl B.range (zB (Q8 au hr (pv 0)) zH)) (λC s H fp=>yM (i:=0) (show(["stand"]:List Str).Nodup from by decide +kernel) rfl (Or.inl rfl)) (λC s H fp=>vO) (λC s H fp=>Ph)) (zA (yN PassesOwn.never rfl (yD K (pv 2)) (bw 5 nd) (zA (PL zI (PK (pv 4) (pv 5) Nj)) zF)) (zA (yF 6 nd (wP (Ek K) rfl B.list Aa (zB (pv 2) zH))) (zA (yF 7 nd zI) (zA (zLn PassesOwn.never (zX v7 (pv 7) (zT (xT K) rfl B.len PySem.boot_len (zB (pv 6) zH)) (yJ _)) (zA (yF 5 nd (zY (aL K) (pv 6) (pv 7) (λ_ _=>rfl))) (zA (yN PassesOwn.never rfl (yD K (Kq cJ hr (pv 0) (zB (pv 5) zH))) (bw 8 nd) (zA (yT (PW.pt (pw_and (wN (zY (aL K) (pv 3) (pv 8) (λ_ _=>rfl))) (pw_and1 (rR (Cy (zY (aL K) (pv 4) (pv 8) (λ_ _=>rfl))))))) (zA (PL (zZ xL (zY (aL K) (pv 4) (pv 5) (λ_ _=>rfl)) zI) (PK (pv 4) (pv 8) Nj)) (zA (yY (sE K PySem.F.plainAttrs_list PySem.F.slot_list_append PySem.F.type_list_append xM (pv 6) (zB (pv 8) zH))) zF)) zF) zF)) (zA (V7 (i:=7) nd rfl (by first|exact .inl rfl|exact .inr rfl) zI zUo) zF)))) (zA (zS (pv 4)) zF))))))),?_⟩
 rintro Fa ⟨q0,q1,q2,⟨⟩⟩
 exact SB.of (zM (yB true 3 rfl rfl (zN (zG (zE 0 rfl) (zG (zE 1 rfl) zO)))) (λbx=>(zM (uM true 4 rfl rfl (xB (n:=true) (jQ:=[.un]) (no:=1) (ix:=[]) rfl rfl (yW (uK (by decide +kernel) (zE 0 rfl) zO)) (zR 0 rfl rfl) (λx4=>wu) (λx4=>(esc (QH (α:=Int)))) (λx4=>dW))) (λgj=>(zM (xI (n:=false) (L:=(λs5:List (Option Int)=>([.z q0,.z q1,.z q2,.y bx,.ow true s5,.un,.un,.un,.un]:SL K))) gj aG (yE (yO 2 rfl)) (λs5=>(zR 5 rfl rfl)) (λs5 x7=>(zL (QT 4 rfl rfl (esc (Nm (zJ 0))) (zD 5 rfl)) (λAx=>(zQ (λs5:List (Option Int)=>([.z q0,.z q1,.z q2,.y bx,.ow true s5,.un,.un,.un,.un]:SL K)) Ax aG))))) (λs6=>(zM (uM true 6 rfl rfl (uS (zE 2 rfl))) (λLz=>(zM (yB true 7 rfl rfl (esc (zJ 0))) (λoX=>(zM (zLh (L:=(λbI:(List (Option Int))×LI×Int=>([.z q0,.z q1,.z q2,.y bx,.ow true bI.1,.un,.ow true bI.2.1,.y bI.2.2,.un]:SL K))) fuel (s6,Lz,oX) aG (λbI=>(zU (md:=.hp) (DN (zD 7 rfl) (wQ (wV 6 rfl))))) (λbI=>(zL (yB true 5 rfl rfl (esc (esc (yS (wV 6 rfl) (zD 7 rfl))))) (λfQ=>(zL (xI (n:=true) (L:=(λjA:(List (Option Int))×LI=>([.z q0,.z q1,.z q2,.y bx,.ow true jA.1,.y fQ,.ow true jA.2,.y bI.2.2,.un]:SL K))) (bI.1,bI.2.1) aG (yE (uK (by decide +kernel) (zE 0 rfl) (zG (esc (zD 5 rfl)) zO))) (λjA=>(zR 8 rfl rfl)) (λjA oY=>(zL (uQ (Np (bK (md:=.hp) (esc (yS (zE 3 rfl) (zD 8 rfl)))) (bK (md:=.hp) (DQ (esc (yS (wV 4 rfl) (zD 8 rfl)))))) (zL (QT 4 rfl rfl (esc (Nm (xO (tW (esc (yS (wV 4 rfl) (zD 5 rfl)))) (zJ 1)))) (zD 8 rfl)) (λfU=>(zL (vC 6 rfl rfl (esc (zD 8 rfl))) (λAy=>(zQ (λqR:(List (Option Int))×LI=>([.z q0,.z q1,.z q2,.y bx,.ow true qR.1,.y fQ,.ow true qR.2,.y bI.2.2,.y oY]:SL K)) (fU,Ay) aG))))) (zQ (λqR:(List (Option Int))×LI=>([.z q0,.z q1,.z q2,.y bx,.ow true qR.1,.y fQ,.ow true qR.2,.y bI.2.2,.y oY]:SL K)) (jA.1,jA.2) aG)) (λoZ=>(zQ (λjA:(List (Option Int))×LI=>([.z q0,.z q1,.z q2,.y bx,.ow true jA.1,.y fQ,.ow true jA.2,.y bI.2.2,.un]:SL K)) (oZ.1,oZ.2) aG))))) (λCk=>(zL (Xm (s:=.un) 7 rfl (zJ 1)) (λo7=>(zQ (λbI:(List (Option Int))×LI×Int=>([.z q0,.z q1,.z q2,.y bx,.ow true bI.1,.un,.ow true bI.2.1,.y bI.2.2,.un]:SL K)) (Ck.1,Ck.2,o7) aG))))))))) (λs12=>(BZ 4 rfl rfl))))))))))))) (by unfold xV;simp only[bnd])
def wC(q0:aD C)(q1:LI)(q2:LI):Option LI:=(xV q0 q1 q2).bind λj9=>(some (zy j9)).bind λxs=>yU (λ(x2:Int×(Option Int))=>some x2.2.isSome) (λ(x2:Int×(Option Int))=>some x2.1) xs
theorem j_:ao ["machine","through","goal","away"] ["machine","through","goal"] (zK i_):=fsc
abbrev zGw(K:PySem.W.Frag)(C:Addr):Sp:=bV K false (λa:(aD C)×LI×LI×Unit=>([.z a.1,.z a.2.1,.z a.2.2.1]:SL K)) (λa=>wC a.1 a.2.1 a.2.2.1)
theorem zKr(F:bH K "comes_to" "comes_to" i_ f fd)(B:Bl K mg)(aQ:bC P w K mg base k "distances" ["machine","through","goal"] (Vs K C)):aB P w K mg base aZ (k+1) f fd ["machine","through","goal"] (zGw K C):=by
 refine yP F j_ (λ_=>rfl) (λ_=>rfl) λcdv A outer s H E hr=>?_
 have nd:=j_.nd
 refine⟨_,(zA (yF 3 nd (yC aQ hr (zB (pv 0) (zB (pv 1) (zB (pv 2) zH))))) (zA (zS (vP (own:=["stand","steps"]) (ix:=[]) rfl rfl rfl (Xn K B.enum (zB (pv 3) zH)) (λC s H fp=>zPc (K:=K) (n:=2) rfl rfl (wR (yM (i:=0) (show(["stand","steps"]:List Str).Nodup from by decide +kernel) rfl (Or.inl rfl)) (wR (yM (i:=1) (show(["stand","steps"]:List Str).Nodup from by decide +kernel) rfl (Or.inl rfl)) M9))) (λC s H fp=>BR (rR (zPd (pv 1)))) (λC s H fp=>(pv 0)))) zF)),?_⟩
 rintro Fa ⟨q0,q1,q2,⟨⟩⟩
 exact SB.of (zM (yB true 3 rfl rfl (zN (zG (zE 0 rfl) (zG (zE 1 rfl) (zG (zE 2 rfl) zO))))) (λj9=>(yA (xB (n:=true) (jQ:=[.un,.un]) (no:=2) (ix:=[]) rfl rfl (Xc (yO 3 rfl)) (QV 0 1 rfl rfl (λ_=>rfl) rfl) (λx2=>(bK (md:=.hp) (zQr (zD 1 rfl)))) (λx2=>(esc (zD 0 rfl))) (λx2=>dW)).ex))) (by unfold wC;simp only[bnd])
def vQ(q0:aD C)(q1:List (Option Int))(q2:Int):Option (Option LI):=((aH q1 q2).bind λa1=>some a1.isNone).bind λb=>if b=true then some ((none:Option LI)) else(some ([q2])).bind λgj=>(((((aH q1 q2).bind λa6=>a6).bind λa7=>some (a7-(1:Int))).bind λa8=>Rf a8 (-(1:Int))).bind λxs=>xA (λ(s3:LI) (x5:Int)=>((((((aH s3 (-(1:Int))).bind λa11=>some ((a11,()))).bind λSs=>yK q0 Ss.1).bind λxs=>yU (λ(x12:Int)=>(aH q1 x12).bind λa13=>some (decide (a13=(some x5)))) (λ(x12:Int)=>some x12) xs).bind λa14=>tX a14).bind λa15=>push s3 a15).bind λAz=>some Az) xs gj).bind λs4=>some (some s4)
theorem jC:ao ["machine","away","stand","told","rest"] ["machine","away","stand"] (zK gF):=fsc
abbrev Y8(K:PySem.W.Frag)(C:Addr):Sp:=bV K false (λa:(aD C)×((List (Option Int)))×Int×Unit=>([.z a.1,.z a.2.1,.z a.2.2.1]:SL K)) (λa=>vQ a.1 a.2.1 a.2.2.1)
theorem zI2(F:bH K "walk_down" "walk_down" gF f fd)(B:Bl K mg)(A_:mg "min" = none)(aq:dM P w K mg base k C "next_of" ["self","stand"] (xP K C)):aB P w K mg base aZ (k+1) f fd ["machine","away","stand"] (Y8 K C):=by
 refine yP F jC (λ_=>rfl) (λ_=>rfl) λcdv A outer s H E hr=>?_
 have nd:=jC.nd
 refine⟨_,(zA (yT (rR (Cy (zY (aL K) (pv 1) (pv 2) (λ_ _=>rfl)))) (zA (zS Ph) zF) zF) (zA (yF 3 nd (wO (zB (pv 2) zH))) (zA (yN PassesOwn.never rfl (Ew rfl B.range (zB (zZ T_ (zY (aL K) (pv 1) (pv 2) (λ_ _=>rfl)) zI) (zB (CJ CQ zI) (zB (CJ CQ zI) zH)))) (bw 4 nd) (zA (yY (sE K PySem.F.plainAttrs_list PySem.F.slot_list_append PySem.F.type_list_append xM (pv 3) (zB (zT (zRc K rfl) rfl A_ Kl (zB (vP (own:=["after"]) (ix:=[1,4]) rfl rfl rfl (yD K (Kq aq hr (pv 0) (zB (zY (aL K) (pv 3) (CJ CQ zI) (λ_ _=>rfl)) zH))) (λC s H fp=>yM (i:=0) (show(["after","away","rest"]:List Str).Nodup from by decide +kernel) rfl (Or.inl rfl)) (λC s H fp=>BR (zX (uZ K (Option Int) hr) (zY (aL K) (pv 1) (pv 0) (λ_ _=>rfl)) (pv 2) (yJ _))) (λC s H fp=>(pv 0))) zH)) zH))) zF)) (zA (zS (pv 3)) zF)))),?_⟩
 rintro Fa ⟨q0,q1,q2,⟨⟩⟩
 exact SB.of (su (bK (md:=.hp) (DQ (esc (yS (zE 1 rfl) (zD 2 rfl))))) (yA (QH (α:=LI))) (zM (uM true 3 rfl rfl (J5 (wM (esc (zD 2 rfl)) J4) (λa h=>Nat.le_trans ((uN Ko) a h) (by decide)))) (λgj=>(zM (xI (n:=true) (L:=(λs3:LI=>([.z q0,.z q1,.z q2,.ow true s3,.un]:SL K))) gj aG (Ey (Uy (tW (esc (yS (zE 1 rfl) (zD 2 rfl)))) (zJ 1)) (Es (zJ 1)) (Es (zJ 1))) (λs3=>(zR 4 rfl rfl)) (λs3 x5=>(zL (vC 3 rfl rfl (esc (Er (xB (n:=true) (jQ:=[.un,.z q1,.y x5]) (no:=1) (ix:=[1,4]) rfl rfl (yE (uK (by decide +kernel) (zE 0 rfl) (zG (esc (esc (yS (wV 3 rfl) (Es (zJ 1))))) zO))) (zR 0 rfl rfl) (λx12=>(zU (md:=.hp) (qM (esc (yS (zE 1 rfl) (zD 0 rfl))) (Nm (zD 2 rfl))))) (λx12=>(esc (zD 0 rfl))) (λx12=>dW)).ex))) (λAz=>(zQ (λs3:LI=>([.z q0,.z q1,.z q2,.ow true s3,.un]:SL K)) Az aG))))) (λs4=>(zSg 3 rfl rfl)))))) (by unfold vQ;simp only[bnd])
def xQ(q0:aD C)(q1:LI)(q2:LI)(q3:Int):Option (Option LI):=(((xV q0 q1 q2).bind λa2=>some ((a2,(q3,())))).bind λb3=>some (q0,b3)).bind λz1=>vQ z1.1 z1.2.1 z1.2.2.1
theorem iQ:ao ["machine","through","goal","stand"] ["machine","through","goal","stand"] (zK fG):=fsc
abbrev Y9(K:PySem.W.Frag)(C:Addr):Sp:=bV K false (λa:(aD C)×LI×LI×Int×Unit=>([.z a.1,.z a.2.1,.z a.2.2.1,.z a.2.2.2.1]:SL K)) (λa=>xQ a.1 a.2.1 a.2.2.1 a.2.2.2.1)
theorem zHk(F:bH K "short_walk" "short_walk" fG f fd)(B:Bl K mg)(aQ:bC P w K mg base k "distances" ["machine","through","goal"] (Vs K C))(bY:bC P w K mg base k "walk_down" ["machine","away","stand"] (Y8 K C)):aB P w K mg base aZ (k+1) f fd ["machine","through","goal","stand"] (Y9 K C):=by
 refine yP F iQ (λ_=>rfl) (λ_=>rfl) λcdv A outer s H E hr=>?_
 have nd:=iQ.nd
 refine⟨_,(zA (zS (yC bY hr (zB (pv 0) (zB (yC aQ hr (zB (pv 0) (zB (pv 1) (zB (pv 2) zH)))) (zB (pv 3) zH))))) zF),?_⟩
 rintro Fa ⟨q0,q1,q2,q3,⟨⟩⟩
 exact SB.of (yA (zN (zG (zE 0 rfl) (zG (zN (zG (zE 0 rfl) (zG (zE 1 rfl) (zG (zE 2 rfl) zO)))) (zG (esc (zD 3 rfl)) zO))))) (by unfold xQ;simp only[bnd])
def Om(q0:LI):Option Int:=(some (0:Int)).bind λdF=>((some q0).bind λxs=>xA (λ(s2:Int) (x4:Int)=>((tY (1:Int) x4).bind λa6=>some (Builtin.bitOr s2 a6)).bind λmD=>some mD) xs dF).bind λs3=>some s3
theorem mF:ao ["stands","told","stand"] ["stands"] (zK jV):=fsc
abbrev zJ8(K:PySem.W.Frag):Sp:=bV K false (λa:LI×Unit=>([.z a.1]:SL K)) (λa=>Om a.1)
theorem zM5(F:bH K "bits_of" "bits_of" jV f fd)(B:Bl K mg):aB P w K mg base aZ (k+1) f fd ["stands"] (zJ8 K):=by
 refine yP F mF (λ_=>rfl) (λ_=>rfl) λcdv A outer s H E hr=>?_
 have nd:=mF.nd
 refine⟨_,(zA (yF 1 nd zI) (zA (yN PassesOwn.never rfl (yD K (pv 0)) (bw 2 nd) (zA (V7 (i:=1) nd rfl (by first|exact .inl rfl|exact .inr rfl) (zZ Jy zI (pv 2)) Ij) zF)) (zA (zS (pv 1)) zF))),?_⟩
 rintro Fa ⟨q0,⟨⟩⟩
 exact SB.of (zM (yB true 1 rfl rfl (esc (zJ 0))) (λdF=>(zM (xI (n:=false) (L:=(λs2:Int=>([.z q0,.y s2,.un]:SL K))) dF aG (yE (yO 0 rfl)) (λs2=>(zR 2 rfl rfl)) (λs2 x4=>(zL (Xm (s:=.un) 1 rfl (K7 (zJ 1) (zD 2 rfl))) (λmD=>(zQ (λs2:Int=>([.z q0,.y s2,.un]:SL K)) mD aG))))) (λs3=>(yA (esc (zD 1 rfl))))))) (by unfold Om;simp only[bnd])
def vH(q0:aD C)(q1:LI):Option LI:=(Om q1).bind λaN=>(((yR q0).bind λa3=>wF a3).bind λxs=>yU (λ(x4:Int)=>some true) (λ(x4:Int)=>some (0:Int)) xs).bind λdG=>((some q1).bind λxs=>xA (λ(s5:LI) (x7:Int)=>(((((yK q0 x7).bind λa10=>some ((a10,()))).bind λz9=>Om z9.1).bind λa11=>some (Builtin.bitAnd a11 aN)).bind λa12=>rY s5 x7 a12).bind λBa=>some Ba) xs dG).bind λs6=>((some q1).bind λxs=>xA (λ(pN:LI) (LC:Int)=>((some q1).bind λxs=>xA (λ(qT:LI) (x18:Int)=>(((((aH qT x18).bind λa19=>iY a19 LC).bind λa20=>some (Builtin.bitAnd a20 (1:Int))).bind λa21=>some (a21 != 0)).bind λb=>if b=true then((aH qT LC).bind λY_=>Fp (λi j=>Builtin.bitOr i j) qT x18 Y_).bind λqU=>some qU else some qT).bind λqW=>some qW) xs pN).bind λuo=>some uo) xs s6).bind λjA=>some jA
theorem gW:ao ["machine","within","inside","rows","stand","middle"] ["machine","within"] (zK dX):=fsc
abbrev zDf(K:PySem.W.Frag)(C:Addr):Sp:=bV K false (λa:(aD C)×LI×Unit=>([.z a.1,.z a.2.1]:SL K)) (λa=>vH a.1 a.2.1)
theorem zFz(F:bH K "onward_bits" "onward_bits" dX f fd)(B:Bl K mg)(au:dM P w K mg base k C "many" ["self"] (wD K C))(aq:dM P w K mg base k C "next_of" ["self","stand"] (xP K C))(iw:bC P w K mg base k "bits_of" ["stands"] (zJ8 K)):aB P w K mg base aZ (k+1) f fd ["machine","within"] (zDf K C):=by
 refine yP F gW (λ_=>rfl) (λ_=>rfl) λcdv A outer s H E hr=>?_
 have nd:=gW.nd
 refine⟨_,(zA (yF 2 nd (yC iw hr (zB (pv 1) zH))) (zA (BW (i:=3) (own:=["stand"]) (ix:=[]) nd rfl rfl rfl rfl rfl (yL rfl B.range (zB (Q8 au hr (pv 0)) zH)) (λC s H fp=>yM (i:=0) (show(["stand"]:List Str).Nodup from by decide +kernel) rfl (Or.inl rfl)) (λC s H fp=>vO) (λC s H fp=>zI)) (zA (yN PassesOwn.never rfl (yD K (pv 1)) (bw 4 nd) (zA (PL (zZ Qc (yC iw hr (zB (Kq aq hr (pv 0) (zB (pv 4) zH)) zH)) (pv 2)) (PK (pv 3) (pv 4) Nj)) zF)) (zA (yN PassesOwn.never rfl (yD K (pv 1)) (bw 5 nd) (zA (yN PassesOwn.never rfl (yD K (pv 1)) (bw 4 nd) (zA (yT (Yg K (zZ Qc (zZ Ua (zY (aL K) (pv 3) (pv 4) (λ_ _=>rfl)) (pv 5)) zI)) (zA (Cz (pv 3) (pv 4) (zQi K) (zY (aL K) (pv 3) (pv 5) (λ_ _=>rfl)) Ij Nj) zF) zF) zF)) zF)) (zA (zS (pv 3)) zF))))),?_⟩
 rintro Fa ⟨q0,q1,⟨⟩⟩
 exact SB.of (zM (yB true 2 rfl rfl (esc (zN (zG (zE 1 rfl) zO)))) (λaN=>(zM (uM true 3 rfl rfl (xB (n:=true) (jQ:=[.un]) (no:=1) (ix:=[]) rfl rfl (yW (uK (by decide +kernel) (zE 0 rfl) zO)) (zR 0 rfl rfl) (λx4=>wu) (λx4=>(esc (zJ 0))) (λx4=>dW))) (λdG=>(zM (xI (n:=false) (L:=(λs5:LI=>([.z q0,.z q1,.y aN,.ow true s5,.un,.un]:SL K))) dG aG (yE (yO 1 rfl)) (λs5=>(zR 4 rfl rfl)) (λs5 x7=>(zL (QT 3 rfl rfl (esc (Rx (zN (zG (uK (by decide +kernel) (zE 0 rfl) (zG (esc (zD 4 rfl)) zO)) zO)) (zD 2 rfl))) (zD 4 rfl)) (λBa=>(zQ (λs5:LI=>([.z q0,.z q1,.y aN,.ow true s5,.un,.un]:SL K)) Ba aG))))) (λs6=>(zM (xI (n:=false) (L:=(λpN:LI=>([.z q0,.z q1,.y aN,.ow true pN,.un,.un]:SL K))) s6 aG (yE (yO 1 rfl)) (λpN=>(zR 5 rfl rfl)) (λpN LC=>(zL (xI (n:=false) (L:=(λqT:LI=>([.z q0,.z q1,.y aN,.ow true qT,.un,.z LC]:SL K))) pN aG (yE (yO 1 rfl)) (λqT=>(zR 4 rfl rfl)) (λqT x18=>(zL (uQ (Yh (Rx (Vj (esc (yS (wV 3 rfl) (zD 4 rfl))) (zD 5 rfl)) (zJ 1))) (zL (zSd 3 rfl rfl (zD 4 rfl) (esc (yS (wV 3 rfl) (zD 5 rfl)))) (λqU=>(zQ (λLK:LI=>([.z q0,.z q1,.y aN,.ow true LK,.z x18,.z LC]:SL K)) qU aG))) (zQ (λLK:LI=>([.z q0,.z q1,.y aN,.ow true LK,.z x18,.z LC]:SL K)) qT aG)) (λqW=>(zQ (λqT:LI=>([.z q0,.z q1,.y aN,.ow true qT,.un,.z LC]:SL K)) qW aG))))) (λuo=>(zQ (λpN:LI=>([.z q0,.z q1,.y aN,.ow true pN,.un,.un]:SL K)) uo aG))))) (λjA=>(BZ 3 rfl rfl))))))))) (by unfold vH;simp only[bnd])
def Oo(q0:aD C)(q1:LI):Option (List LI):=(N5 q1).bind λcP=>(vH q0 cP).bind λdG=>(some (([]:List LI))).bind λBb=>(some ()).bind λSv=>((some cP).bind λxs=>xA (λ(s5:(List LI)×(List (Key×Bool))) (x7:Int)=>((if(!(bU (Dc.mk s5.2).kv x7).isSome)=true then(((aH dG x7).bind λa8=>iY a8 x7).bind λa9=>some (Builtin.bitAnd a9 (1:Int))).bind λa10=>some (a10 != 0) else some false).bind λb=>if b=true then((some cP).bind λxs=>yU (λ(LQ:Int)=>((((aH dG x7).bind λa15=>iY a15 LQ).bind λa17=>((aH dG LQ).bind λa16=>iY a16 x7).bind λBc=>some (Builtin.bitAnd a17 Bc)).bind λa19=>some (Builtin.bitAnd a19 (1:Int))).bind λa20=>some (a20 != 0)) (λ(LQ:Int)=>some LQ) xs).bind λmG=>(push s5.1 mG).bind λfU=>((some mG).bind λxs=>xA (λ(qW:List (Key×Bool)) (x24:Int)=>(dput qW x24 true).bind λqX=>some qX) xs s5.2).bind λLK=>some (fU,LK) else some (s5.1,s5.2)).bind λbI=>some (bI.1,bI.2)) xs ((Bb,([]:List (Key×Bool))))).bind λs6=>some s6.1
theorem qj:ao ["machine","within","stands","rows","told","done","stand","ring","other"] ["machine","within"] (zK oO):=fsc
abbrev Za(K:PySem.W.Frag)(C:Addr):Sp:=bV K false (λa:(aD C)×LI×Unit=>([.z a.1,.z a.2.1]:SL K)) (λa=>Oo a.1 a.2.1)
theorem zSy(F:bH K "rings" "rings" oO f fd)(B:Bl K mg)(cA:mg "sorted" = none)(uh:mg "set" = none)(d9:bC P w K mg base k "onward_bits" ["machine","within"] (zDf K C)):aB P w K mg base aZ (k+1) f fd ["machine","within"] (Za K C):=by
 refine yP F qj (λ_=>rfl) (λ_=>rfl) λcdv A outer s H E hr=>?_
 have nd:=qj.nd
 have hu:=Qu hr
 refine⟨_,(zA (yF 2 nd (zIx rfl cA (X7 K rfl uh (pv 1)))) (zA (yF 3 nd (yC d9 hr (zB (pv 0) (zB (pv 2) zH)))) (zA (yF 4 nd (wO zH)) (zA (yF 5 nd Ue) (zA (yN PassesOwn.never rfl (yD K (pv 2)) (bw 6 nd) (zA (yT (PW.pt (pw_and (rR (zIz hu (pv 6) (pv 5))) (pw_and1 (Yg K (zZ Qc (zZ Ua (zY (aL K) (pv 3) (pv 6) (λ_ _=>rfl)) (pv 6)) zI))))) (zA (BW (i:=7) (own:=["other"]) (ix:=[3,6]) nd rfl rfl rfl rfl rfl (yD K (pv 2)) (λC s H fp=>yM (i:=0) (show(["other","rows","stand"]:List Str).Nodup from by decide +kernel) rfl (Or.inl rfl)) (λC s H fp=>BR (Yg K (zZ Qc (zZ Qc (zZ Ua (zY (aL K) (pv 1) (pv 2) (λ_ _=>rfl)) (pv 0)) (zZ Ua (zY (aL K) (pv 1) (pv 0) (λ_ _=>rfl)) (pv 2))) zI))) (λC s H fp=>(pv 0))) (zA (yY (sE K PySem.F.plainAttrs_list PySem.F.slot_list_append PySem.F.type_list_append xM (pv 4) (zB (pv 7) zH))) (zA (yN PassesOwn.never rfl (yD K (pv 7)) (bw 8 nd) (zA (Ql hu (pv 5) (pv 8) wS rfl) zF)) zF))) zF) zF)) (zA (zS (pv 4)) zF)))))),?_⟩
 rintro Fa ⟨q0,q1,⟨⟩⟩
 exact SB.of (zM (yB true 2 rfl rfl (zNm (zE 1 rfl)).ex) (λcP=>(zM (yB true 3 rfl rfl (zN (zG (zE 0 rfl) (zG (zE 2 rfl) zO)))) (λdG=>(zM (uM true 4 rfl rfl (v8 (α:=LI))) (λBb=>(zM (Uu (α:=Bool) 5 rfl rfl) (λSv=>(zM (xI (n:=true) (L:=(λs5:(List LI)×(List (Key×Bool))=>([.z q0,.z q1,.y cP,.y dG,.ow true s5.1,.od (s5.2:List (Key×Bool)),.un,.un,.un]:SL K))) ((Bb,([]:List (Key×Bool)))) aG (yE (yO 2 rfl)) (λs5=>(zR 6 rfl rfl)) (λs5 x7=>(zL (uQ (Np (bK (md:=.hp) (zJn (zD 6 rfl) (Ny 5 rfl))) (Yh (Rx (Vj (esc (yS (zE 3 rfl) (zD 6 rfl))) (zD 6 rfl)) (zJ 1)))) (zL (yB true 7 rfl rfl (xB (n:=true) (jQ:=[.un,.y dG,.y x7]) (no:=1) (ix:=[3,6]) rfl rfl (yE (yO 2 rfl)) (zR 0 rfl rfl) (λLQ=>(Yh (Rx (Rx (Vj (esc (yS (zE 1 rfl) (zD 2 rfl))) (zD 0 rfl)) (Vj (esc (yS (zE 1 rfl) (zD 0 rfl))) (zD 2 rfl))) (zJ 1)))) (λLQ=>(esc (zD 0 rfl))) (λLQ=>dW)).ex) (λmG=>(zL (vC 4 rfl rfl (yO 7 rfl)) (λfU=>(zL (xI (n:=true) (L:=(λqW:List (Key×Bool)=>([.z q0,.z q1,.y cP,.y dG,.ow true fU,.od (qW:List (Key×Bool)),.y x7,.y mG,.un]:SL K))) s5.2 aG (yE (yO 7 rfl)) (λqW=>(zR 8 rfl rfl)) (λqW x24=>(zL (U4 5 rfl rfl (esc (vA true)) (zD 8 rfl)) (λqX=>(zQ (λqW:List (Key×Bool)=>([.z q0,.z q1,.y cP,.y dG,.ow true fU,.od (qW:List (Key×Bool)),.y x7,.y mG,.un]:SL K)) qX aG))))) (λLK=>(zQ (λs12:(List LI)×(List (Key×Bool))=>([.z q0,.z q1,.y cP,.y dG,.ow true s12.1,.od (s12.2:List (Key×Bool)),.y x7,.un,.un]:SL K)) (fU,LK) aG))))))) (zQ (λs12:(List LI)×(List (Key×Bool))=>([.z q0,.z q1,.y cP,.y dG,.ow true s12.1,.od (s12.2:List (Key×Bool)),.y x7,.un,.un]:SL K)) (s5.1,s5.2) aG)) (λbI=>(zQ (λs5:(List LI)×(List (Key×Bool))=>([.z q0,.z q1,.y cP,.y dG,.ow true s5.1,.od (s5.2:List (Key×Bool)),.un,.un,.un]:SL K)) (bI.1,bI.2) aG))))) (λs6=>(BZ 4 rfl rfl))))))))))) (by unfold Oo;simp only[bnd])
def yQ(q0:aD C)(q1:LI):Option (Option Int):=((wF (q0.fair.length:Int)).bind λxs=>vK (λ(s1:Unit) (x3:Int)=>((((((yX q0 x3).bind λa5=>some ((a5,()))).bind λb6=>some (q1,b6)).bind λz4=>vE z4.1 z4.2.1).bind λa7=>some (a7.length:Int)).bind λa8=>some (decide (a8=(0:Int)))).bind λb=>if b=true then(some (some x3)).bind λb=>some (.rt b) else some (.nx ())) xs ()).bind λo=>o.els λs2=>some (none:Option Int)
theorem jD:ao ["machine","ring","number"] ["machine","ring"] (zK gG):=fsc
abbrev Zb(K:PySem.W.Frag)(C:Addr):Sp:=bV K false (λa:(aD C)×LI×Unit=>([.z a.1,.z a.2.1]:SL K)) (λa=>yQ a.1 a.2.1)
theorem zI3(F:bH K "missed_by" "missed_by" gG f fd)(B:Bl K mg)(T:Cl K mg C)(aM:dM P w K mg base k C "fair_at" ["self","number"] (vY K C))(dH:bC P w K mg base k "shared" ["one","other"] (Y6 K)):aB P w K mg base aZ (k+1) f fd ["machine","ring"] (Zb K C):=by
 refine yP F jD (λ_=>rfl) (λ_=>rfl) λcdv A outer s H E hr=>?_
 have nd:=jD.nd
 refine⟨_,(zA (yN PassesOwn.never rfl (yL rfl B.range (zB (zT (xT K) rfl B.len PySem.boot_len (zB (Nv K (pv 0)) zH)) zH)) (bw 2 nd) (zA (yT (zX (uZ K Int hr) (zT (xT K) rfl B.len PySem.boot_len (zB (yC dH hr (zB (pv 1) (zB (Kq aM hr (pv 0) (zB (pv 2) zH)) zH))) zH)) zI (yJ _)) (zA (zS (pv 2)) zF) zF) zF)) (zA (zS Ph) zF)),?_⟩
 rintro Fa ⟨q0,q1,⟨⟩⟩
 exact SB.of (Hx (HB (n:=true) (L:=(λs1:Unit=>([.z q0,.z q1,.un]:SL K))) () aG (yW (wQ (Xl T.cl T.nF (zE 0 rfl)))) (λs1=>(zR 2 rfl rfl)) (λs1 x3=>(zx (zU (md:=.hp) (qM (wQ (zN (zG (zE 1 rfl) (zG (uK (by decide +kernel) (zE 0 rfl) (zG (esc (zD 2 rfl)) zO)) zO)))) (zJ 0))) (yA (esc (Nm (zD 2 rfl)))) (v9 (λs1:Unit=>([.z q0,.z q1,.un]:SL K)) () aG)))) (λs2=>(yA (esc (QH (α:=Int)))))) (by unfold yQ;simp only[bnd])
def xC(q0:aD C)(q1:LI):Option (List LI):=(Oo q0 q1).bind λxs=>yU (λ(x1:LI)=>(yQ q0 x1).bind λa2=>some a2.isNone) (λ(x1:LI)=>some x1) xs
theorem iR:ao ["machine","within"] ["machine","within"] (zK fH):=fsc
abbrev Zc(K:PySem.W.Frag)(C:Addr):Sp:=bV K false (λa:(aD C)×LI×Unit=>([.z a.1,.z a.2.1]:SL K)) (λa=>xC a.1 a.2.1)
theorem zHn(F:bH K "fair_rings" "fair_rings" fH f fd)(B:Bl K mg)(bZ:bC P w K mg base k "missed_by" ["machine","ring"] (Zb K C))(iy:bC P w K mg base k "rings" ["machine","within"] (Za K C)):aB P w K mg base aZ (k+1) f fd ["machine","within"] (Zc K C):=by
 refine yP F iR (λ_=>rfl) (λ_=>rfl) λcdv A outer s H E hr=>?_
 have nd:=iR.nd
 refine⟨_,(zA (zS (vP (own:=["ring"]) (ix:=[0]) rfl rfl rfl (yD K (yC iy hr (zB (pv 0) (zB (pv 1) zH)))) (λC s H fp=>yM (i:=0) (show(["ring","machine"]:List Str).Nodup from by decide +kernel) rfl (Or.inl rfl)) (λC s H fp=>BR (rR (Cy (yC bZ hr (zB (pv 1) (zB (pv 0) zH)))))) (λC s H fp=>(pv 0)))) zF),?_⟩
 rintro Fa ⟨q0,q1,⟨⟩⟩
 exact SB.of (yA (xB (n:=true) (jQ:=[.un,.z q0]) (no:=1) (ix:=[0]) rfl rfl (yE (zN (zG (zE 0 rfl) (zG (zE 1 rfl) zO)))) (zR 0 rfl rfl) (λx1=>(bK (md:=.hp) (DQ (zN (zG (zE 1 rfl) (zG (zE 0 rfl) zO)))))) (λx1=>(yO 0 rfl)) (λx1=>dW)).ex) (by unfold xC;simp only[bnd])
def uA(q0:List LI):Option LI:=(some ([]:LI)).bind λdF=>((some q0).bind λxs=>xA (λ(s2:LI) (x4:LI)=>(qO s2 x4).bind λmD=>some mD) xs dF).bind λs3=>some s3
theorem nZ:ao ["lists","told","things"] ["lists"] (zK lV):=fsc
abbrev Zd(K:PySem.W.Frag):Sp:=bV K false (λa:((List LI))×Unit=>([.z a.1]:SL K)) (λa=>uA a.1)
theorem zPo(F:bH K "joined" "joined" lV f fd)(B:Bl K mg):aB P w K mg base aZ (k+1) f fd ["lists"] (Zd K):=by
 refine yP F nZ (λ_=>rfl) (λ_=>rfl) λcdv A outer s H E hr=>?_
 have nd:=nZ.nd
 refine⟨_,(zA (yF 1 nd (wO zH)) (zA (yN PassesOwn.never rfl (yD K (pv 0)) (bw 2 nd) (zA (yY (sE K PySem.F.plainAttrs_list PySem.F.slot_list_extend PySem.F.type_list_extend zJb (pv 1) (zB (pv 2) zH))) zF)) (zA (zS (pv 1)) zF))),?_⟩
 rintro Fa ⟨q0,⟨⟩⟩
 exact SB.of (zM (uM true 1 rfl rfl (v8 (α:=Int))) (λdF=>(zM (xI (n:=false) (L:=(λs2:LI=>([.z q0,.ow true s2,.un]:SL K))) dF aG (yE (yO 0 rfl)) (λs2=>(zR 2 rfl rfl)) (λs2 x4=>(zL (zIm 1 rfl rfl (zE 2 rfl)) (λmD=>(zQ (λs2:LI=>([.z q0,.ow true s2,.un]:SL K)) mD aG))))) (λs3=>(BZ 1 rfl rfl))))) (by unfold uA;simp only[bnd])
def FZ(q0:aD C)(q1:LI):Option LI:=((((((xC q0 q1).bind λa2=>some ((a2,()))).bind λz1=>uA z1.1).bind λa4=>some ((a4,()))).bind λb5=>some (q1,b5)).bind λb6=>some (q0,b6)).bind λz3=>wC z3.1 z3.2.1 z3.2.2.1
theorem sO:ao ["machine","within"] ["machine","within"] (zK qP):=fsc
abbrev zU8(K:PySem.W.Frag)(C:Addr):Sp:=bV K false (λa:(aD C)×LI×Unit=>([.z a.1,.z a.2.1]:SL K)) (λa=>FZ a.1 a.2.1)
theorem Gb(F:bH K "core" "core" qP f fd)(B:Bl K mg)(ji:bC P w K mg base k "comes_to" ["machine","through","goal"] (zGw K C))(bO:bC P w K mg base k "fair_rings" ["machine","within"] (Zc K C))(eZ:bC P w K mg base k "joined" ["lists"] (Zd K)):aB P w K mg base aZ (k+1) f fd ["machine","within"] (zU8 K C):=by
 refine yP F sO (λ_=>rfl) (λ_=>rfl) λcdv A outer s H E hr=>?_
 have nd:=sO.nd
 refine⟨_,(zA (zS (yC ji hr (zB (pv 0) (zB (pv 1) (zB (yC eZ hr (zB (yC bO hr (zB (pv 0) (zB (pv 1) zH))) zH)) zH))))) zF),?_⟩
 rintro Fa ⟨q0,q1,⟨⟩⟩
 exact SB.of (yA (zN (zG (zE 0 rfl) (zG (zE 1 rfl) (zG (zN (zG (zN (zG (zE 0 rfl) (zG (zE 1 rfl) zO))) zO)) zO))))) (by unfold FZ;simp only[bnd])
def uV(q0:aD C)(q1:LI)(q2:Int)(q3:Int):Option LI:=(xV q0 q1 ([q3])).bind λj9=>(((yK q0 q2).bind λxs=>yU (λ(x3:Int)=>(aH j9 x3).bind λa4=>some a4.isSome) (λ(x3:Int)=>some x3) xs).bind λa5=>N_ j9 a5).bind λql=>((vQ q0 j9 ql).bind λa6=>a6).bind λa7=>some (ni a7 none (some (-(1:Int))))
theorem kh:ao ["machine","ring","stand","start","away","nearest"] ["machine","ring","stand","start"] (zK jc):=fsc
abbrev Ze(K:PySem.W.Frag)(C:Addr):Sp:=bV K false (λa:(aD C)×LI×Int×Int×Unit=>([.z a.1,.z a.2.1,.z a.2.2.1,.z a.2.2.2.1]:SL K)) (λa=>uV a.1 a.2.1 a.2.2.1 a.2.2.2.1)
theorem zKn(F:bH K "way_back" "way_back" jc f fd)(B:Bl K mg)(A_:mg "min" = none)(LA:∃c,fd.code=.ref c/\CodeHd base c tA)(BM:Im mg base)(aq:dM P w K mg base k C "next_of" ["self","stand"] (xP K C))(aQ:bC P w K mg base k "distances" ["machine","through","goal"] (Vs K C))(bY:bC P w K mg base k "walk_down" ["machine","away","stand"] (Y8 K C)):aB P w K mg base aZ (k+1) f fd ["machine","ring","stand","start"] (spT tA jU (Ze K C)):=by
 refine Oa F kh (λ_=>rfl) (λ_=>rfl) λcdv A outer s H E hr hcd=>?_
 have nd:=kh.nd
 refine⟨_,(zA (yF 4 nd (yC aQ hr (zB (pv 0) (zB (pv 1) (zB (wO (zB (pv 3) zH)) zH))))) (zA (yF 5 nd (Fv K (j:=4) rfl hr A_ (zTb hcd LA BM) (vP (own:=["after"]) (ix:=[4]) rfl rfl rfl (yD K (Kq aq hr (pv 0) (zB (pv 2) zH))) (λC s H fp=>yM (i:=0) (show(["after","away"]:List Str).Nodup from by decide +kernel) rfl (Or.inl rfl)) (λC s H fp=>BR (rR (zPd (zY (aL K) (pv 1) (pv 0) (λ_ _=>rfl))))) (λC s H fp=>(pv 0))) rfl rfl)) (zA (zS (Wy (RK K) (yC bY hr (zB (pv 0) (zB (pv 4) (zB (pv 5) zH)))) Ww (Wx (CJ CQ zI)))) zF))),?_⟩
 rintro Fa tb ⟨q0,q1,q2,q3,⟨⟩⟩
 exact SB.of (zM (yB true 4 rfl rfl (zN (zG (zE 0 rfl) (zG (zE 1 rfl) (zG (J5 (wM (esc (zD 3 rfl)) J4) (λa h=>Nat.le_trans ((uN Ko) a h) (by decide))).ex zO))))) (λj9=>(zM (yB true 5 rfl rfl (esc (esc (Fw tb 4 rfl (xB (n:=true) (jQ:=[.un,.y j9]) (no:=1) (ix:=[4]) rfl rfl (yE (uK (by decide +kernel) (zE 0 rfl) (zG (esc (zD 2 rfl)) zO))) (zR 0 rfl rfl) (λx3=>(bK (md:=.hp) (zQr (esc (yS (zE 1 rfl) (zD 0 rfl)))))) (λx3=>(esc (zD 0 rfl))) (λx3=>dW)).ex)))) (λql=>(yA (zTr (tW (zN (zG (zE 0 rfl) (zG (zE 4 rfl) (zG (esc (zD 5 rfl)) zO))))) (Es (zJ 1))).ex))))) (by unfold uV;simp only[bnd])
def vV(q0:aD C)(q1:LI)(q2:Int):Option LI:=(some ([q2])).bind λdF=>((wF (q0.fair.length:Int)).bind λxs=>xA (λ(s2:LI) (x4:Int)=>((((yX q0 x4).bind λa7=>some ((a7,()))).bind λb8=>some (q1,b8)).bind λz6=>vE z6.1 z6.2.1).bind λjE=>((((vE s2 jE).bind λa9=>some (a9.length:Int)).bind λa10=>some (decide (a10=(0:Int)))).bind λb=>if b=true then(((((((((aH s2 (-(1:Int))).bind λa15=>some ((a15,()))).bind λb16=>some (jE,b16)).bind λGd=>some (q1,Gd)).bind λBc=>some (q0,Bc)).bind λVt=>xQ Vt.1 Vt.2.1 Vt.2.2.1 Vt.2.2.2.1).bind λa19=>a19).bind λa20=>some (ni a20 (some (1:Int)) none)).bind λa21=>qO s2 a21).bind λqY=>some qY else some s2).bind λbI=>some bI) xs dF).bind λs3=>(((((aH s3 (-(1:Int))).bind λa23=>some ((a23,(q2,())))).bind λb24=>some (q1,b24)).bind λY_=>some (q0,Y_)).bind λVu=>uV Vu.1 Vu.2.1 Vu.2.2.1 Vu.2.2.2.1).bind λb26=>t_ s3 b26
theorem jF:ao ["machine","ring","start","told","number","wanted"] ["machine","ring","start"] (zK gH):=fsc
abbrev zFu(K:PySem.W.Frag)(C:Addr):Sp:=bV K false (λa:(aD C)×LI×Int×Unit=>([.z a.1,.z a.2.1,.z a.2.2.1]:SL K)) (λa=>vV a.1 a.2.1 a.2.2.1)
theorem zI8(F:bH K "fair_loop" "fair_loop" gH f fd)(B:Bl K mg)(T:Cl K mg C)(aM:dM P w K mg base k C "fair_at" ["self","number"] (vY K C))(dH:bC P w K mg base k "shared" ["one","other"] (Y6 K))(bQ:bC P w K mg base k "short_walk" ["machine","through","goal","stand"] (Y9 K C))(jk:bC P w K mg base k "way_back" ["machine","ring","stand","start"] (spT tA jU (Ze K C))):aB P w K mg base aZ (k+1) f fd ["machine","ring","start"] (spT tA jU (zFu K C)):=by
 refine Oa F jF (λ_=>rfl) (λ_=>rfl) λcdv A outer s H E hr hcd=>?_
 have nd:=jF.nd
 refine⟨_,(zA (yF 3 nd (wO (zB (pv 2) zH))) (zA (yN PassesOwn.never rfl (yL rfl B.range (zB (zT (xT K) rfl B.len PySem.boot_len (zB (Nv K (pv 0)) zH)) zH)) (bw 4 nd) (zA (yF 5 nd (yC dH hr (zB (pv 1) (zB (Kq aM hr (pv 0) (zB (pv 4) zH)) zH)))) (zA (yT (zX (uZ K Int hr) (zT (xT K) rfl B.len PySem.boot_len (zB (yC dH hr (zB (pv 3) (zB (pv 5) zH))) zH)) zI (yJ _)) (zA (yY (sE K PySem.F.plainAttrs_list PySem.F.slot_list_extend PySem.F.type_list_extend zJb (pv 3) (zB (Wy (RK K) (yC bQ hr (zB (pv 0) (zB (pv 1) (zB (pv 5) (zB (zY (aL K) (pv 3) (CJ CQ zI) (λ_ _=>rfl)) zH))))) (Wx zI) Ww) zH))) zF) zF) zF))) (zA (zS (zZ zUk (pv 3) (yC jk hr (zB (pv 0) (zB (pv 1) (zB (zY (aL K) (pv 3) (CJ CQ zI) (λ_ _=>rfl)) (zB (pv 2) zH))))))) zF))),?_⟩
 rintro Fa tb ⟨q0,q1,q2,⟨⟩⟩
 exact SB.of (zM (uM true 3 rfl rfl (J5 (wM (esc (zD 2 rfl)) J4) (λa h=>Nat.le_trans ((uN Ko) a h) (by decide)))) (λdF=>(zM (xI (n:=true) (L:=(λs2:LI=>([.z q0,.z q1,.z q2,.ow true s2,.un,.un]:SL K))) dF aG (yW (wQ (Xl T.cl T.nF (zE 0 rfl)))) (λs2=>(zR 4 rfl rfl)) (λs2 x4=>(zL (yB true 5 rfl rfl (zN (zG (zE 1 rfl) (zG (uK (by decide +kernel) (zE 0 rfl) (zG (esc (zD 4 rfl)) zO)) zO)))) (λjE=>(zL (uQ (zU (md:=.hp) (qM (wQ (zN (zG (wV 3 rfl) (zG (zE 5 rfl) zO)))) (zJ 0))) (zL (zIm 3 rfl rfl (zTq (tW (zN (zG (zE 0 rfl) (zG (zE 1 rfl) (zG (zE 5 rfl) (zG (esc (esc (yS (wV 3 rfl) (Es (zJ 1))))) zO)))))) (zJ 1)).ex) (λqY=>(zQ (λs12:LI=>([.z q0,.z q1,.z q2,.ow true s12,.y x4,.y jE]:SL K)) qY aG))) (zQ (λs12:LI=>([.z q0,.z q1,.z q2,.ow true s12,.y x4,.y jE]:SL K)) s2 aG)) (λbI=>(zQ (λs2:LI=>([.z q0,.z q1,.z q2,.ow true s2,.un,.un]:SL K)) bI aG))))))) (λs3=>(yA (zUt (wV 3 rfl) (zL6 tb (zG (zE 0 rfl) (zG (zE 1 rfl) (zG (esc (esc (yS (wV 3 rfl) (Es (zJ 1))))) (zG (esc (zD 2 rfl)) zO)))))).ex))))) (by unfold vV;simp only[bnd])
def Sw(q0:aD C)(q1:LI)(q2:Int):Option (Option w6):=(xC q0 q1).bind λmH=>(((((uA mH).bind λa4=>some ((a4,(q2,())))).bind λb5=>some (q1,b5)).bind λb6=>some (q0,b6)).bind λz3=>xQ z3.1 z3.2.1 z3.2.2.1 z3.2.2.2.1).bind λwalk2=>if walk2.isNone=true then some (none:Option w6) else(walk2.bind λa8=>aH a8 (-(1:Int))).bind λsS=>((some mH).bind λxs=>yU (λ(x10:LI)=>some (decide (sS∈x10))) (λ(x10:LI)=>some x10) xs).bind λsV=>walk2.bind λa14=>((((aH sV (0:Int)).bind λa12=>some ((a12,(sS,())))).bind λOj=>some (q0,Oj)).bind λLy=>vV Ly.1 Ly.2.1 Ly.2.2.1).bind λLR=>some (some (w6.mk a14 LR))
theorem mJ:ao ["machine","within","stand","fair","walk","last","around"] ["machine","within","stand"] (zK jW):=fsc
abbrev zJ4(K:PySem.W.Frag)(C:Addr):Sp:=bV K false (λa:(aD C)×LI×Int×Unit=>([.z a.1,.z a.2.1,.z a.2.2.1]:SL K)) (λa=>Sw a.1 a.2.1 a.2.2.1)
theorem zM1(F:bH K "loop_of" "loop_of" jW f fd)(B:Bl K mg)(gY:bC P w K mg base k "fair_loop" ["machine","ring","start"] (spT tA jU (zFu K C)))(bO:bC P w K mg base k "fair_rings" ["machine","within"] (Zc K C))(eZ:bC P w K mg base k "joined" ["lists"] (Zd K))(bQ:bC P w K mg base k "short_walk" ["machine","through","goal","stand"] (Y9 K C)):aB P w K mg base aZ (k+1) f fd ["machine","within","stand"] (spT tA jU (zJ4 K C)):=by
 refine Oa F mJ (λ_=>rfl) (λ_=>rfl) λcdv A outer s H E hr hcd=>?_
 have nd:=mJ.nd
 refine⟨_,(zA (yF 3 nd (yC bO hr (zB (pv 0) (zB (pv 1) zH)))) (zA (yF 4 nd (yC bQ hr (zB (pv 0) (zB (pv 1) (zB (yC eZ hr (zB (pv 3) zH)) (zB (pv 2) zH)))))) (zA (yT (rR (Cy (pv 4))) (zA (zS Ph) zF) zF) (zA (yF 5 nd (zY (aL K) (pv 4) (CJ CQ zI) (λ_ _=>rfl))) (zA (BW (i:=6) (own:=["ring"]) (ix:=[5]) nd rfl rfl rfl rfl rfl (yD K (pv 3)) (λC s H fp=>yM (i:=0) (show(["ring","last"]:List Str).Nodup from by decide +kernel) rfl (Or.inl rfl)) (λC s H fp=>BR (zX (UL K) (pv 1) (pv 0) (by with_unfolding_all rfl))) (λC s H fp=>(pv 0))) (zA (zS (Dd (zB (pv 4) (zB (yC gY hr (zB (pv 0) (zB (zY (aL K) (pv 6) zI (λ_ _=>rfl)) (zB (pv 5) zH)))) zH)))) zF)))))),?_⟩
 rintro Fa tb ⟨q0,q1,q2,⟨⟩⟩
 exact SB.of (zM (yB true 3 rfl rfl (zN (zG (zE 0 rfl) (zG (zE 1 rfl) zO)))) (λmH=>(zM (yB true 4 rfl rfl (zN (zG (zE 0 rfl) (zG (zE 1 rfl) (zG (zN (zG (zE 3 rfl) zO)) (zG (esc (zD 2 rfl)) zO)))))) (λwalk2=>(su (bK (md:=.hp) (DQ (zE 4 rfl))) (yA (QH (α:=w6))) (zM (yB true 5 rfl rfl (esc (esc (yS (tW (zE 4 rfl)) (Es (zJ 1)))))) (λsS=>(zM (yB true 6 rfl rfl (xB (n:=true) (jQ:=[.un,.y sS]) (no:=1) (ix:=[5]) rfl rfl (yE (yO 3 rfl)) (zR 0 rfl rfl) (λx10=>(zU (md:=.hp) (HJ (zD 1 rfl) (zE 0 rfl)))) (λx10=>(yO 0 rfl)) (λx10=>dW)).ex) (λsV=>(yA (FT (tW (yO (n:=true) 4 rfl)) (YQ tb (zG (zE 0 rfl) (zG (yS (zE 6 rfl) (zJ 0)) (zG (esc (zD 5 rfl)) zO))))))))))))))) (by unfold Sw;simp only[bnd])
def SJ(q0:aD C)(q1:LI)(q2:Int):Option LI:=(IV q0 q1).bind λaN=>(some [((Sum.inl q2:Key),true)]).bind λqZ=>(some ([q2])).bind λL_=>(some (0:Int)).bind λq8=>(Du (λs5:(List (Key×Bool))×LI×Int=>some (decide (s5.2.2<(s5.2.1.length:Int)))) (λs5:(List (Key×Bool))×LI×Int=>((((aH s5.2.1 s5.2.2).bind λa11=>some ((a11,()))).bind λSs=>yK q0 Ss.1).bind λxs=>xA (λ(s7:(List (Key×Bool))×LI) (x9:Int)=>(((aH aN x9).bind λc12=>if c12=true then some (!(bU (Dc.mk s7.1).kv x9).isSome) else some false).bind λb=>if b=true then(dput s7.1 x9 true).bind λo8=>(push s7.2 x9).bind λBd=>some (o8,Bd) else some (s7.1,s7.2)).bind λpN=>some (pN.1,pN.2)) xs (s5.1,s5.2.1)).bind λs8=>(some (s5.2.2+(1:Int))).bind λo9=>some (s8.1,s8.2,o9)) fuel (qZ,L_,q8)).bind λs6=>(Ad (Dc.mk s6.1).kv).bind qN
theorem qm:ao ["machine","within","stand","inside","found","row","place","after"] ["machine","within","stand"] (zK oM):=fsc
abbrev zRp(K:PySem.W.Frag)(C:Addr):Sp:=bV K false (λa:(aD C)×LI×Int×Unit=>([.z a.1,.z a.2.1,.z a.2.2.1]:SL K)) (λa=>SJ a.1 a.2.1 a.2.2.1)
theorem zSz(F:bH K "reach" "reach" oM f fd)(B:Bl K mg)(cA:mg "sorted" = none)(aq:dM P w K mg base k C "next_of" ["self","stand"] (xP K C))(cY:bC P w K mg base k "flags" ["machine","stands"] (Vr K C)):aB P w K mg base aZ (k+1) f fd ["machine","within","stand"] (zRp K C):=by
 refine yP F qm (λ_=>rfl) (λ_=>rfl) λcdv A outer s H E hr=>?_
 have nd:=qm.nd
 have hu:=Qu hr
 refine⟨_,(zA (yF 3 nd (yC cY hr (zB (pv 0) (zB (pv 1) zH)))) (zA (yF 4 nd (zSs (pv 2) wS)) (zA (yF 5 nd (wO (zB (pv 2) zH))) (zA (yF 6 nd zI) (zA (zLn PassesOwn.never (zX v7 (pv 6) (zT (xT K) rfl B.len PySem.boot_len (zB (pv 5) zH)) (yJ _)) (zA (yN PassesOwn.never rfl (yD K (Kq aq hr (pv 0) (zB (zY (aL K) (pv 5) (pv 6) (λ_ _=>rfl)) zH))) (bw 7 nd) (zA (yT (PW.pt (pw_and (wN (zY (aL K) (pv 3) (pv 7) (λ_ _=>rfl))) (pw_and1 (rR (zIz hu (pv 7) (pv 4)))))) (zA (Ql hu (pv 4) (pv 7) wS rfl) (zA (yY (sE K PySem.F.plainAttrs_list PySem.F.slot_list_append PySem.F.type_list_append xM (pv 5) (zB (pv 7) zH))) zF)) zF) zF)) (zA (V7 (i:=6) nd rfl (by first|exact .inl rfl|exact .inr rfl) zI zUo) zF))) (zA (zS (zT (zNq rfl) rfl cA Xo (zB (pv 4) zH))) zF)))))),?_⟩
 rintro Fa ⟨q0,q1,q2,⟨⟩⟩
 exact SB.of (zM (yB true 3 rfl rfl (zN (zG (zE 0 rfl) (zG (zE 1 rfl) zO)))) (λaN=>(zM (zSc 4 2 rfl rfl rfl) (λqZ=>(zM (uM true 5 rfl rfl (J5 (wM (esc (zD 2 rfl)) J4) (λa h=>Nat.le_trans ((uN Ko) a h) (by decide)))) (λL_=>(zM (yB true 6 rfl rfl (esc (zJ 0))) (λq8=>(zM (zLh (L:=(λs5:(List (Key×Bool))×LI×Int=>([.z q0,.z q1,.z q2,.y aN,.od (s5.1:List (Key×Bool)),.ow true s5.2.1,.y s5.2.2,.un]:SL K))) fuel (qZ,L_,q8) aG (λs5=>(zU (md:=.hp) (DN (zD 6 rfl) (wQ (wV 5 rfl))))) (λs5=>(zL (xI (n:=true) (L:=(λs7:(List (Key×Bool))×LI=>([.z q0,.z q1,.z q2,.y aN,.od (s7.1:List (Key×Bool)),.ow true s7.2,.y s5.2.2,.un]:SL K))) (s5.1,s5.2.1) aG (yE (uK (by decide +kernel) (zE 0 rfl) (zG (esc (esc (yS (wV 5 rfl) (zD 6 rfl)))) zO))) (λs7=>(zR 7 rfl rfl)) (λs7 x9=>(zL (uQ (Np (bK (md:=.hp) (esc (yS (zE 3 rfl) (zD 7 rfl)))) (bK (md:=.hp) (zJn (zD 7 rfl) (Ny 4 rfl)))) (zL (U4 4 rfl rfl (esc (vA true)) (zD 7 rfl)) (λo8=>(zL (vC 5 rfl rfl (esc (zD 7 rfl))) (λBd=>(zQ (λjA:(List (Key×Bool))×LI=>([.z q0,.z q1,.z q2,.y aN,.od (jA.1:List (Key×Bool)),.ow true jA.2,.y s5.2.2,.y x9]:SL K)) (o8,Bd) aG))))) (zQ (λjA:(List (Key×Bool))×LI=>([.z q0,.z q1,.z q2,.y aN,.od (jA.1:List (Key×Bool)),.ow true jA.2,.y s5.2.2,.y x9]:SL K)) (s7.1,s7.2) aG)) (λpN=>(zQ (λs7:(List (Key×Bool))×LI=>([.z q0,.z q1,.z q2,.y aN,.od (s7.1:List (Key×Bool)),.ow true s7.2,.y s5.2.2,.un]:SL K)) (pN.1,pN.2) aG))))) (λs8=>(zL (Xm (s:=.un) 6 rfl (zJ 1)) (λo9=>(zQ (λs5:(List (Key×Bool))×LI×Int=>([.z q0,.z q1,.z q2,.y aN,.od (s5.1:List (Key×Bool)),.ow true s5.2.1,.y s5.2.2,.un]:SL K)) (s8.1,s8.2,o9) aG))))))) (λs6=>(yA (zTp (Ny 4 rfl)).ex))))))))))) (by unfold SJ;simp only[bnd])
def SM(q0:aD C)(q1:LI):Option (List (Option (Int×(Option Int)))):=((((FZ q0 q1).bind λa3=>some ((a3,()))).bind λb4=>some (q0,b4)).bind λz2=>IV z2.1 z2.2.1).bind λcQ=>(some ()).bind λGe=>((Oo q0 q1).bind λxs=>xA (λ(s6:List (Key×(Option Int))) (x8:LI)=>((some x8).bind λxs=>xA (λ(s9:List (Key×(Option Int))) (x11:Int)=>((yQ q0 x8).bind λa13=>dput s9 x11 a13).bind λgZ=>some gZ) xs s6).bind λjG=>some jG) xs (([]:List (Key×(Option Int))))).bind λs7=>(((yR q0).bind λa15=>wF a15).bind λxs=>yU (λ(oY:Int)=>some true) (λ(oY:Int)=>some ((none:Option (Int×(Option Int))))) xs).bind λjm=>((some q1).bind λxs=>xA (λ(uo:List (Option (Int×(Option Int)))) (Ma:Int)=>(((aH cQ Ma).bind λa20=>some (!a20)).bind λb=>if b=true then((((((SJ q0 q1 Ma).bind λa24=>some (a24.length:Int)).bind λa25=>some (a25-(1:Int))).bind λa26=>some ((a26,(bU (Dc.mk s7).kv Ma).getD none))).bind λa27=>some (some a27)).bind λa28=>rY uo Ma a28).bind λq9=>some q9 else some uo).bind λZf=>some Zf) xs jm).bind λs18=>some s18
theorem qp:ao ["machine","within","begins","missed","ring","stand","told"] ["machine","within"] (zK oR):=fsc
abbrev zRq(K:PySem.W.Frag)(C:Addr):Sp:=bV K false (λa:(aD C)×LI×Unit=>([.z a.1,.z a.2.1]:SL K)) (λa=>SM a.1 a.2.1)
theorem zS0(F:bH K "ranks" "ranks" oR f fd)(B:Bl K mg)(au:dM P w K mg base k C "many" ["self"] (wD K C))(q_:bC P w K mg base k "core" ["machine","within"] (zU8 K C))(cY:bC P w K mg base k "flags" ["machine","stands"] (Vr K C))(bZ:bC P w K mg base k "missed_by" ["machine","ring"] (Zb K C))(o_:bC P w K mg base k "reach" ["machine","within","stand"] (zRp K C))(iy:bC P w K mg base k "rings" ["machine","within"] (Za K C)):aB P w K mg base aZ (k+1) f fd ["machine","within"] (zRq K C):=by
 refine yP F qp (λ_=>rfl) (λ_=>rfl) λcdv A outer s H E hr=>?_
 have nd:=qp.nd
 have hu:=Qu hr
 refine⟨_,(zA (yF 2 nd (yC cY hr (zB (pv 0) (zB (yC q_ hr (zB (pv 0) (zB (pv 1) zH))) zH)))) (zA (yF 3 nd Ue) (zA (yN PassesOwn.never rfl (yD K (yC iy hr (zB (pv 0) (zB (pv 1) zH)))) (bw 4 nd) (zA (yN PassesOwn.never rfl (yD K (pv 4)) (bw 5 nd) (zA (Ql hu (pv 3) (pv 5) (yC bZ hr (zB (pv 0) (zB (pv 4) zH))) rfl) zF)) zF)) (zA (BW (i:=6) (own:=["stand"]) (ix:=[]) nd rfl rfl rfl rfl rfl (yL rfl B.range (zB (Q8 au hr (pv 0)) zH)) (λC s H fp=>yM (i:=0) (show(["stand"]:List Str).Nodup from by decide +kernel) rfl (Or.inl rfl)) (λC s H fp=>vO) (λC s H fp=>Ph)) (zA (yN PassesOwn.never rfl (yD K (pv 1)) (bw 5 nd) (zA (yT (wW (wN (zY (aL K) (pv 2) (pv 5) (λ_ _=>rfl)))) (zA (PL (Dd (zB (zZ T_ (zT (xT K) rfl B.len PySem.boot_len (zB (yC o_ hr (zB (pv 0) (zB (pv 1) (zB (pv 5) zH)))) zH)) zI) (zB (zSt hu (pv 3) (pv 5) ⟨rfl,rfl,rfl,rfl⟩) zH))) (PK (pv 6) (pv 5) Nj)) zF) zF) zF)) (zA (zS (pv 6)) zF)))))),?_⟩
 rintro Fa ⟨q0,q1,⟨⟩⟩
 exact SB.of (zM (yB true 2 rfl rfl (zN (zG (zE 0 rfl) (zG (zN (zG (zE 0 rfl) (zG (zE 1 rfl) zO))) zO)))) (λcQ=>(zM (Uu (α:=Option Int) 3 rfl rfl) (λGe=>(zM (xI (n:=true) (L:=(λs6:List (Key×(Option Int))=>([.z q0,.z q1,.y cQ,.od (s6:List (Key×(Option Int))),.un,.un,.un]:SL K))) (([]:List (Key×(Option Int)))) aG (yE (zN (zG (zE 0 rfl) (zG (zE 1 rfl) zO)))) (λs6=>(zR 4 rfl rfl)) (λs6 x8=>(zL (xI (n:=true) (L:=(λs9:List (Key×(Option Int))=>([.z q0,.z q1,.y cQ,.od (s9:List (Key×(Option Int))),.y x8,.un,.un]:SL K))) s6 aG (yE (yO 4 rfl)) (λs9=>(zR 5 rfl rfl)) (λs9 x11=>(zL (U4 3 rfl rfl (esc (zN (zG (zE 0 rfl) (zG (zE 4 rfl) zO)))) (zD 5 rfl)) (λgZ=>(zQ (λs9:List (Key×(Option Int))=>([.z q0,.z q1,.y cQ,.od (s9:List (Key×(Option Int))),.y x8,.un,.un]:SL K)) gZ aG))))) (λjG=>(zQ (λs6:List (Key×(Option Int))=>([.z q0,.z q1,.y cQ,.od (s6:List (Key×(Option Int))),.un,.un,.un]:SL K)) jG aG))))) (λs7=>(zM (uM true 6 rfl rfl (xB (n:=true) (jQ:=[.un]) (no:=1) (ix:=[]) rfl rfl (yW (uK (by decide +kernel) (zE 0 rfl) zO)) (zR 0 rfl rfl) (λoY=>wu) (λoY=>(QH (α:=Int×(Option Int)))) (λoY=>dW))) (λjm=>(zM (xI (n:=false) (L:=(λuo:List (Option (Int×(Option Int)))=>([.z q0,.z q1,.y cQ,.od (s7:List (Key×(Option Int))),.un,.un,.ow true uo]:SL K))) jm aG (yE (yO 1 rfl)) (λuo=>(zR 5 rfl rfl)) (λuo Ma=>(zL (uQ (wY (bK (md:=.hp) (esc (yS (zE 2 rfl) (zD 5 rfl))))) (zL (QT 6 rfl rfl (Nm (QL (Uy (wQ (zN (zG (zE 0 rfl) (zG (zE 1 rfl) (zG (esc (zD 5 rfl)) zO))))) (zJ 1)) (zTn (Ny 3 rfl) (zD 5 rfl)))) (zD 5 rfl)) (λq9=>(zQ (λqW:List (Option (Int×(Option Int)))=>([.z q0,.z q1,.y cQ,.od (s7:List (Key×(Option Int))),.un,.z Ma,.ow true qW]:SL K)) q9 aG))) (zQ (λqW:List (Option (Int×(Option Int)))=>([.z q0,.z q1,.y cQ,.od (s7:List (Key×(Option Int))),.un,.z Ma,.ow true qW]:SL K)) uo aG)) (λZf=>(zQ (λuo:List (Option (Int×(Option Int)))=>([.z q0,.z q1,.y cQ,.od (s7:List (Key×(Option Int))),.un,.un,.ow true uo]:SL K)) Zf aG))))) (λs18=>(BZ 6 rfl rfl))))))))))) (by unfold SM;simp only[bnd])
def vG(q0:Int×(Option Int)):Option Fz:=some (Fz.mk (.rank q0.1 q0.2))
theorem g8:ao ["ranked"] ["ranked"] (zK dZ):=fsc
abbrev zDe(K:PySem.W.Frag):Sp:=bV K false (λa:((Int×(Option Int)))×Unit=>([.z a.1]:SL K)) (λa=>vG a.1)
theorem zFy(F:bH K "rank_reason" "rank_reason" dZ f fd)(B:Bl K mg):aB P w K mg base aZ (k+1) f fd ["ranked"] (zDe K):=by
 refine yP F g8 (λ_=>rfl) (λ_=>rfl) λcdv A outer s H E hr=>?_
 have nd:=g8.nd
 refine⟨_,(zA (zS (Dd (zB vD (zB (zY (bB K) (pv 0) zI (λ_ _=>rfl)) (zB (zY (bB K) (pv 0) zI (λ_ _=>rfl)) zH))))) zF),?_⟩
 rintro Fa ⟨q0,⟨⟩⟩
 exact SB.of (yA (zQs (esc (Ka (zE 0 rfl) (zJ 0))) (esc (Kc (zE 0 rfl) (zJ 1))))) (by unfold vG;simp only[bnd])
def xK(q0:aD C)(q1:LI):Option b_:=(SM q0 q1).bind λcB=>(some (b_.mk [])).bind λgj=>((wX q0).bind λxs=>xA (λ(s3:b_) (x5:Int)=>(if(!decide (x5∈q1))=true then none else(((aH cB x5).bind λa8=>some a8.isNone).bind λb=>if b=true then((((Sw q0 q1 x5).bind λuw=>uw).bind λuw=>some (Fz.mk (.loop uw.w uw.l))).bind λy12=>Lf s3 y12).bind λrm=>some rm else(((((aH cB x5).bind λa16=>a16).bind λa18=>some ((a18,()))).bind λVv=>vG Vv.1).bind λy15=>Lf s3 y15).bind λjm=>some jm).bind λs9=>some s9).bind λs6=>some s6) xs gj).bind λs4=>some s4
theorem dI:ao ["machine","within","ranked","told","stand"] ["machine","within"] (zK cg):=fsc
abbrev zAx(K:PySem.W.Frag)(C:Addr):Sp:=bV K false (λa:(aD C)×LI×Unit=>([.z a.1,.z a.2.1]:SL K)) (λa=>xK a.1 a.2.1)
theorem zCy(F:bH K "staying_reasons" "staying_reasons" cg f fd)(B:Bl K mg)(bR:bC P w K mg base k "everywhere" ["machine"] (Y5 K C))(j5:bC P w K mg base k "loop_of" ["machine","within","stand"] (spT tA jU (zJ4 K C)))(d_:bC P w K mg base k "loop_reason" ["loop"] (Y4 K))(eE:bC P w K mg base k "rank_reason" ["ranked"] (zDe K))(pq:bC P w K mg base k "ranks" ["machine","within"] (zRq K C)):aB P w K mg base aZ (k+1) f fd ["machine","within"] (spT tA jU (zAx K C)):=by
 refine Oa F dI (λ_=>rfl) (λ_=>rfl) λcdv A outer s H E hr hcd=>?_
 have nd:=dI.nd
 refine⟨_,(zA (yF 2 nd (yC pq hr (zB (pv 0) (zB (pv 1) zH)))) (zA (yF 3 nd (wO zH)) (zA (yN PassesOwn.never rfl (yD K (yC bR hr (zB (pv 0) zH))) (bw 4 nd) (zA (yT (zX (Kg K) (pv 4) (pv 1) (by with_unfolding_all rfl)) uW (zA (yT (rR (Cy (zY (aL K) (pv 2) (pv 4) (λ_ _=>rfl)))) (zA (yY (sE K PySem.F.plainAttrs_list PySem.F.slot_list_append PySem.F.type_list_append xM (pv 3) (zB (yC d_ hr (zB (yC j5 hr (zB (pv 0) (zB (pv 1) (zB (pv 4) zH)))) zH)) zH))) zF) (zA (yY (sE K PySem.F.plainAttrs_list PySem.F.slot_list_append PySem.F.type_list_append xM (pv 3) (zB (yC eE hr (zB (zY (aL K) (pv 2) (pv 4) (λ_ _=>rfl)) zH)) zH))) zF)) zF)) zF)) (zA (zS (pv 3)) zF)))),?_⟩
 rintro Fa tb ⟨q0,q1,⟨⟩⟩
 exact SB.of (zM (yB true 2 rfl rfl (zN (zG (zE 0 rfl) (zG (zE 1 rfl) zO)))) (λcB=>(Aj [.z q0,.z q1,.y cB,.un,.un] (zM (zR9 3 rfl rfl) (λgj=>(Aj [.z q0,.z q1,.y cB,.ob true (gj:b_),.un] (zM (xI (n:=true) (L:=(λs3:b_=>([.z q0,.z q1,.y cB,.ob true (s3:b_),.un]:SL K))) gj aG (yE (zN (zG (zE 0 rfl) zO))) (λs3=>(zR 4 rfl rfl)) (λs3 x5=>(zL (uQ (zU (md:=.hp) (Kd (zD 4 rfl) (zE 1 rfl))) KJ (zL (uQ (bK (md:=.hp) (DQ (yS (zE 2 rfl) (zD 4 rfl)))) (zL (zLi 3 rfl rfl (R9 (Lj (YQ tb (zG (zE 0 rfl) (zG (zE 1 rfl) (zG (esc (zD 4 rfl)) zO))))))) (λrm=>(zQ (λjG:b_=>([.z q0,.z q1,.y cB,.ob true (jG:b_),.y x5]:SL K)) rm aG))) (zL (zLi 3 rfl rfl (Eh (zG (tW (yS (zE 2 rfl) (zD 4 rfl))) zO))) (λjm=>(zQ (λjG:b_=>([.z q0,.z q1,.y cB,.ob true (jG:b_),.y x5]:SL K)) jm aG)))) (λs9=>(zQ (λs7:b_=>([.z q0,.z q1,.y cB,.ob true (s7:b_),.y x5]:SL K)) s9 aG)))) (λs6=>(zQ (λs3:b_=>([.z q0,.z q1,.y cB,.ob true (s3:b_),.un]:SL K)) s6 aG))))) (λs4=>(Aj [.z q0,.z q1,.y cB,.ob true (s4:b_),.un] (zSh 3 rfl)))))))))) (by unfold xK;simp only[bnd])
def SN(q0:aD C):Option b_:=(((wX q0).bind λa2=>some ((a2,()))).bind λb3=>some (q0,b3)).bind λz1=>xK z1.1 z1.2.1
theorem qt:ao ["machine"] ["machine"] (zK oV):=fsc
abbrev zRr(K:PySem.W.Frag)(C:Addr):Sp:=bV K false (λa:(aD C)×Unit=>([.z a.1]:SL K)) (λa=>SN a.1)
theorem zS1(F:bH K "lives" "lives" oV f fd)(B:Bl K mg)(bR:bC P w K mg base k "everywhere" ["machine"] (Y5 K C))(cD:bC P w K mg base k "staying_reasons" ["machine","within"] (spT tA jU (zAx K C))):aB P w K mg base aZ (k+1) f fd ["machine"] (spT tA jU (zRr K C)):=by
 refine Oa F qt (λ_=>rfl) (λ_=>rfl) λcdv A outer s H E hr hcd=>?_
 have nd:=qt.nd
 refine⟨_,(zA (zS (yC cD hr (zB (pv 0) (zB (yC bR hr (zB (pv 0) zH)) zH)))) zF),?_⟩
 rintro Fa tb ⟨q0,⟨⟩⟩
 exact SB.of (yA (zL6 tb (zG (zE 0 rfl) (zG (zN (zG (zE 0 rfl) zO)) zO)))) (by unfold SN;simp only[bnd])
end
end Ts
set_option maxHeartbeats 40000000
namespace Ts
open PySem L2
section
variable{P:Program}{w:World}{K:PySem.W.Frag}{mg:Str->Option Value}{base:Heap}
def wH(q0:tQ)(q1:Int):Option Int:=if(decide (q1<(q0.ns.length:Int)))=true then aH q0.ns q1 else some (0:Int)
theorem jH:ao ["_law_script","_law_k"] ["_law_script","_law_k"] (zK gJ):=fsc
abbrev Zg(K:PySem.W.Frag):Sp:=bV K false (λa:tQ×Int×Unit=>([.z a.1,.z a.2.1]:SL K)) (λa=>wH a.1 a.2.1)
theorem zI7(F:bH K "_law_cell_at" "_law_cell_at" gJ f fd)(B:Bl K mg):aB P w K mg base aZ (k+1) f fd ["_law_script","_law_k"] (Zg K):=by
 refine yP F jH (λ_=>rfl) (λ_=>rfl) λcdv A outer s H E hr=>?_
 have nd:=jH.nd
 refine⟨_,(zA (yT (zX v7 (pv 1) (zT (xT K) rfl B.len PySem.boot_len (zB (pv 0) zH)) (yJ _)) (zA (zS (zY (aL K) (pv 0) (pv 1) (λ_ _=>rfl))) zF) zF) (zA (zS zI) zF)),?_⟩
 rintro Fa ⟨q0,q1,⟨⟩⟩
 exact SB.of (su (zU (md:=.hp) (DN (zD 1 rfl) (zQp (zE 0 rfl)))) (yA (esc (Ke (zE 0 rfl) (zD 1 rfl)))) (yA (esc (zJ 0)))) (by unfold wH;simp only[bnd])
def uF(q0:Int):Option Bool:=if true=true then some (!false) else some false
theorem mK:ao ["_law_found"] ["_law_found"] (zK jY):=fsc
abbrev Zh(K:PySem.W.Frag):Sp:=bV K false (λa:Int×Unit=>([.z a.1]:SL K)) (λa=>uF a.1)
theorem zM2(F:bH K "_law_whole" "_law_whole" jY f fd)(B:Bl K mg):aB P w K mg base aZ (k+1) f fd ["_law_found"] (Zh K):=by
 refine yP F mK (λ_=>rfl) (λ_=>rfl) λcdv A outer s H E hr=>?_
 have nd:=mK.nd
 refine⟨_,(zA (zS (M7 (zT (Em K (Dt (n:="int"))) rfl B.B_ Ec (zB (pv 0) (zB (Cw (v:=.ty "int") rfl B.int Xi rfl) zH))) (M6 (zUg (zT (Em K (Dt (n:="bool"))) rfl B.B_ Ec (zB (pv 0) (zB (Cw (v:=.ty "bool") rfl B.bool zRj rfl) zH))))))) zF),?_⟩
 rintro Fa ⟨q0,⟨⟩⟩
 exact SB.of (yA (esc (Nq (DY B.ii rfl (zD 0 rfl)) (zUp (DY B.ib rfl (zD 0 rfl)))))) (by unfold uF;simp only[bnd])
def vR(q0:Int)(q1:Int):Option Int:=((((((mulM (2:Int) q1).bind λb2=>some ((48271:Int)+b2)).bind λb3=>mulM q0 b3).bind λa4=>(mulM (7919:Int) q1).bind λb5=>some (a4+b5)).bind λa6=>some (a6+(5:Int))).bind λa7=>bT a7 (99991:Int)).bind λMf=>(mulM Mf ((Mf+(3:Int))+q1)).bind λa8=>bT a8 (99989:Int)
theorem qu:ao ["_law_cell","_law_k","_law_one"] ["_law_cell","_law_k"] (zK oW):=fsc
abbrev Vw(K:PySem.W.Frag):Sp:=bV K false (λa:Int×Int×Unit=>([.z a.1,.z a.2.1]:SL K)) (λa=>vR a.1 a.2.1)
theorem zS2(F:bH K "_law_mix" "_law_mix" oW f fd)(B:Bl K mg):aB P w K mg base aZ (k+1) f fd ["_law_cell","_law_k"] (Vw K):=by
 refine yP F qu (λ_=>rfl) (λ_=>rfl) λcdv A outer s H E hr=>?_
 have nd:=qu.nd
 refine⟨_,(zA (yF 2 nd (zZ wI (zZ xL (zZ xL (zZ Jx (pv 0) (zZ xL zI (zZ Jx zI (pv 1)))) (zZ Jx zI (pv 1))) zI) zI)) (zA (zS (zZ wI (zZ Jx (pv 2) (zZ xL (zZ xL (pv 2) zI) (pv 1))) zI)) zF)),?_⟩
 rintro Fa ⟨q0,q1,⟨⟩⟩
 exact SB.of (zM (yB true 2 rfl rfl (esc (wJ (xO (xO (J_ (zD 0 rfl) (xO (zJ 48271) (J_ (zJ 2) (zD 1 rfl)))) (J_ (zJ 7919) (zD 1 rfl))) (zJ 5)) (zJ 99991)))) (λMf=>(yA (esc (wJ (J_ (zD 2 rfl) (xO (xO (zD 2 rfl) (zJ 3)) (zD 1 rfl))) (zJ 99989)))))) (by unfold vR;simp only[bnd])
def uG(q0:tQ)(q1:Int):Option (List LI):=(some (([]:List LI))).bind λrA=>((wF q1).bind λxs=>xA (λ(s2:List LI) (x4:Int)=>(((((bT x4 (max (1:Int) ((q0.ns.length:Int)-(4:Int)))).bind λb6=>some ((4:Int)+b6)).bind λa8=>some ((a8,()))).bind λb9=>some (q0,b9)).bind λz7=>wH z7.1 z7.2.1).bind λg_=>(some ([]:LI)).bind λBg=>(((((vR g_ x4).bind λa14=>bT a14 (3:Int)).bind λLR=>some ((1:Int)+LR)).bind λa16=>wF a16).bind λxs=>xA (λ(bI:LI) (qD:Int)=>(((((((mulM (70:Int) qD).bind λBc=>some (x4+Bc)).bind λa19=>some (a19+(70:Int))).bind λa21=>some ((a21,()))).bind λZi=>some (g_+qD,Zi)).bind λOq=>vR Oq.1 Oq.2.1).bind λa23=>bT a23 q1).bind λpA=>((((vR g_ (((300:Int)+x4)+qD)).bind λa24=>bT a24 (3:Int)).bind λa25=>some (decide (a25=(0:Int)))).bind λb=>if b=true then(bT (x4+(1:Int)) q1).bind λpB=>some pB else some pA).bind λSQ=>(if(!decide (SQ∈bI))=true then(push bI SQ).bind λBh=>some Bh else some bI).bind λZj=>some Zj) xs Bg).bind λs12=>(push s2 s12).bind λpC=>some pC) xs rA).bind λs3=>some s3
theorem iT:ao ["_law_script","_law_many","_law_steps","_law_stand","_law_cell","_law_row","_law_k","_law_other"] ["_law_script","_law_many"] (zK fK):=fsc
abbrev zD4(K:PySem.W.Frag):Sp:=bV K false (λa:tQ×Int×Unit=>([.z a.1,.z a.2.1]:SL K)) (λa=>uG a.1 a.2.1)
theorem zHl(F:bH K "_law_steps_by" "_law_steps_by" fK f fd)(B:Bl K mg)(Mg:mg "max" = none)(aY:bC P w K mg base k "_law_cell_at" ["_law_script","_law_k"] (Zg K))(bD:bC P w K mg base k "_law_mix" ["_law_cell","_law_k"] (Vw K)):aB P w K mg base aZ (k+1) f fd ["_law_script","_law_many"] (zD4 K):=by
 refine yP F iT (λ_=>rfl) (λ_=>rfl) λcdv A outer s H E hr=>?_
 have nd:=iT.nd
 refine⟨_,(zA (yF 2 nd (wO zH)) (zA (yN PassesOwn.never rfl (yL rfl B.range (zB (pv 1) zH)) (bw 3 nd) (zA (yF 4 nd (yC aY hr (zB (pv 0) (zB (zZ xL zI (zZ wI (pv 3) (zT (zRd rfl) rfl Mg Kh (zB zI (zB (zZ T_ (zT (xT K) rfl B.len PySem.boot_len (zB (pv 0) zH)) zI) zH))))) zH)))) (zA (yF 5 nd (wO zH)) (zA (yN PassesOwn.never rfl (yL rfl B.range (zB (zZ xL zI (zZ wI (yC bD hr (zB (pv 4) (zB (pv 3) zH))) zI)) zH)) (bw 6 nd) (zA (yF 7 nd (zZ wI (yC bD hr (zB (zZ xL (pv 4) (pv 6)) (zB (zZ xL (zZ xL (pv 3) (zZ Jx zI (pv 6))) zI) zH))) (pv 1))) (zA (yT (zX (uZ K Int hr) (zZ wI (yC bD hr (zB (pv 4) (zB (zZ xL (zZ xL zI (pv 3)) (pv 6)) zH))) zI) zI (yJ _)) (zA (yF 7 nd (zZ wI (zZ xL (pv 3) zI) (pv 1))) zF) zF) (zA (yT (zX (Kg K) (pv 7) (pv 5) (by with_unfolding_all rfl)) (zA (yY (sE K PySem.F.plainAttrs_list PySem.F.slot_list_append PySem.F.type_list_append xM (pv 5) (zB (pv 7) zH))) zF) zF) zF)))) (zA (yY (sE K PySem.F.plainAttrs_list PySem.F.slot_list_append PySem.F.type_list_append xM (pv 2) (zB (pv 5) zH))) zF))))) (zA (zS (pv 2)) zF))),?_⟩
 rintro Fa ⟨q0,q1,⟨⟩⟩
 exact SB.of (zM (uM true 2 rfl rfl (v8 (α:=LI))) (λrA=>(zM (xI (n:=true) (L:=(λs2:List LI=>([.z q0,.z q1,.ow true s2,.un,.un,.un,.un,.un]:SL K))) rA aG (yW (zD 1 rfl)) (λs2=>(zR 3 rfl rfl)) (λs2 x4=>(zL (yB true 4 rfl rfl (esc (zN (zG (zE 0 rfl) (zG (esc (xO (zJ 4) (wJ (zD 3 rfl) (DX (zJ 1) (Uy (zQp (zE 0 rfl)) (zJ 4)))))) zO))))) (λg_=>(zL (uM true 5 rfl rfl (v8 (α:=Int))) (λBg=>(zL (xI (n:=true) (L:=(λbI:LI=>([.z q0,.z q1,.ow true s2,.y x4,.y g_,.ow true bI,.un,.un]:SL K))) Bg aG (yW (xO (zJ 1) (wJ (zN (zG (esc (zD 4 rfl)) (zG (esc (zD 3 rfl)) zO))) (zJ 3)))) (λbI=>(zR 6 rfl rfl)) (λbI qD=>(zL (yB true 7 rfl rfl (esc (wJ (zN (zG (esc (xO (zD 4 rfl) (zD 6 rfl))) (zG (esc (xO (xO (zD 3 rfl) (J_ (zJ 70) (zD 6 rfl))) (zJ 70))) zO))) (zD 1 rfl)))) (λpA=>(zL (uQ (zU (md:=.hp) (qM (wJ (zN (zG (esc (zD 4 rfl)) (zG (esc (xO (xO (zJ 300) (zD 3 rfl)) (zD 6 rfl))) zO))) (zJ 3)) (zJ 0))) (zL (yB true 7 rfl rfl (esc (wJ (xO (zD 3 rfl) (zJ 1)) (zD 1 rfl)))) (λpB=>(zQ (λMh:Int=>([.z q0,.z q1,.ow true s2,.y x4,.y g_,.ow true bI,.y qD,.y Mh]:SL K)) pB aG))) (zQ (λMh:Int=>([.z q0,.z q1,.ow true s2,.y x4,.y g_,.ow true bI,.y qD,.y Mh]:SL K)) pA aG)) (λSQ=>(zL (uQ (zU (md:=.hp) (Kd (zD 7 rfl) (wV 5 rfl))) (zL (vC 5 rfl rfl (esc (zD 7 rfl))) (λBh=>(zQ (λZk:LI=>([.z q0,.z q1,.ow true s2,.y x4,.y g_,.ow true Zk,.y qD,.y SQ]:SL K)) Bh aG))) (zQ (λZk:LI=>([.z q0,.z q1,.ow true s2,.y x4,.y g_,.ow true Zk,.y qD,.y SQ]:SL K)) bI aG)) (λZj=>(zQ (λbI:LI=>([.z q0,.z q1,.ow true s2,.y x4,.y g_,.ow true bI,.un,.un]:SL K)) Zj aG))))))))) (λs12=>(zL (Xp (sl2:=[.z q0,.z q1,.ow true s2,.y x4,.y g_,.y s12,.un,.un]) aG (vC 2 rfl rfl (yO 5 rfl))) (λpC=>(zQ (λs2:List LI=>([.z q0,.z q1,.ow true s2,.un,.un,.un,.un,.un]:SL K)) pC aG))))))))))) (λs3=>(BZ 2 rfl rfl))))) (by unfold uG;simp only[bnd])
def SX(q0:Int)(q1:Int)(q2:Int):Option LI:=(some ([]:LI)).bind λcF=>(iD q0 (216:Int)).bind λjJ=>(((bT q0 (2:Int)).bind λa3=>some (decide (a3=(1:Int)))).bind λb=>if b=true then((wF q1).bind λxs=>xA (λ(s6:Int) (x8:Int)=>(iD s6 (6:Int)).bind λBj=>some Bj) xs jJ).bind λs7=>some s7 else some jJ).bind λs4=>((wF q1).bind λxs=>xA (λ(jG:LI×Int) (x12:Int)=>(vR q0 (x12+(1:Int))).bind λBk=>(((oG (10:Int) (18:Int)).bind λLw=>some (decide (Lw<=q0))).bind λb=>if b=true then(some jG.2).bind λBo=>some Bo else some Bk).bind λCk=>(((bT Ck (6:Int)).bind λa18=>some (decide (a18<q2))).bind λb=>if b=true then(push jG.1 x12).bind λrB=>some rB else some jG.1).bind λoZ=>(iD jG.2 (6:Int)).bind λrC=>some (oZ,rC)) xs (cF,s4)).bind λbI=>some bI.1
theorem kj:ao ["_law_cell","_law_many","_law_way","_law_some","_law_rest","_law_stand","_law_one"] ["_law_cell","_law_many","_law_way"] (zK jf):=fsc
abbrev zGt(K:PySem.W.Frag):Sp:=bV K false (λa:Int×Int×Int×Unit=>([.z a.1,.z a.2.1,.z a.2.2.1]:SL K)) (λa=>SX a.1 a.2.1 a.2.2.1)
theorem zKo(F:bH K "_law_set_by" "_law_set_by" jf f fd)(B:Bl K mg)(bD:bC P w K mg base k "_law_mix" ["_law_cell","_law_k"] (Vw K)):aB P w K mg base aZ (k+1) f fd ["_law_cell","_law_many","_law_way"] (zGt K):=by
 refine yP F kj (λ_=>rfl) (λ_=>rfl) λcdv A outer s H E hr=>?_
 have nd:=kj.nd
 refine⟨_,(zA (yF 3 nd (wO zH)) (zA (yF 4 nd (zZ uY (pv 0) zI)) (zA (yT (zX (uZ K Int hr) (zZ wI (pv 0) zI) zI (yJ _)) (zA (yN PassesOwn.never rfl (yL rfl B.range (zB (pv 1) zH)) (bw 5 nd) (zA (yF 4 nd (zZ uY (pv 4) zI)) zF)) zF) zF) (zA (yN PassesOwn.never rfl (yL rfl B.range (zB (pv 1) zH)) (bw 5 nd) (zA (yF 6 nd (yC bD hr (zB (pv 0) (zB (zZ xL (pv 5) zI) zH)))) (zA (yT (zX Hj (pv 0) (zZ Wf zI zI) (yJ _)) (zA (yF 6 nd (pv 4)) zF) zF) (zA (yT (zX v7 (zZ wI (pv 6) zI) (pv 2) (yJ _)) (zA (yY (sE K PySem.F.plainAttrs_list PySem.F.slot_list_append PySem.F.type_list_append xM (pv 3) (zB (pv 5) zH))) zF) zF) (zA (yF 4 nd (zZ uY (pv 4) zI)) zF))))) (zA (zS (pv 3)) zF))))),?_⟩
 rintro Fa ⟨q0,q1,q2,⟨⟩⟩
 exact SB.of (zM (uM true 3 rfl rfl (v8 (α:=Int))) (λcF=>(zM (yB true 4 rfl rfl (esc (z_ (zD 0 rfl) (zJ 216)))) (λjJ=>(zM (uQ (zU (md:=.hp) (qM (wJ (zD 0 rfl) (zJ 2)) (zJ 1))) (zL (xI (n:=true) (L:=(λs6:Int=>([.z q0,.z q1,.z q2,.ow true cF,.y s6,.un,.un]:SL K))) jJ aG (yW (zD 1 rfl)) (λs6=>(zR 5 rfl rfl)) (λs6 x8=>(zL (yB true 4 rfl rfl (esc (z_ (zD 4 rfl) (zJ 6)))) (λBj=>(zQ (λs6:Int=>([.z q0,.z q1,.z q2,.ow true cF,.y s6,.un,.un]:SL K)) Bj aG))))) (λs7=>(zQ (λs5:Int=>([.z q0,.z q1,.z q2,.ow true cF,.y s5,.un,.un]:SL K)) s7 aG))) (zQ (λs5:Int=>([.z q0,.z q1,.z q2,.ow true cF,.y s5,.un,.un]:SL K)) jJ aG)) (λs4=>(zM (xI (n:=true) (L:=(λjG:LI×Int=>([.z q0,.z q1,.z q2,.ow true jG.1,.y jG.2,.un,.un]:SL K))) (cF,s4) aG (yW (zD 1 rfl)) (λjG=>(zR 5 rfl rfl)) (λjG x12=>(zL (yB true 6 rfl rfl (esc (zN (zG (esc (zD 0 rfl)) (zG (esc (xO (zD 5 rfl) (zJ 1))) zO))))) (λBk=>(zL (uQ (zU (md:=.hp) (HD (zD 0 rfl) (Xh (zJ 10) (zJ 18)))) (zL (yB true 6 rfl rfl (esc (zD 4 rfl))) (λBo=>(zQ (λqT:Int=>([.z q0,.z q1,.z q2,.ow true jG.1,.y jG.2,.y x12,.y qT]:SL K)) Bo aG))) (zQ (λqT:Int=>([.z q0,.z q1,.z q2,.ow true jG.1,.y jG.2,.y x12,.y qT]:SL K)) Bk aG)) (λCk=>(zL (uQ (zU (md:=.hp) (DN (wJ (zD 6 rfl) (zJ 6)) (zD 2 rfl))) (zL (vC 3 rfl rfl (esc (zD 5 rfl))) (λrB=>(zQ (λqR:LI=>([.z q0,.z q1,.z q2,.ow true qR,.y jG.2,.y x12,.y Ck]:SL K)) rB aG))) (zQ (λqR:LI=>([.z q0,.z q1,.z q2,.ow true qR,.y jG.2,.y x12,.y Ck]:SL K)) jG.1 aG)) (λoZ=>(zL (yB true 4 rfl rfl (esc (z_ (zD 4 rfl) (zJ 6)))) (λrC=>(zQ (λjG:LI×Int=>([.z q0,.z q1,.z q2,.ow true jG.1,.y jG.2,.un,.un]:SL K)) (oZ,rC) aG))))))))))) (λbI=>(BZ 3 rfl rfl))))))))) (by unfold SX;simp only[bnd])
def vT(q0:Int)(q1:Int):Option (List LI):=(some (([]:List LI))).bind λmH=>(iD q0 (4:Int)).bind λjJ=>(((bT q0 (4:Int)).bind λa6=>wF a6).bind λxs=>xA (λ(s3:Int×(List LI)) (x5:Int)=>(some ([]:LI)).bind λBp=>(((vR q0 ((400:Int)+x5)).bind λa9=>bT a9 (5:Int)).bind λb10=>aH ([(1:Int),(2:Int),(2:Int),(3:Int),(6:Int)]) b10).bind λlA=>((wF q1).bind λxs=>xA (λ(bI:LI×Int) (qD:Int)=>(((((((((mulM (61:Int) x5).bind λLR=>some ((500:Int)+LR)).bind λa16=>some (a16+qD)).bind λa18=>some ((a18,()))).bind λZm=>some (q0,Zm)).bind λVv=>vR Vv.1 Vv.2.1).bind λa20=>bT a20 (6:Int)).bind λa21=>some (decide (a21<lA))).bind λa22=>some (if a22=true then(1:Int) else 0)).bind λBq=>(((oG (10:Int) (18:Int)).bind λS5=>some (decide (S5<=q0))).bind λb=>if b=true then(bT bI.2 (2:Int)).bind λBr=>some Br else some Bq).bind λGf=>(if(decide (Gf=(1:Int)))=true then(push bI.1 qD).bind λrD=>some rD else some bI.1).bind λMh=>(iD bI.2 (2:Int)).bind λrE=>some (Mh,rE)) xs (Bp,s3.1)).bind λs12=>((if(decide (s12.1=([]:LI)))=true then((oG (10:Int) (18:Int)).bind λZn=>some (decide (q0<Zn))).bind λZo=>if Zo=true then((vR q0 ((450:Int)+x5)).bind λa32=>bT a32 (8:Int)).bind λa33=>some (decide ((0:Int)<a33)) else some false else some false).bind λb=>if b=true then(((vR q0 ((460:Int)+x5)).bind λa38=>bT a38 q1).bind λa39=>some (a39::([]))).bind λrG=>some rG else some s12.1).bind λZq=>(push s3.2 Zq).bind λrH=>some (s12.2,rH)) xs (jJ,mH)).bind λs4=>some s4.2
theorem jK:ao ["_law_cell","_law_many","_law_fair","_law_rest","_law_k","_law_some","_law_way","_law_stand","_law_one"] ["_law_cell","_law_many"] (zK gM):=fsc
abbrev zFt(K:PySem.W.Frag):Sp:=bV K false (λa:Int×Int×Unit=>([.z a.1,.z a.2.1]:SL K)) (λa=>vT a.1 a.2.1)
theorem zI6(F:bH K "_law_fair_by" "_law_fair_by" gM f fd)(B:Bl K mg)(bD:bC P w K mg base k "_law_mix" ["_law_cell","_law_k"] (Vw K)):aB P w K mg base aZ (k+1) f fd ["_law_cell","_law_many"] (zFt K):=by
 refine yP F jK (λ_=>rfl) (λ_=>rfl) λcdv A outer s H E hr=>?_
 have nd:=jK.nd
 refine⟨_,(zA (yF 2 nd (wO zH)) (zA (yF 3 nd (zZ uY (pv 0) zI)) (zA (yN PassesOwn.never rfl (yL rfl B.range (zB (zZ wI (pv 0) zI) zH)) (bw 4 nd) (zA (yF 5 nd (wO zH)) (zA (yF 6 nd (zY (aL K) (wO (zB zI (zB zI (zB zI (zB zI (zB zI zH)))))) (zZ wI (yC bD hr (zB (pv 0) (zB (zZ xL zI (pv 4)) zH))) zI) (λ_ _=>rfl))) (zA (yN PassesOwn.never rfl (yL rfl B.range (zB (pv 1) zH)) (bw 7 nd) (zA (yF 8 nd (wP zRf rfl B.int Xi (zB (Qe v7 (zZ wI (yC bD hr (zB (pv 0) (zB (zZ xL (zZ xL zI (zZ Jx zI (pv 4))) (pv 7)) zH))) zI) (pv 6) (yJ _)) zH))) (zA (yT (zX Hj (pv 0) (zZ Wf zI zI) (yJ _)) (zA (yF 8 nd (zZ wI (pv 3) zI)) zF) zF) (zA (yT (zX (uZ K Int hr) (pv 8) zI (yJ _)) (zA (yY (sE K PySem.F.plainAttrs_list PySem.F.slot_list_append PySem.F.type_list_append xM (pv 5) (zB (pv 7) zH))) zF) zF) (zA (yF 3 nd (zZ uY (pv 3) zI)) zF))))) (zA (yT (PW.pt (pw_and (zX (uZ K LI hr) (pv 5) (wO zH) (yJ _)) (pw_and (zX v7 (pv 0) (zZ Wf zI zI) (yJ _)) (pw_and1 (zX Ub (zZ wI (yC bD hr (zB (pv 0) (zB (zZ xL zI (pv 4)) zH))) zI) zI (yJ _)))))) (zA (yF 5 nd (wO (zB (zZ wI (yC bD hr (zB (pv 0) (zB (zZ xL zI (pv 4)) zH))) (pv 1)) zH))) zF) zF) (zA (yY (sE K PySem.F.plainAttrs_list PySem.F.slot_list_append PySem.F.type_list_append xM (pv 2) (zB (pv 5) zH))) zF)))))) (zA (zS (pv 2)) zF)))),?_⟩
 rintro Fa ⟨q0,q1,⟨⟩⟩
 exact SB.of (zM (uM true 2 rfl rfl (v8 (α:=LI))) (λmH=>(zM (yB true 3 rfl rfl (esc (z_ (zD 0 rfl) (zJ 4)))) (λjJ=>(zM (xI (n:=true) (L:=(λs3:Int×(List LI)=>([.z q0,.z q1,.ow true s3.2,.y s3.1,.un,.un,.un,.un,.un]:SL K))) (jJ,mH) aG (yW (wJ (zD 0 rfl) (zJ 4))) (λs3=>(zR 4 rfl rfl)) (λs3 x5=>(zL (uM true 5 rfl rfl (v8 (α:=Int))) (λBp=>(zL (yB true 6 rfl rfl (esc (esc (yS (J5 (wM (esc (zJ 1)) (wM (esc (zJ 2)) (wM (esc (zJ 2)) (wM (esc (zJ 3)) (wM (esc (zJ 6)) J4))))) (λa h=>Nat.le_trans ((uN (uN (uN (uN (uN Ko))))) a h) (by decide))).ex (wJ (zN (zG (esc (zD 0 rfl)) (zG (esc (xO (zJ 400) (zD 4 rfl))) zO))) (zJ 5)))))) (λlA=>(zL (xI (n:=true) (L:=(λbI:LI×Int=>([.z q0,.z q1,.ow true s3.2,.y bI.2,.y x5,.ow true bI.1,.y lA,.un,.un]:SL K))) (Bp,s3.1) aG (yW (zD 1 rfl)) (λbI=>(zR 7 rfl rfl)) (λbI qD=>(zL (yB true 8 rfl rfl (esc (Ez (DN (wJ (zN (zG (esc (zD 0 rfl)) (zG (esc (xO (xO (zJ 500) (J_ (zJ 61) (zD 4 rfl))) (zD 7 rfl))) zO))) (zJ 6)) (zD 6 rfl))))) (λBq=>(zL (uQ (zU (md:=.hp) (HD (zD 0 rfl) (Xh (zJ 10) (zJ 18)))) (zL (yB true 8 rfl rfl (esc (wJ (zD 3 rfl) (zJ 2)))) (λBr=>(zQ (λS6:Int=>([.z q0,.z q1,.ow true s3.2,.y bI.2,.y x5,.ow true bI.1,.y lA,.y qD,.y S6]:SL K)) Br aG))) (zQ (λS6:Int=>([.z q0,.z q1,.ow true s3.2,.y bI.2,.y x5,.ow true bI.1,.y lA,.y qD,.y S6]:SL K)) Bq aG)) (λGf=>(zL (uQ (zU (md:=.hp) (qM (zD 8 rfl) (zJ 1))) (zL (vC 5 rfl rfl (esc (zD 7 rfl))) (λrD=>(zQ (λZr:LI=>([.z q0,.z q1,.ow true s3.2,.y bI.2,.y x5,.ow true Zr,.y lA,.y qD,.y Gf]:SL K)) rD aG))) (zQ (λZr:LI=>([.z q0,.z q1,.ow true s3.2,.y bI.2,.y x5,.ow true Zr,.y lA,.y qD,.y Gf]:SL K)) bI.1 aG)) (λMh=>(zL (yB true 3 rfl rfl (esc (z_ (zD 3 rfl) (zJ 2)))) (λrE=>(zQ (λbI:LI×Int=>([.z q0,.z q1,.ow true s3.2,.y bI.2,.y x5,.ow true bI.1,.y lA,.un,.un]:SL K)) (Mh,rE) aG))))))))))) (λs12=>(zL (uQ (Np (zU (md:=.hp) (qM (wV 5 rfl) (v8 (α:=Int)).ex)) (Np (zU (md:=.hp) (DN (zD 0 rfl) (Xh (zJ 10) (zJ 18)))) (zU (md:=.hp) (Uz (wJ (zN (zG (esc (zD 0 rfl)) (zG (esc (xO (zJ 450) (zD 4 rfl))) zO))) (zJ 8)) (zJ 0))))) (zL (Xp (sl2:=[.z q0,.z q1,.ow true s3.2,.y s12.2,.y x5,.un,.y lA,.un,.un]) aG (uM true 5 rfl rfl (J5 (wM (esc (wJ (zN (zG (esc (zD 0 rfl)) (zG (esc (xO (zJ 460) (zD 4 rfl))) zO))) (zD 1 rfl))) J4) (λa h=>Nat.le_trans ((uN Ko) a h) (by decide))))) (λrG=>(zQ (λZt:LI=>([.z q0,.z q1,.ow true s3.2,.y s12.2,.y x5,.ow true Zt,.y lA,.un,.un]:SL K)) rG aG))) (zQ (λZt:LI=>([.z q0,.z q1,.ow true s3.2,.y s12.2,.y x5,.ow true Zt,.y lA,.un,.un]:SL K)) s12.1 aG)) (λZq=>(zL (Xp (sl2:=[.z q0,.z q1,.ow true s3.2,.y s12.2,.y x5,.y Zq,.y lA,.un,.un]) aG (vC 2 rfl rfl (yO 5 rfl))) (λrH=>(zQ (λs3:Int×(List LI)=>([.z q0,.z q1,.ow true s3.2,.y s3.1,.un,.un,.un,.un,.un]:SL K)) (s12.2,rH) aG))))))))))))) (λs4=>(BZ 2 rfl rfl))))))) (by unfold vT;simp only[bnd])
def uH(q0:Int):Option Int:=((bT q0 (8:Int)).bind λa1=>some (decide (a1=(5:Int)))).bind λb=>if b=true then((iD q0 (8:Int)).bind λa2=>bT a2 (12:Int)).bind λb3=>some ((1:Int)+b3) else((iD q0 (8:Int)).bind λa4=>bT a4 (8:Int)).bind λb5=>some ((1:Int)+b5)
theorem iU:ao ["_law_cell"] ["_law_cell"] (zK fL):=fsc
abbrev zD5(K:PySem.W.Frag):Sp:=bV K false (λa:Int×Unit=>([.z a.1]:SL K)) (λa=>uH a.1)
theorem zHm(F:bH K "_law_small_by" "_law_small_by" fL f fd)(B:Bl K mg):aB P w K mg base aZ (k+1) f fd ["_law_cell"] (zD5 K):=by
 refine yP F iU (λ_=>rfl) (λ_=>rfl) λcdv A outer s H E hr=>?_
 have nd:=iU.nd
 refine⟨_,(zA (yT (zX (uZ K Int hr) (zZ wI (pv 0) zI) zI (yJ _)) (zA (zS (zZ xL zI (zZ wI (zZ uY (pv 0) zI) zI))) zF) zF) (zA (zS (zZ xL zI (zZ wI (zZ uY (pv 0) zI) zI))) zF)),?_⟩
 rintro Fa ⟨q0,⟨⟩⟩
 exact SB.of (su (zU (md:=.hp) (qM (wJ (zD 0 rfl) (zJ 8)) (zJ 5))) (yA (esc (xO (zJ 1) (wJ (z_ (zD 0 rfl) (zJ 8)) (zJ 12))))) (yA (esc (xO (zJ 1) (wJ (z_ (zD 0 rfl) (zJ 8)) (zJ 8)))))) (by unfold uH;simp only[bnd])
def wT(q0:Int)(q1:Int):Option Str:=(some ("abcdefghijklmnopqrstuvwxyz":Str)).bind λcF=>((bT q0 (8:Int)).bind λb3=>some ((1:Int)+b3)).bind λjL=>(some ("":Str)).bind λBt=>((wF jL).bind λxs=>xA (λ(s5:Str) (x7:Int)=>((iD q0 (64:Int)).bind λa9=>(mulM x7 x7).bind λb10=>some (a9+b10)).bind λVx=>((((iD q0 (8:Int)).bind λa11=>bT a11 jL).bind λZu=>some (decide (x7=Zu))).bind λb=>if b=true then(some (Vx+q1)).bind λMi=>some Mi else some Vx).bind λpN=>(((bT pN (26:Int)).bind λGd=>Oe cF Gd).bind λBc=>p8 s5 Bc).bind λmL=>some mL) xs Bt).bind λs6=>(if(decide (s6∈(["all","not","both","either","somenext","eachnext","sometill","eachtill","someever","eachever"]:List Str)))=true then((Ah s6 (1:Int)).bind λa22=>p8 a22 ("q":Str)).bind λmO=>some mO else some s6).bind λoZ=>some oZ
theorem jM:ao ["_law_cell","_law_k","_law_some","_law_size","_law_word","_law_place","_law_at"] ["_law_cell","_law_k"] (zK gO):=fsc
abbrev zFr(K:PySem.W.Frag):Sp:=bV K false (λa:Int×Int×Unit=>([.z a.1,.z a.2.1]:SL K)) (λa=>wT a.1 a.2.1)
theorem zI4(F:bH K "_law_word_by" "_law_word_by" gO f fd)(B:Bl K mg):aB P w K mg base aZ (k+1) f fd ["_law_cell","_law_k"] (zFr K):=by
 refine yP F jM (λ_=>rfl) (λ_=>rfl) λcdv A outer s H E hr=>?_
 have nd:=jM.nd
 refine⟨_,(zA (yF 2 nd vD) (zA (yF 3 nd (zZ xL zI (zZ wI (pv 0) zI))) (zA (yF 4 nd vD) (zA (yN PassesOwn.never rfl (yL rfl B.range (zB (pv 3) zH)) (bw 5 nd) (zA (yF 6 nd (zZ xL (zZ uY (pv 0) zI) (zZ Jx (pv 5) (pv 5)))) (zA (yT (zX (uZ K Int hr) (pv 5) (zZ wI (zZ uY (pv 0) zI) (pv 3)) (yJ _)) (zA (yF 6 nd (zZ xL (pv 6) (pv 1))) zF) zF) (zA (yF 4 nd (zZ zPj (pv 4) (K_ (pv 2) (zZ wI (pv 6) zI) (λ_ _=>rfl)))) zF)))) (zA (yT (zX (UL K) (pv 4) (Dd (zB vD (zB vD (zB vD (zB vD (zB vD (zB vD (zB vD (zB vD (zB vD (zB vD zH))))))))))) (by with_unfolding_all rfl)) (zA (yF 4 nd (zZ zPj (Wy K9 (pv 4) Ww (Wx zI)) vD)) zF) zF) (zA (zS (pv 4)) zF)))))),?_⟩
 rintro Fa ⟨q0,q1,⟨⟩⟩
 exact SB.of (zM (yB true 2 rfl rfl (esc (Hv "abcdefghijklmnopqrstuvwxyz"))) (λcF=>(zM (yB true 3 rfl rfl (esc (xO (zJ 1) (wJ (zD 0 rfl) (zJ 8))))) (λjL=>(zM (yB true 4 rfl rfl (esc (Hv ""))) (λBt=>(zM (xI (n:=true) (L:=(λs5:Str=>([.z q0,.z q1,.y cF,.y jL,.y s5,.un,.un]:SL K))) Bt aG (yW (zD 3 rfl)) (λs5=>(zR 5 rfl rfl)) (λs5 x7=>(zL (yB true 6 rfl rfl (esc (xO (z_ (zD 0 rfl) (zJ 64)) (J_ (zD 5 rfl) (zD 5 rfl))))) (λVx=>(zL (uQ (zU (md:=.hp) (qM (zD 5 rfl) (wJ (z_ (zD 0 rfl) (zJ 8)) (zD 3 rfl)))) (zL (yB true 6 rfl rfl (esc (xO (zD 6 rfl) (zD 1 rfl)))) (λMi=>(zQ (λjA:Int=>([.z q0,.z q1,.y cF,.y jL,.y s5,.y x7,.y jA]:SL K)) Mi aG))) (zQ (λjA:Int=>([.z q0,.z q1,.y cF,.y jL,.y s5,.y x7,.y jA]:SL K)) Vx aG)) (λpN=>(zL (yB true 4 rfl rfl (esc (zQt (zD 4 rfl) (esc (Lb (zD 2 rfl) (wJ (zD 6 rfl) (zJ 26))))))) (λmL=>(zQ (λs5:Str=>([.z q0,.z q1,.y cF,.y jL,.y s5,.un,.un]:SL K)) mL aG))))))))) (λs6=>(zM (uQ (zU (md:=.hp) (zTl (["all","not","both","either","somenext","eachnext","sometill","eachtill","someever","eachever"]:List Str) (by decide) (zD 4 rfl))) (zL (yB true 4 rfl rfl (esc (zQt (esc (Fy (zD 4 rfl) (zJ 1))) (Hv "q")))) (λmO=>(zQ (λqR:Str=>([.z q0,.z q1,.y cF,.y jL,.y qR,.un,.un]:SL K)) mO aG))) (zQ (λqR:Str=>([.z q0,.z q1,.y cF,.y jL,.y qR,.un,.un]:SL K)) s6 aG)) (λoZ=>(yA (esc (zD 4 rfl))))))))))))) (by unfold wT;simp only[bnd])
def IW(q0:LI)(q1:List LI)(q2:Int):Option Bool:=(if(!true)=true then some true else if(decide (q0=([]:LI)))=true then some true else some (decide ((600:Int)<(q0.length:Int)))).bind λb=>if b=true then some false else((wF (q0.length:Int)).bind λxs=>vK (λ(s1:Unit) (x3:Int)=>(((((aH q0 x3).bind λa5=>some ((a5,()))).bind λz4=>uF z4.1).bind λa6=>some (!a6)).bind λc9=>if c9=true then some true else((aH q0 x3).bind λb7=>if decide ((0:Int)<=b7)=true then some (decide (b7<(q1.length:Int))) else some false).bind λa8=>some (!a8)).bind λb=>if b=true then(some false).bind λb=>some (.rt b) else(if(decide ((0:Int)<x3))=true then(aH q0 x3).bind λa11=>((aH q0 (x3-(1:Int))).bind λb10=>aH q1 b10).bind λZu=>some (!decide (a11∈Zu)) else some false).bind λb=>if b=true then(some false).bind λb=>some (.rt b) else some (.nx ())) xs ()).bind λo=>o.els λs2=>(aH q0 (0:Int)).bind λa13=>some (decide (a13=q2))
theorem n6:ao ["_law_row","_law_steps","_law_start","_law_k"] ["_law_row","_law_steps","_law_start"] (zK lX):=fsc
abbrev zMi(K:PySem.W.Frag):Sp:=bV K false (λa:LI×((List LI))×Int×Unit=>([.z a.1,.z a.2.1,.z a.2.2.1]:SL K)) (λa=>IW a.1 a.2.1 a.2.2.1)
theorem zPl(F:bH K "_law_walk" "_law_walk" lX f fd)(B:Bl K mg)(cL:bC P w K mg base k "_law_whole" ["_law_found"] (Zh K)):aB P w K mg base aZ (k+1) f fd ["_law_row","_law_steps","_law_start"] (zMi K):=by
 refine yP F n6 (λ_=>rfl) (λ_=>rfl) λcdv A outer s H E hr=>?_
 have nd:=n6.nd
 refine⟨_,(zA (yT (PW.pt (pw_or (wW (wN (zT (Em K (Dt (n:="list"))) rfl B.B_ Ec (zB (pv 0) (zB (Cw (v:=.ty "list") rfl B.list Aa rfl) zH))))) (pw_or (zX (uZ K LI hr) (pv 0) (wO zH) (yJ _)) (pw_or1 (zX Ub (zT (xT K) rfl B.len PySem.boot_len (zB (pv 0) zH)) zI (yJ _)))))) (zA (zS wS) zF) zF) (zA (yN PassesOwn.never rfl (yL rfl B.range (zB (zT (xT K) rfl B.len PySem.boot_len (zB (pv 0) zH)) zH)) (bw 3 nd) (zA (yT (PW.pt (pw_or (wW (wN (yC cL hr (zB (zY (aL K) (pv 0) (pv 3) (λ_ _=>rfl)) zH)))) (pw_or1 (wW (zSp Qd v7 zI (zY (aL K) (pv 0) (pv 3) (λ_ _=>rfl)) (zT (xT K) rfl B.len PySem.boot_len (zB (pv 1) zH))))))) (zA (zS wS) zF) zF) (zA (yT (PW.pt (pw_and (zX Ub (pv 3) zI (yJ _)) (pw_and1 (zX (Kg K) (zY (aL K) (pv 0) (pv 3) (λ_ _=>rfl)) (zY (aL K) (pv 1) (zY (aL K) (pv 0) (zZ T_ (pv 3) zI) (λ_ _=>rfl)) (λ_ _=>rfl)) (by with_unfolding_all rfl))))) (zA (zS wS) zF) zF) zF))) (zA (zS (Qe (uZ K Int hr) (zY (aL K) (pv 0) zI (λ_ _=>rfl)) (pv 2) (yJ _))) zF))),?_⟩
 rintro Fa ⟨q0,q1,q2,⟨⟩⟩
 exact SB.of (su (pW (wY (bK (md:=.hp) (DY B.ll rfl (zE 0 rfl)))) (pW (zU (md:=.hp) (qM (zE 0 rfl) (v8 (α:=Int)).ex)) (zU (md:=.hp) (Uz (wQ (zE 0 rfl)) (zJ 600))))) (yA (esc (vA false))) (Hx (HB (n:=true) (L:=(λs1:Unit=>([.z q0,.z q1,.z q2,.un]:SL K))) () aG (yW (wQ (zE 0 rfl))) (λs1=>(zR 3 rfl rfl)) (λs1 x3=>(zx (pW (wY (bK (md:=.hp) (zN (zG (esc (esc (yS (zE 0 rfl) (zD 3 rfl)))) zO)))) (wY (zU (md:=.hp) (U5 (f:=(λi j=>decide (i<=j))) (g:=(λi j=>decide (i<j))) (zJ 0) (esc (yS (zE 0 rfl) (zD 3 rfl))) (wQ (zE 1 rfl)))))) (yA (esc (vA false))) (zx (Np (zU (md:=.hp) (Uz (zD 3 rfl) (zJ 0))) (zU (md:=.hp) (Kd (esc (yS (zE 0 rfl) (zD 3 rfl))) (yS (zE 1 rfl) (esc (yS (zE 0 rfl) (Uy (zD 3 rfl) (zJ 1)))))))) (yA (esc (vA false))) (v9 (λs1:Unit=>([.z q0,.z q1,.z q2,.un]:SL K)) () aG))))) (λs2=>(yA (esc (qM (esc (yS (zE 0 rfl) (zJ 0))) (zD 2 rfl))))))) (by unfold IW;simp only[bnd])
def Ot(q0:Lv)(q1:List LI)(q2:List LI)(q3:LI)(q4:Int):Option Bool:=(((Cj q0).bind λa1=>some (!decide (a1=("loop":Str)))).bind λc5=>if c5=true then some true else if(!decide ((3:Int)=(3:Int)))=true then some true else(((jz q0).bind λa3=>some ((a3,(q1,(q4,()))))).bind λz2=>IW z2.1 z2.2.1 z2.2.2.1).bind λa4=>some (!a4)).bind λb=>if b=true then some false else(((((iH q0).bind λa10=>((((jz q0).bind λa6=>aH a6 (-(1:Int))).bind λa8=>some ((a8,()))).bind λb9=>some (q1,b9)).bind λZv=>some (a10,Zv)).bind λz7=>IW z7.1 z7.2.1 z7.2.2.1).bind λa12=>some (!a12)).bind λY7=>if Y7=true then some true else((iH q0).bind λa15=>aH a15 (0:Int)).bind λa16=>(((iH q0).bind λa13=>aH a13 (-(1:Int))).bind λLw=>aH q1 Lw).bind λGd=>some (!decide (a16∈Gd))).bind λb=>if b=true then some false else(((jz q0).bind λa22=>(iH q0).bind λS5=>t_ a22 S5).bind λxs=>vK (λ(oZ:Unit) (x21:Int)=>if(!decide (x21∈q3))=true then(some false).bind λb=>some (.rt b) else some (.nx ())) xs ()).bind λo=>o.els λqR=>((some q2).bind λxs=>vK (λ(Gf:Unit) (x26:LI)=>((((iH q0).bind λxs=>yU (λ(x27:Int)=>some (decide (x27∈x26))) (λ(x27:Int)=>some x27) xs).bind λa28=>some (a28.length:Int)).bind λa29=>some (decide (a29=(0:Int)))).bind λb=>if b=true then(some false).bind λb=>some (.rt b) else some (.nx ())) xs ()).bind λo=>o.els λS6=>some true
theorem n8:ao ["_law_reason","_law_steps","_law_fair","_law_within","_law_start","_law_stand","_law_some"] ["_law_reason","_law_steps","_law_fair","_law_within","_law_start"] (zK lY):=fsc
abbrev zMk(K:PySem.W.Frag):Sp:=bV K false (λa:Lv×((List LI))×((List LI))×LI×Int×Unit=>([.z a.1,.z a.2.1,.z a.2.2.1,.z a.2.2.2.1,.z a.2.2.2.2.1]:SL K)) (λa=>Ot a.1 a.2.1 a.2.2.1 a.2.2.2.1 a.2.2.2.2.1)
theorem zPn(F:bH K "_law_loop" "_law_loop" lY f fd)(B:Bl K mg)(jN:bC P w K mg base k "_law_walk" ["_law_row","_law_steps","_law_start"] (zMi K)):aB P w K mg base aZ (k+1) f fd ["_law_reason","_law_steps","_law_fair","_law_within","_law_start"] (zMk K):=by
 refine yP F n8 (λ_=>rfl) (λ_=>rfl) λcdv A outer s H E hr=>?_
 have nd:=n8.nd
 refine⟨_,(zA (yT (PW.pt (pw_or (zX (wg K Str hr) (zY (bB K) (pv 0) zI (λ_ _=>rfl)) vD (yJ _)) (pw_or (zX (wg K Int hr) (zT (xT K) rfl B.len PySem.boot_len (zB (pv 0) zH)) zI (yJ _)) (pw_or1 (wW (wN (yC jN hr (zB (zY (bB K) (pv 0) zI (λ_ _=>rfl)) (zB (pv 1) (zB (pv 4) zH)))))))))) (zA (zS wS) zF) zF) (zA (yT (PW.pt (pw_or (wW (wN (yC jN hr (zB (zY (bB K) (pv 0) zI (λ_ _=>rfl)) (zB (pv 1) (zB (zY (aL K) (zY (bB K) (pv 0) zI (λ_ _=>rfl)) (CJ CQ zI) (λ_ _=>rfl)) zH)))))) (pw_or1 (zX (Kg K) (zY (aL K) (zY (bB K) (pv 0) zI (λ_ _=>rfl)) zI (λ_ _=>rfl)) (zY (aL K) (pv 1) (zY (aL K) (zY (bB K) (pv 0) zI (λ_ _=>rfl)) (CJ CQ zI) (λ_ _=>rfl)) (λ_ _=>rfl)) (by with_unfolding_all rfl))))) (zA (zS wS) zF) zF) (zA (yN PassesOwn.never rfl (yD K (zZ zUk (zY (bB K) (pv 0) zI (λ_ _=>rfl)) (zY (bB K) (pv 0) zI (λ_ _=>rfl)))) (bw 5 nd) (zA (yT (zX (Kg K) (pv 5) (pv 3) (by with_unfolding_all rfl)) (zA (zS wS) zF) zF) zF)) (zA (yN PassesOwn.never rfl (yD K (pv 2)) (bw 6 nd) (zA (yT (zX (uZ K Int hr) (zT (xT K) rfl B.len PySem.boot_len (zB (vP (own:=["_law_stand"]) (ix:=[6]) rfl rfl rfl (yD K (zY (bB K) (pv 0) zI (λ_ _=>rfl))) (λC s H fp=>yM (i:=0) (show(["_law_stand","_law_some"]:List Str).Nodup from by decide +kernel) rfl (Or.inl rfl)) (λC s H fp=>BR (zX (UL K) (pv 0) (pv 1) (by with_unfolding_all rfl))) (λC s H fp=>(pv 0))) zH)) zI (yJ _)) (zA (zS wS) zF) zF) zF)) (zA (zS wS) zF))))),?_⟩
 rintro Fa ⟨q0,q1,q2,q3,q4,⟨⟩⟩
 exact SB.of (su (pW (zU (md:=.hp) (wj (esc (R5 (zE 0 rfl) (zJ 0))) (Hv "loop"))) (pW (zU (md:=.hp) (wj (YG (zE 0 rfl)) (zJ 3))) (wY (bK (md:=.hp) (zN (zG (R7 (zE 0 rfl) (zJ 1)) (zG (zE 1 rfl) (zG (esc (zD 4 rfl)) zO)))))))) (yA (esc (vA false))) (su (pW (wY (bK (md:=.hp) (zN (zG (Lg (zE 0 rfl) (zJ 2)) (zG (zE 1 rfl) (zG (esc (esc (yS (R7 (zE 0 rfl) (zJ 1)) (Es (zJ 1))))) zO)))))) (zU (md:=.hp) (Kd (esc (yS (Lg (zE 0 rfl) (zJ 2)) (zJ 0))) (yS (zE 1 rfl) (esc (yS (Lg (zE 0 rfl) (zJ 2)) (Es (zJ 1)))))))) (yA (esc (vA false))) (Hx (HB (n:=true) (L:=(λoZ:Unit=>([.z q0,.z q1,.z q2,.z q3,.z q4,.un,.un]:SL K))) () aG (yE (zUt (R7 (zE 0 rfl) (zJ 1)) (Lg (zE 0 rfl) (zJ 2))).ex) (λoZ=>(zR 5 rfl rfl)) (λoZ x21=>(zx (zU (md:=.hp) (Kd (zD 5 rfl) (zE 3 rfl))) (yA (esc (vA false))) (v9 (λoZ:Unit=>([.z q0,.z q1,.z q2,.z q3,.z q4,.un,.un]:SL K)) () aG)))) (λqR=>(Hx (HB (n:=false) (L:=(λGf:Unit=>([.z q0,.z q1,.z q2,.z q3,.z q4,.un,.un]:SL K))) () aG (yE (yO 2 rfl)) (λGf=>(zR 6 rfl rfl)) (λGf x26=>(zx (zU (md:=.hp) (qM (wQ (xB (n:=false) (jQ:=[.un,.z x26]) (no:=1) (ix:=[6]) rfl rfl (yE (Lg (yO 0 rfl) (zJ 2))) (zR 0 rfl rfl) (λx27=>(zU (md:=.hp) (HJ (zD 0 rfl) (zE 1 rfl)))) (λx27=>(esc (zD 0 rfl))) (λx27=>dW)).ex) (zJ 0))) (yA (esc (vA false))) (v9 (λGf:Unit=>([.z q0,.z q1,.z q2,.z q3,.z q4,.un,.un]:SL K)) () aG)))) (λS6=>(yA (esc (vA true))))))))) (by unfold Ot;simp only[bnd])
def xU(q0:Lv)(q1:List LI):Option Bool:=(((Cj q0).bind λa1=>some (!decide (a1=("rank":Str)))).bind λc7=>if c7=true then some true else if(!decide ((3:Int)=(3:Int)))=true then some true else((((lQ q0).bind λa3=>some ((a3,()))).bind λz2=>uF z2.1).bind λa4=>some (!a4)).bind λc6=>if c6=true then some true else(lQ q0).bind λa5=>some (decide (a5<(0:Int)))).bind λb=>if b=true then some false else((jT q0).bind λa8=>some a8.isNone).bind λc15=>if c15=true then some true else((((jT q0).bind λa9=>a9).bind λa11=>some ((a11,()))).bind λSs=>uF Ss.1).bind λc14=>if c14=true then((jT q0).bind λa12=>a12).bind λOj=>if decide ((0:Int)<=Oj)=true then some (decide (Oj<(q1.length:Int))) else some false else some false
theorem jO:ao ["_law_reason","_law_fair"] ["_law_reason","_law_fair"] (zK gP):=fsc
abbrev Zw(K:PySem.W.Frag):Sp:=bV K false (λa:Lv×((List LI))×Unit=>([.z a.1,.z a.2.1]:SL K)) (λa=>xU a.1 a.2.1)
theorem zI5(F:bH K "_law_is_rank" "_law_is_rank" gP f fd)(B:Bl K mg)(cL:bC P w K mg base k "_law_whole" ["_law_found"] (Zh K)):aB P w K mg base aZ (k+1) f fd ["_law_reason","_law_fair"] (Zw K):=by
 refine yP F jO (λ_=>rfl) (λ_=>rfl) λcdv A outer s H E hr=>?_
 have nd:=jO.nd
 refine⟨_,(zA (yT (PW.pt (pw_or (zX (wg K Str hr) (zY (bB K) (pv 0) zI (λ_ _=>rfl)) vD (yJ _)) (pw_or (zX (wg K Int hr) (zT (xT K) rfl B.len PySem.boot_len (zB (pv 0) zH)) zI (yJ _)) (pw_or (wW (wN (yC cL hr (zB (zY (bB K) (pv 0) zI (λ_ _=>rfl)) zH)))) (pw_or1 (zX v7 (zY (bB K) (pv 0) zI (λ_ _=>rfl)) zI (yJ _))))))) (zA (zS wS) zF) zF) (zA (zS (Pr (Jp (Cy (zY (bB K) (pv 0) zI (λ_ _=>rfl)))) (M6 (M7 (yC cL hr (zB (zY (bB K) (pv 0) zI (λ_ _=>rfl)) zH)) (M6 (Wh Qd v7 zI (zY (bB K) (pv 0) zI (λ_ _=>rfl)) (zT (xT K) rfl B.len PySem.boot_len (zB (pv 1) zH)))))))) zF)),?_⟩
 rintro Fa ⟨q0,q1,⟨⟩⟩
 exact SB.of (su (pW (zU (md:=.hp) (wj (esc (R5 (zE 0 rfl) (zJ 0))) (Hv "rank"))) (pW (zU (md:=.hp) (wj (YG (zE 0 rfl)) (zJ 3))) (pW (wY (bK (md:=.hp) (zN (zG (esc (esc (Oh (zE 0 rfl) (zJ 1)))) zO)))) (zU (md:=.hp) (DN (esc (Oh (zE 0 rfl) (zJ 1))) (zJ 0)))))) (yA (esc (vA false))) (yA (esc (QJ (DQ (esc (Iv (zE 0 rfl) (zJ 2)))) (Nq (zN (zG (esc (tW (esc (Iv (zE 0 rfl) (zJ 2))))) zO)) (U5 (f:=(λi j=>decide (i<=j))) (g:=(λi j=>decide (i<j))) (zJ 0) (tW (esc (Iv (zE 0 rfl) (zJ 2)))) (wQ (zE 1 rfl)))))))) (by unfold xU;simp only[bnd])
def uI(q0:Lv)(q1:Lv)(q2:List LI)(q3:Int)(q4:Int):Option Bool:=(((xU q0 q2).bind λa1=>some (!a1)).bind λc3=>if c3=true then some true else(xU q1 q2).bind λa2=>some (!a2)).bind λb=>if b=true then some false else((lQ q1).bind λa4=>(lQ q0).bind λb5=>some (decide (a4<b5))).bind λb=>if b=true then some true else(((lQ q1).bind λa6=>(lQ q0).bind λb7=>some (!decide (a6=b7))).bind λc12=>if c12=true then some true else((jT q0).bind λa8=>some a8.isNone).bind λc11=>if c11=true then some true else(jT q1).bind λa9=>(jT q0).bind λb10=>some (!decide (a9=b10))).bind λb=>if b=true then some false else((((jT q0).bind λa13=>a13).bind λLw=>aH q2 Lw).bind λLR=>some (!decide (q3∈LR))).bind λc19=>if c19=true then(((jT q0).bind λa16=>a16).bind λGd=>aH q2 Gd).bind λBc=>some (!decide (q4∈Bc)) else some false
theorem mQ:ao ["_law_one","_law_other","_law_fair","_law_stand","_law_further"] ["_law_one","_law_other","_law_fair","_law_stand","_law_further"] (zK jZ):=fsc
abbrev zJ5(K:PySem.W.Frag):Sp:=bV K false (λa:Lv×Lv×((List LI))×Int×Int×Unit=>([.z a.1,.z a.2.1,.z a.2.2.1,.z a.2.2.2.1,.z a.2.2.2.2.1]:SL K)) (λa=>uI a.1 a.2.1 a.2.2.1 a.2.2.2.1 a.2.2.2.2.1)
theorem zM3(F:bH K "_law_falls" "_law_falls" jZ f fd)(B:Bl K mg)(bN:bC P w K mg base k "_law_is_rank" ["_law_reason","_law_fair"] (Zw K)):aB P w K mg base aZ (k+1) f fd ["_law_one","_law_other","_law_fair","_law_stand","_law_further"] (zJ5 K):=by
 refine yP F mQ (λ_=>rfl) (λ_=>rfl) λcdv A outer s H E hr=>?_
 have nd:=mQ.nd
 refine⟨_,(zA (yT (PW.pt (pw_or (wW (wN (yC bN hr (zB (pv 0) (zB (pv 2) zH))))) (pw_or1 (wW (wN (yC bN hr (zB (pv 1) (zB (pv 2) zH)))))))) (zA (zS wS) zF) zF) (zA (yT (zX v7 (zY (bB K) (pv 1) zI (λ_ _=>rfl)) (zY (bB K) (pv 0) zI (λ_ _=>rfl)) (yJ _)) (zA (zS wS) zF) zF) (zA (yT (PW.pt (pw_or (zX (wg K Int hr) (zY (bB K) (pv 1) zI (λ_ _=>rfl)) (zY (bB K) (pv 0) zI (λ_ _=>rfl)) (yJ _)) (pw_or (rR (Cy (zY (bB K) (pv 0) zI (λ_ _=>rfl)))) (pw_or1 (zX (wg K (Option Int) hr) (zY (bB K) (pv 1) zI (λ_ _=>rfl)) (zY (bB K) (pv 0) zI (λ_ _=>rfl)) (yJ _)))))) (zA (zS wS) zF) zF) (zA (zS (M7 (Qe (Kg K) (pv 3) (zY (aL K) (pv 2) (zY (bB K) (pv 0) zI (λ_ _=>rfl)) (λ_ _=>rfl)) (by with_unfolding_all rfl)) (M6 (Qe (Kg K) (pv 4) (zY (aL K) (pv 2) (zY (bB K) (pv 0) zI (λ_ _=>rfl)) (λ_ _=>rfl)) (by with_unfolding_all rfl))))) zF)))),?_⟩
 rintro Fa ⟨q0,q1,q2,q3,q4,⟨⟩⟩
 exact SB.of (su (pW (wY (bK (md:=.hp) (zN (zG (zE 0 rfl) (zG (zE 2 rfl) zO))))) (wY (bK (md:=.hp) (zN (zG (zE 1 rfl) (zG (zE 2 rfl) zO)))))) (yA (esc (vA false))) (su (zU (md:=.hp) (DN (esc (Oh (zE 1 rfl) (zJ 1))) (esc (Oh (zE 0 rfl) (zJ 1))))) (yA (esc (vA true))) (su (pW (zU (md:=.hp) (wj (esc (Oh (zE 1 rfl) (zJ 1))) (esc (Oh (zE 0 rfl) (zJ 1))))) (pW (bK (md:=.hp) (DQ (esc (Iv (zE 0 rfl) (zJ 2))))) (zU (md:=.hp) (wj (esc (Iv (zE 1 rfl) (zJ 2))) (esc (Iv (zE 0 rfl) (zJ 2))))))) (yA (esc (vA false))) (yA (esc (Nq (Kd (zD 3 rfl) (yS (zE 2 rfl) (tW (esc (Iv (zE 0 rfl) (zJ 2)))))) (Kd (zD 4 rfl) (yS (zE 2 rfl) (tW (esc (Iv (zE 0 rfl) (zJ 2)))))))))))) (by unfold uI;simp only[bnd])
def S7(q0:List Lv)(q1:List LI)(q2:List LI)(q3:Int):Option Bool:=((((aH q0 q3).bind λa2=>some ((a2,(q2,())))).bind λz1=>xU z1.1 z1.2.1).bind λa3=>some (!a3)).bind λb=>if b=true then some false else((aH q1 q3).bind λxs=>vK (λ(s4:Unit) (x6:Int)=>((((aH q0 q3).bind λa9=>((aH q0 x6).bind λa8=>some ((a8,(q2,(q3,(x6,())))))).bind λb10=>some (a9,b10)).bind λz7=>uI z7.1 z7.2.1 z7.2.2.1 z7.2.2.2.1 z7.2.2.2.2.1).bind λa11=>some (!a11)).bind λb=>if b=true then(some false).bind λb=>some (.rt b) else some (.nx ())) xs ()).bind λo=>o.els λs5=>some true
theorem kE:ao ["_law_found","_law_steps","_law_fair","_law_stand","_law_other"] ["_law_found","_law_steps","_law_fair","_law_stand"] (zK jg):=fsc
abbrev zGu(K:PySem.W.Frag):Sp:=bV K false (λa:(List Lv)×((List LI))×((List LI))×Int×Unit=>([.z a.1,.z a.2.1,.z a.2.2.1,.z a.2.2.2.1]:SL K)) (λa=>S7 a.1 a.2.1 a.2.2.1 a.2.2.2.1)
theorem zKp(F:bH K "_law_ranked" "_law_ranked" jg f fd)(B:Bl K mg)(j6:bC P w K mg base k "_law_falls" ["_law_one","_law_other","_law_fair","_law_stand","_law_further"] (zJ5 K))(bN:bC P w K mg base k "_law_is_rank" ["_law_reason","_law_fair"] (Zw K)):aB P w K mg base aZ (k+1) f fd ["_law_found","_law_steps","_law_fair","_law_stand"] (zGu K):=by
 refine yP F kE (λ_=>rfl) (λ_=>rfl) λcdv A outer s H E hr=>?_
 have nd:=kE.nd
 refine⟨_,(zA (yT (wW (wN (yC bN hr (zB (zY (aL K) (pv 0) (pv 3) (λ_ _=>rfl)) (zB (pv 2) zH))))) (zA (zS wS) zF) zF) (zA (yN PassesOwn.never rfl (yD K (zY (aL K) (pv 1) (pv 3) (λ_ _=>rfl))) (bw 4 nd) (zA (yT (wW (wN (yC j6 hr (zB (zY (aL K) (pv 0) (pv 3) (λ_ _=>rfl)) (zB (zY (aL K) (pv 0) (pv 4) (λ_ _=>rfl)) (zB (pv 2) (zB (pv 3) (zB (pv 4) zH)))))))) (zA (zS wS) zF) zF) zF)) (zA (zS wS) zF))),?_⟩
 rintro Fa ⟨q0,q1,q2,q3,⟨⟩⟩
 exact SB.of (su (wY (bK (md:=.hp) (zN (zG (yS (zE 0 rfl) (zD 3 rfl)) (zG (zE 2 rfl) zO))))) (yA (esc (vA false))) (Hx (HB (n:=false) (L:=(λs4:Unit=>([.z q0,.z q1,.z q2,.z q3,.un]:SL K))) () aG (yE (yS (yO 1 rfl) (zD 3 rfl))) (λs4=>(zR 4 rfl rfl)) (λs4 x6=>(zx (wY (bK (md:=.hp) (zN (zG (yS (zE 0 rfl) (zD 3 rfl)) (zG (yS (zE 0 rfl) (zD 4 rfl)) (zG (zE 2 rfl) (zG (esc (zD 3 rfl)) (zG (esc (zD 4 rfl)) zO)))))))) (yA (esc (vA false))) (v9 (λs4:Unit=>([.z q0,.z q1,.z q2,.z q3,.un]:SL K)) () aG)))) (λs5=>(yA (esc (vA true)))))) (by unfold S7;simp only[bnd])
def Ou(q0:List Lv)(q1:List LI)(q2:List LI):Option Bool:=(if(!true)=true then some true else some (!decide ((q0.length:Int)=(q1.length:Int)))).bind λb=>if b=true then some false else((some q0).bind λxs=>vK (λ(s1:Unit) (x3:Lv)=>(if(!true)=true then some true else if(!decide ((3:Int)=(3:Int)))=true then some true else((Cj x3).bind λ_=>some true).bind λa4=>some (!a4)).bind λb=>if b=true then(some false).bind λb=>some (.rt b) else some (.nx ())) xs ()).bind λo=>o.els λs2=>(Fo (q1.length:Int)).bind λjo=>((some jo).bind λxs=>vK (λ(s6:Unit) (x8:Int)=>(((((aH q0 x8).bind λa9=>Cj a9).bind λa10=>some (decide (a10=("loop":Str)))).bind λb=>if b=true then((((aH q0 x8).bind λa14=>some ((a14,(q1,(q2,(jo,(x8,()))))))).bind λuw=>Ot uw.1 uw.2.1 uw.2.2.1 uw.2.2.2.1 uw.2.2.2.2.1).bind λa15=>some (!a15)).bind λb=>if b=true then(some false).bind λb=>some (.rt b) else some (.nx ()) else((S7 q0 q1 q2 x8).bind λa16=>some (!a16)).bind λb=>if b=true then(some false).bind λb=>some (.rt b) else some (.nx ())):Option (Out Unit Bool)).bind λo=>o.aJ λbI=>some (.nx ())) xs ()).bind λo=>o.els λs7=>some true
theorem n_:ao ["_law_found","_law_steps","_law_fair","_law_reason","_law_every","_law_stand"] ["_law_found","_law_steps","_law_fair"] (zK lZ):=fsc
abbrev zMj(K:PySem.W.Frag):Sp:=bV K false (λa:(List Lv)×((List LI))×((List LI))×Unit=>([.z a.1,.z a.2.1,.z a.2.2.1]:SL K)) (λa=>Ou a.1 a.2.1 a.2.2.1)
theorem zPm(F:bH K "_law_told" "_law_told" lZ f fd)(B:Bl K mg)(Av:mg "str" = none)(rJ:mg "tuple" = none)(mR:bC P w K mg base k "_law_loop" ["_law_reason","_law_steps","_law_fair","_law_within","_law_start"] (zMk K))(jq:bC P w K mg base k "_law_ranked" ["_law_found","_law_steps","_law_fair","_law_stand"] (zGu K)):aB P w K mg base aZ (k+1) f fd ["_law_found","_law_steps","_law_fair"] (zMj K):=by
 refine yP F n_ (λ_=>rfl) (λ_=>rfl) λcdv A outer s H E hr=>?_
 have nd:=n_.nd
 refine⟨_,(zA (yT (PW.pt (pw_or (wW (wN (zT (Em K (Dt (n:="list"))) rfl B.B_ Ec (zB (pv 0) (zB (Cw (v:=.ty "list") rfl B.list Aa rfl) zH))))) (pw_or1 (zX (wg K Int hr) (zT (xT K) rfl B.len PySem.boot_len (zB (pv 0) zH)) (zT (xT K) rfl B.len PySem.boot_len (zB (pv 1) zH)) (yJ _))))) (zA (zS wS) zF) zF) (zA (yN PassesOwn.never rfl (yD K (pv 0)) (bw 3 nd) (zA (yT (PW.pt (pw_or (wW (wN (zT (Em K (Dt (n:="tuple"))) rfl B.B_ Ec (zB (pv 3) (zB (Cw (v:=.ty "tuple") rfl rJ zTx rfl) zH))))) (pw_or (zX (wg K Int hr) (zT (xT K) rfl B.len PySem.boot_len (zB (pv 3) zH)) zI (yJ _)) (pw_or1 (wW (wN (zT (Em K (Dt (n:="str"))) rfl B.B_ Ec (zB (zY (bB K) (pv 3) zI (λ_ _=>rfl)) (zB (Cw (v:=.ty "str") rfl Av zUz rfl) zH))))))))) (zA (zS wS) zF) zF) zF)) (zA (yF 4 nd (zLp rfl rfl B.list rfl B.range (zB (zT (xT K) rfl B.len PySem.boot_len (zB (pv 1) zH)) zH))) (zA (yN PassesOwn.never rfl (yD K (pv 4)) (bw 5 nd) (zA (yT (zX (uZ K Str hr) (zY (bB K) (zY (aL K) (pv 0) (pv 5) (λ_ _=>rfl)) zI (λ_ _=>rfl)) vD (yJ _)) (zA (yT (wW (wN (yC mR hr (zB (zY (aL K) (pv 0) (pv 5) (λ_ _=>rfl)) (zB (pv 1) (zB (pv 2) (zB (pv 4) (zB (pv 5) zH)))))))) (zA (zS wS) zF) zF) zF) (zA (yT (wW (wN (yC jq hr (zB (pv 0) (zB (pv 1) (zB (pv 2) (zB (pv 5) zH))))))) (zA (zS wS) zF) zF) zF)) zF)) (zA (zS wS) zF))))),?_⟩
 rintro Fa ⟨q0,q1,q2,⟨⟩⟩
 exact SB.of (su (pW (wY (bK (md:=.hp) (DY B.ll rfl (zE 0 rfl)))) (zU (md:=.hp) (wj (wQ (zE 0 rfl)) (wQ (zE 1 rfl))))) (yA (esc (vA false))) (Hx (HB (n:=false) (L:=(λs1:Unit=>([.z q0,.z q1,.z q2,.un,.un,.un]:SL K))) () aG (yE (yO 0 rfl)) (λs1=>(zR 3 rfl rfl)) (λs1 x3=>(zx (pW (wY (bK (md:=.hp) (DY Ry rfl (zE 3 rfl)))) (pW (zU (md:=.hp) (wj (YG (zE 3 rfl)) (zJ 3))) (wY (bK (md:=.hp) (DY Ib rfl (esc (R5 (zE 3 rfl) (zJ 0)))))))) (yA (esc (vA false))) (v9 (λs1:Unit=>([.z q0,.z q1,.z q2,.un,.un,.un]:SL K)) () aG)))) (λs2=>(zM (yB true 4 rfl rfl (zL7 (wQ (zE 1 rfl))).ex) (λjo=>(Hx (HB (n:=true) (L:=(λs6:Unit=>([.z q0,.z q1,.z q2,.un,.y jo,.un]:SL K))) () aG (yE (yO 4 rfl)) (λs6=>(zR 5 rfl rfl)) (λs6 x8=>(zLf (Hz (zU (md:=.hp) (qM (esc (R5 (yS (zE 0 rfl) (zD 5 rfl)) (zJ 0))) (Hv "loop"))) (zx (wY (bK (md:=.hp) (zN (zG (yS (zE 0 rfl) (zD 5 rfl)) (zG (zE 1 rfl) (zG (zE 2 rfl) (zG (zE 4 rfl) (zG (esc (zD 5 rfl)) zO)))))))) (yA (esc (vA false))) (v9 (λs12:Unit=>([.z q0,.z q1,.z q2,.un,.y jo,.y x8]:SL K)) () aG)) (zx (wY (bK (md:=.hp) (zN (zG (zE 0 rfl) (zG (zE 1 rfl) (zG (zE 2 rfl) (zG (esc (zD 5 rfl)) zO))))))) (yA (esc (vA false))) (v9 (λs12:Unit=>([.z q0,.z q1,.z q2,.un,.y jo,.y x8]:SL K)) () aG))) (λbI=>(v9 (λs6:Unit=>([.z q0,.z q1,.z q2,.un,.y jo,.un]:SL K)) () aG))))) (λs7=>(yA (esc (vA true)))))))))) (by unfold Ou;simp only[bnd])
end
end Ts
set_option maxHeartbeats 40000000
namespace Ts
open PySem L2
section
variable{P:Program}{w:World}{K:PySem.W.Frag}{mg:Str->Option Value}{base:Heap}
def Vy(C:Addr)(q0:tQ):Option Bool:=(((wH q0 (0:Int)).bind λa3=>some ((a3,()))).bind λz2=>uH z2.1).bind λmany1=>(uG q0 many1).bind λcG=>(((wH q0 (1:Int)).bind λa7=>some ((a7,(many1,())))).bind λz6=>vT z6.1 z6.2.1).bind λfj=>(wH q0 (2:Int)).bind λcV=>((wF (3:Int)).bind λxs=>yU (λ(x10:Int)=>some true) (λ(x10:Int)=>((iD cV (36:Int)).bind λa14=>some ((a14,(x10,())))).bind λuw=>wT uw.1 uw.2.1) xs).bind λnames9=>((wF (2:Int)).bind λxs=>yU (λ(oY:Int)=>some true) (λ(oY:Int)=>(((((((iD cV (6:Int)).bind λa17=>some (a17+oY)).bind λa18=>bT a18 (6:Int)).bind λZm=>aH ([(3:Int),(5:Int),(1:Int),(4:Int),(2:Int),(6:Int)]) Zm).bind λa21=>some ((a21,()))).bind λZi=>some (many1,Zi)).bind λS5=>some (cV+oY,S5)).bind λOq=>SX Oq.1 Oq.2.1 Oq.2.2.1) xs).bind λeN=>((wF (2:Int)).bind λxs=>yU (λ(x25:Int)=>some true) (λ(x25:Int)=>(aH names9 x25).bind λa26=>(aH eN x25).bind λMj=>some (a26,Mj)) xs).bind λdR=>(((some cG).bind λxs=>yU (λ(x29:LI)=>some true) (λ(x29:LI)=>some x29) xs).bind λa31=>((some fj).bind λxs=>yU (λ(x30:LI)=>some true) (λ(x30:LI)=>some x30) xs).bind λa32=>Sq C a31 (some dR) (some a32)).bind λcN=>((wF (2:Int)).bind λxs=>vK (λ(Vz:Unit) (x35:Int)=>(SN cN).bind λcR=>((Ou cR.xs cG fj).bind λa37=>some (!a37)).bind λb=>if b=true then(some false).bind λb=>some (.rt b) else((wF many1).bind λxs=>yU (λ(x39:Int)=>((aH cR.xs x39).bind λa40=>Cj a40).bind λa41=>some (decide (a41=("loop":Str)))) (λ(x39:Int)=>some x39) xs).bind λdU=>((if(!decide (dU=([]:LI)))=true then((bT cV (dU.length:Int)).bind λS8=>aH dU S8).bind λh_=>((some dU).bind λxs=>yU (λ(x47:Int)=>some (!decide (x47=h_))) (λ(x47:Int)=>((aH cR.xs x47).bind λa48=>jz a48).bind λa50=>((aH cR.xs x47).bind λa49=>iH a49).bind λGg=>some (a50,Gg)) xs).bind λj7=>(Iw cR h_).bind λOv=>(Iz Ov h_ many1).bind λsW=>(((some dU).bind λxs=>yU (λ(x54:Int)=>some (!decide (x54=h_))) (λ(x54:Int)=>((aH sW.xs x54).bind λa55=>jz a55).bind λa57=>((aH sW.xs x54).bind λa56=>iH a56).bind λMl=>some (a57,Ml)) xs).bind λS9=>some (!decide (j7=S9))).bind λb=>if b=true then(some false).bind λb=>some (.rt b) else some (.nx sW) else some (.nx cR)):Option (Out b_ Bool)).bind λo=>o.aJ λs42=>(some (b_.mk [])).bind λGh=>some (.nx ())) xs ()).bind λo=>o.els λs34=>some true
theorem Bu:ao ["_law_script","_law_many","_law_steps","_law_fair","_law_cell","_law_names","_law_sets","_law_marks","_law_machine","_law_turn","_law_found","_law_loops","_law_at","_law_kept"] ["_law_script"] (zK nQ):=fsc
abbrev S_(K:PySem.W.Frag)(C:Addr):Sp:=bV K false (λa:tQ×Unit=>([.z a.1]:SL K)) (λa=>Vy C a.1)
theorem Mp(F:bH K "law" "law" nQ f fd)(B:Bl K mg)(T:Cl K mg C)(MK:Mk K C fI)(GI:aB P w K mg base aZ k0 fI VB ["self","steps","marks","fair"] (Rj K C (Sq C)))(Zx:Binds K VB ["self","steps","marks","fair"] [])(aY:bC P w K mg base (k0+1) "_law_cell_at" ["_law_script","_law_k"] (Zg K))(ig:bC P w K mg base (k0+1) "_law_fair_by" ["_law_cell","_law_many"] (zFt K))(jr:bC P w K mg base (k0+1) "_law_set_by" ["_law_cell","_law_many","_law_way"] (zGt K))(fV:bC P w K mg base (k0+1) "_law_small_by" ["_law_cell"] (zD5 K))(fX:bC P w K mg base (k0+1) "_law_steps_by" ["_law_script","_law_many"] (zD4 K))(mU:bC P w K mg base (k0+1) "_law_told" ["_law_found","_law_steps","_law_fair"] (zMj K))(iu:bC P w K mg base (k0+1) "_law_word_by" ["_law_cell","_law_k"] (zFr K))(pD:bC P w K mg base (k0+1) "lives" ["machine"] (spT tA jU (zRr K C))):aB P w K mg base aZ ((k0+1)+1) f fd ["_law_script"] (spT tA jU (S_ K C)):=by
 refine Oa F Bu (λ_=>rfl) (λ_=>rfl) λcdv A outer s H E hr hcd=>?_
 have nd:=Bu.nd
 refine⟨_,(zA (yF 1 nd (yC fV hr (zB (yC aY hr (zB (pv 0) (zB zI zH))) zH))) (zA (yF 2 nd (yC fX hr (zB (pv 0) (zB (pv 1) zH)))) (zA (yF 3 nd (yC ig hr (zB (yC aY hr (zB (pv 0) (zB zI zH))) (zB (pv 1) zH)))) (zA (yF 4 nd (yC aY hr (zB (pv 0) (zB zI zH)))) (zA (yF 5 nd (vP (own:=["_law_k"]) (ix:=[4]) rfl rfl rfl (yL rfl B.range (zB zI zH)) (λC s H fp=>yM (i:=0) (show(["_law_k","_law_cell"]:List Str).Nodup from by decide +kernel) rfl (Or.inl rfl)) (λC s H fp=>vO) (λC s H fp=>(yC iu hr (zB (zZ uY (pv 1) zI) (zB (pv 0) zH)))))) (zA (yF 6 nd (vP (own:=["_law_k"]) (ix:=[4,1]) rfl rfl rfl (yL rfl B.range (zB zI zH)) (λC s H fp=>yM (i:=0) (show(["_law_k","_law_cell","_law_many"]:List Str).Nodup from by decide +kernel) rfl (Or.inl rfl)) (λC s H fp=>vO) (λC s H fp=>(yC jr hr (zB (zZ xL (pv 1) (pv 0)) (zB (pv 2) (zB (zY (aL K) (wO (zB zI (zB zI (zB zI (zB zI (zB zI (zB zI zH))))))) (zZ wI (zZ xL (zZ uY (pv 1) zI) (pv 0)) zI) (λ_ _=>rfl)) zH))))))) (zA (BW (i:=7) (own:=["_law_k"]) (ix:=[5,6]) nd rfl rfl rfl rfl rfl (yL rfl B.range (zB zI zH)) (λC s H fp=>yM (i:=0) (show(["_law_k","_law_names","_law_sets"]:List Str).Nodup from by decide +kernel) rfl (Or.inl rfl)) (λC s H fp=>vO) (λC s H fp=>(Dd (zB (zY (aL K) (pv 1) (pv 0) (λ_ _=>rfl)) (zB (wP (Ek K) rfl B.list Aa (zB (zY (aL K) (pv 2) (pv 0) (λ_ _=>rfl)) zH)) zH))))) (zA (yF 8 nd (Dh MK GI hr rfl T.mgC Zx .nil Uo (zB (vP (own:=["_law_row"]) (ix:=[]) rfl rfl rfl (yD K (pv 2)) (λC s H fp=>yM (i:=0) (show(["_law_row"]:List Str).Nodup from by decide +kernel) rfl (Or.inl rfl)) (λC s H fp=>vO) (λC s H fp=>(wP (Ek K) rfl B.list Aa (zB (pv 0) zH)))) (zB (pv 7) (zB (vP (own:=["_law_some"]) (ix:=[]) rfl rfl rfl (yD K (pv 3)) (λC s H fp=>yM (i:=0) (show(["_law_some"]:List Str).Nodup from by decide +kernel) rfl (Or.inl rfl)) (λC s H fp=>vO) (λC s H fp=>(wP (Ek K) rfl B.list Aa (zB (pv 0) zH)))) zH))))) (zA (yN PassesOwn.never rfl (yL rfl B.range (zB zI zH)) (bw 9 nd) (zA (yF 10 nd (yC pD hr (zB (pv 8) zH))) (zA (yT (wW (wN (yC mU hr (zB (pv 10) (zB (pv 2) (zB (pv 3) zH)))))) (zA (zS wS) zF) zF) (zA (BW (i:=11) (own:=["_law_k"]) (ix:=[10]) nd rfl rfl rfl rfl rfl (yL rfl B.range (zB (pv 1) zH)) (λC s H fp=>yM (i:=0) (show(["_law_k","_law_found"]:List Str).Nodup from by decide +kernel) rfl (Or.inl rfl)) (λC s H fp=>BR (zX (uZ K Str hr) (zY (bB K) (zY (aL K) (pv 1) (pv 0) (λ_ _=>rfl)) zI (λ_ _=>rfl)) vD (yJ _))) (λC s H fp=>(pv 0))) (zA (yT (zX (wg K LI hr) (pv 11) (wO zH) (yJ _)) (zA (yF 12 nd (zY (aL K) (pv 11) (zZ wI (pv 4) (zT (xT K) rfl B.len PySem.boot_len (zB (pv 11) zH))) (λ_ _=>rfl))) (zA (BW (i:=13) (own:=["_law_k"]) (ix:=[10,12]) nd rfl rfl rfl rfl rfl (yD K (pv 11)) (λC s H fp=>yM (i:=0) (show(["_law_k","_law_found","_law_at"]:List Str).Nodup from by decide +kernel) rfl (Or.inl rfl)) (λC s H fp=>BR (zX (wg K Int hr) (pv 0) (pv 2) (yJ _))) (λC s H fp=>(Dd (zB (wP (Ek K) rfl B.list Aa (zB (zY (bB K) (zY (aL K) (pv 1) (pv 0) (λ_ _=>rfl)) zI (λ_ _=>rfl)) zH)) (zB (wP (Ek K) rfl B.list Aa (zB (zY (bB K) (zY (aL K) (pv 1) (pv 0) (λ_ _=>rfl)) zI (λ_ _=>rfl)) zH)) zH))))) (zA (yY (zUj K PySem.F.plainAttrs_list PySem.F.slot_list_clear PySem.F.type_list_clear zLy (zY (bB K) (zY (aL K) (pv 10) (pv 12) (λ_ _=>rfl)) zI (λ_ _=>rfl)))) (zA (yY (sE K PySem.F.plainAttrs_list PySem.F.slot_list_append PySem.F.type_list_append xM (zY (bB K) (zY (aL K) (pv 10) (pv 12) (λ_ _=>rfl)) zI (λ_ _=>rfl)) (zB (pv 1) zH))) (zA (yT (zX (wg K (List (LI×LI)) hr) (pv 13) (vP (own:=["_law_k"]) (ix:=[10,12]) rfl rfl rfl (yD K (pv 11)) (λC s H fp=>yM (i:=0) (show(["_law_k","_law_found","_law_at"]:List Str).Nodup from by decide +kernel) rfl (Or.inl rfl)) (λC s H fp=>BR (zX (wg K Int hr) (pv 0) (pv 2) (yJ _))) (λC s H fp=>(Dd (zB (zY (bB K) (zY (aL K) (pv 1) (pv 0) (λ_ _=>rfl)) zI (λ_ _=>rfl)) (zB (zY (bB K) (zY (aL K) (pv 1) (pv 0) (λ_ _=>rfl)) zI (λ_ _=>rfl)) zH))))) (yJ _)) (zA (zS wS) zF) zF) zF))))) zF) (zA (yY (zUj K PySem.F.plainAttrs_list PySem.F.slot_list_clear PySem.F.type_list_clear zLy (pv 10))) zF)))))) (zA (zS wS) zF)))))))))),?_⟩
 rintro Fa tb ⟨q0,⟨⟩⟩
 exact SB.of (zM (yB true 1 rfl rfl (esc (zN (zG (esc (zN (zG (zE 0 rfl) (zG (esc (zJ 0)) zO)))) zO)))) (λmany1=>(Aj [.z q0,.y many1,.un,.un,.un,.un,.un,.un,.un,.un,.un,.un,.un,.un] (zM (yB true 2 rfl rfl (zN (zG (zE 0 rfl) (zG (esc (zD 1 rfl)) zO)))) (λcG=>(Aj [.z q0,.y many1,.y cG,.un,.un,.un,.un,.un,.un,.un,.un,.un,.un,.un] (zM (yB true 3 rfl rfl (zN (zG (esc (zN (zG (zE 0 rfl) (zG (esc (zJ 1)) zO)))) (zG (esc (zD 1 rfl)) zO)))) (λfj=>(Aj [.z q0,.y many1,.y cG,.y fj,.un,.un,.un,.un,.un,.un,.un,.un,.un,.un] (zM (yB true 4 rfl rfl (esc (zN (zG (zE 0 rfl) (zG (esc (zJ 2)) zO))))) (λcV=>(Aj [.z q0,.y many1,.y cG,.y fj,.y cV,.un,.un,.un,.un,.un,.un,.un,.un,.un] (zM (yB true 5 rfl rfl (xB (n:=true) (jQ:=[.un,.y cV]) (no:=1) (ix:=[4]) rfl rfl (yW (zJ 3)) (zR 0 rfl rfl) (λx10=>wu) (λx10=>(esc (zN (zG (esc (z_ (zD 1 rfl) (zJ 36))) (zG (esc (zD 0 rfl)) zO))))) (λx10=>dW)).ex) (λnames9=>(Aj [.z q0,.y many1,.y cG,.y fj,.y cV,.y names9,.un,.un,.un,.un,.un,.un,.un,.un] (zM (yB true 6 rfl rfl (xB (n:=true) (jQ:=[.un,.y cV,.y many1]) (no:=1) (ix:=[4,1]) rfl rfl (yW (zJ 2)) (zR 0 rfl rfl) (λoY=>wu) (λoY=>(zN (zG (esc (xO (zD 1 rfl) (zD 0 rfl))) (zG (esc (zD 2 rfl)) (zG (esc (esc (yS (J5 (wM (esc (zJ 3)) (wM (esc (zJ 5)) (wM (esc (zJ 1)) (wM (esc (zJ 4)) (wM (esc (zJ 2)) (wM (esc (zJ 6)) J4)))))) (λa h=>Nat.le_trans ((uN (uN (uN (uN (uN (uN Ko)))))) a h) (by decide))).ex (wJ (xO (z_ (zD 1 rfl) (zJ 6)) (zD 0 rfl)) (zJ 6))))) zO))))) (λoY=>dW)).ex) (λeN=>(Aj [.z q0,.y many1,.y cG,.y fj,.y cV,.y names9,.y eN,.un,.un,.un,.un,.un,.un,.un] (zM (yB true 7 rfl rfl (xB (n:=true) (jQ:=[.un,.y names9,.y eN]) (no:=1) (ix:=[5,6]) rfl rfl (yW (zJ 2)) (zR 0 rfl rfl) (λx25=>wu) (λx25=>(QL (esc (yS (zE 1 rfl) (zD 0 rfl))) (uS (yS (zE 2 rfl) (zD 0 rfl))).ex)) (λx25=>dW)).ex) (λdR=>(Aj [.z q0,.y many1,.y cG,.y fj,.y cV,.y names9,.y eN,.y dR,.un,.un,.un,.un,.un,.un] (zM (yB true 8 rfl rfl (zQx (xB (n:=true) (jQ:=[.un]) (no:=1) (ix:=[]) rfl rfl (yE (yO 2 rfl)) (zR 0 rfl rfl) (λx29=>wu) (λx29=>(uS (zE 0 rfl)).ex) (λx29=>dW)).ex (zE 7 rfl) (xB (n:=true) (jQ:=[.un]) (no:=1) (ix:=[]) rfl rfl (yE (yO 3 rfl)) (zR 0 rfl rfl) (λx30=>wu) (λx30=>(uS (zE 0 rfl)).ex) (λx30=>dW)).ex).ex) (λcN=>(Aj [.z q0,.y many1,.y cG,.y fj,.y cV,.y names9,.y eN,.y dR,.y cN,.un,.un,.un,.un,.un] (Hx (HB (n:=true) (L:=(λVz:Unit=>([.z q0,.y many1,.y cG,.y fj,.y cV,.y names9,.y eN,.y dR,.y cN,.un,.un,.un,.un,.un]:SL K))) () aG (yW (zJ 2)) (λVz=>(zR 9 rfl rfl)) (λVz x35=>(J6 (FN 10 rfl rfl rfl (YQ tb (zG (zE 8 rfl) zO))) (λcR=>(zx (wY (bK (md:=.hp) (zN (zG (zTk 10 rfl) (zG (zE 2 rfl) (zG (zE 3 rfl) zO)))))) (yA (esc (vA false))) (J6 (yB true 11 rfl rfl (YH 10 rfl (xB (n:=true) (jQ:=[.un,.hs (cR.xs:List Lv)]) (no:=1) (ix:=[10]) rfl rfl (yW (zD 1 rfl)) (zR 0 rfl rfl) (λx39=>(zU (md:=.hp) (qM (esc (R5 (yS (QG 1 rfl) (zD 0 rfl)) (zJ 0))) (Hv "loop")))) (λx39=>(esc (zD 0 rfl))) (λx39=>dW))).ex) (λdU=>(zLf (Hz (zU (md:=.hp) (wj (zE 11 rfl) (v8 (α:=Int)).ex)) (J6 (yB true 12 rfl rfl (esc (esc (yS (zE 11 rfl) (wJ (zD 4 rfl) (wQ (zE 11 rfl))))))) (λh_=>(J6 (yB true 13 rfl rfl (YH 10 rfl (xB (n:=true) (jQ:=[.un,.hs (cR.xs:List Lv),.y h_]) (no:=1) (ix:=[10,12]) rfl rfl (yE (yO 11 rfl)) (zR 0 rfl rfl) (λx47=>(zU (md:=.hp) (wj (zD 0 rfl) (zD 2 rfl)))) (λx47=>(QL (uS (R7 (yS (QG 1 rfl) (zD 0 rfl)) (zJ 1))).ex (uS (Lg (yS (QG 1 rfl) (zD 0 rfl)) (zJ 2))).ex)) (λx47=>dW))).ex) (λj7=>(J6 (zOm 10 rfl rfl (zD 12 rfl) (zJ 1)) (λOv=>(J6 (zOn 10 rfl rfl (zD 12 rfl) (zJ 2) (zD 1 rfl)) (λsW=>(zx (zU (md:=.hp) (wj (zE 13 rfl) (YH 10 rfl (xB (n:=true) (jQ:=[.un,.hs (sW.xs:List Lv),.y h_]) (no:=1) (ix:=[10,12]) rfl rfl (yE (yO 11 rfl)) (zR 0 rfl rfl) (λx54=>(zU (md:=.hp) (wj (zD 0 rfl) (zD 2 rfl)))) (λx54=>(QL (R7 (yS (QG 1 rfl) (zD 0 rfl)) (zJ 1)) (Lg (yS (QG 1 rfl) (zD 0 rfl)) (zJ 2)))) (λx54=>dW))).ex)) (yA (esc (vA false))) (v9 (λZy:b_=>([.z q0,.y many1,.y cG,.y fj,.y cV,.y names9,.y eN,.y dR,.y cN,.y x35,.ob true (Zy:b_),.y dU,.un,.un]:SL K)) sW aG)))))))))) (v9 (λZy:b_=>([.z q0,.y many1,.y cG,.y fj,.y cV,.y names9,.y eN,.y dR,.y cN,.y x35,.ob true (Zy:b_),.y dU,.un,.un]:SL K)) cR aG)) (λs42=>(J6 (zSa 10 rfl rfl) (λGh=>(v9 (λVz:Unit=>([.z q0,.y many1,.y cG,.y fj,.y cV,.y names9,.y eN,.y dR,.y cN,.un,.un,.un,.un,.un]:SL K)) () aG)))))))))))) (λs34=>(yA (esc (vA true))))))))))))))))))))))))))))) (by unfold Vy;simp only[bnd])
end
theorem VD(xg:tQ)(h:0<=k):W (wH xg k) λ_=>True:=by
 unfold wH
 rw[w5]
 refine⟨λq=>?_,λ_=>aj.mpr trivial⟩
 have q:k<(xg.ns.length:Int):=by simpa using q
 rw[fB h]
 exact⟨_,List.getElem?_eq_getElem (by omega),trivial⟩
theorem Gi(c:Int)(h0:0<=k)(h1:k<=1000000):W (vR c k) λr=>0<=r/\r<99989:=by
 unfold vR
 simp only[zC,UW,pZ,aj]
 refine⟨.inl ⟨by decide,by decide⟩,.inr ⟨by omega,by omega⟩,.inl ⟨by decide,by decide⟩,by decide,.inl ⟨?_,?_⟩,by decide,?_,?_⟩
 ·have:=Int.emod_nonneg (c*(48271+2*k)+7919*k+5) (show(99991:Int)≠0 by decide)
  omega
 ·have:=Int.emod_lt_of_pos (c*(48271+2*k)+7919*k+5) (show(0:Int)<99991 by decide)
  omega
 ·exact Int.emod_nonneg _ (by decide)
 ·exact Int.emod_lt_of_pos _ (by decide)
theorem Tc(c:Int)(w:Int)(h0:0<=n)(h1:n<=60):W (SX c n w) (eY n):=by
 unfold SX
 simp only[zC,pZ,Ac,aj,w5]
 refine⟨⟨by decide,by decide⟩,by decide,λ_=>?_,λ_=>?_⟩
 all_goals simp only[xZ]
 ·refine⟨⟨by omega,by omega⟩,xE (λ_ _=>True) trivial (λi x s _ _=>?_) λs _=>?_⟩
  ·simp only[zC,Ac,aj]
   exact⟨⟨by decide,by decide⟩,trivial⟩
  ·refine⟨⟨by omega,by omega⟩,xE (λi s=>eY i s.1/\s.1.length<=i) ⟨Xq,Nat.le_refl _⟩ (λi x s hi hI=>?_) λs hI=>?_⟩
   ·obtain⟨rfl,hx⟩:=wz hi
    simp only[zC,Ac,U0,pZ,aj,w5,Ca]
    refine(Gi c (by omega) (by omega)).imp λr _=>⟨⟨by decide,by decide,by decide⟩,λ_=>?_,λ_=>?_⟩
    all_goals exact⟨by decide,λ_=>⟨yH (by omega),⟨by decide,by decide⟩,Xr hI.1 (by omega) (by omega),by rw[length_append];exact Nat.succ_le_succ hI.2⟩,λ_=>⟨⟨by decide,by decide⟩,Xu hI.1 (by omega),by omega⟩⟩
   ·have e:=wG h0
    rw[e] at hI
    exact hI.1
 ·refine⟨⟨by omega,by omega⟩,xE (λi s=>eY i s.1/\s.1.length<=i) ⟨Xq,Nat.le_refl _⟩ (λi x s hi hI=>?_) λs hI=>?_⟩
  ·obtain⟨rfl,hx⟩:=wz hi
   simp only[zC,Ac,U0,pZ,aj,w5,Ca]
   refine(Gi c (by omega) (by omega)).imp λr _=>⟨⟨by decide,by decide,by decide⟩,λ_=>?_,λ_=>?_⟩
   all_goals exact⟨by decide,λ_=>⟨yH (by omega),⟨by decide,by decide⟩,Xr hI.1 (by omega) (by omega),by rw[length_append];exact Nat.succ_le_succ hI.2⟩,λ_=>⟨⟨by decide,by decide⟩,Xu hI.1 (by omega),by omega⟩⟩
  ·have e:=wG h0
   rw[e] at hI
   exact hI.1
def I8(n:Int)(xs:LI):Prop:=xs≠[]/\xs.Nodup/\xs.length<=3/\∀z∈xs,0<=z/\z<n
theorem Gj(xg:tQ)(h0:1<=n)(h1:n<=60):W (uG xg n) λxss=>(xss.length:Int)=n/\∀xs∈xss,I8 n xs:=by
 unfold uG
 simp only[zC,aj,xZ]
 refine⟨⟨by omega,by omega⟩,xE (λi s=>s.length=i/\∀xs∈s,I8 n xs) ⟨rfl,λxs h=>by cases h⟩ (λi x s hi hI=>?_) λs hI=>?_⟩
 ·obtain⟨rfl,hx⟩:=wz hi
  simp only[zC,aj,xZ,pZ,Ca]
  refine⟨by omega,?_⟩
  have hm:=Int.emod_nonneg (i:Int) (show max (1:Int) ((xg.ns.length:Int)-4)≠0 by omega)
  refine(VD xg (by omega)).imp λcell _=>(Gi cell (by omega) (by omega)).imp λr hr=>?_
  refine⟨by decide,⟨by omega,by omega⟩,xE (λj row=>(j=0->row=[])/\(0<j->row≠[])/\row.Nodup/\row.length<=j/\∀z∈row,0<=z/\z<n) ⟨λ_=>rfl,λh=>by omega,nodup_nil,Nat.le_refl _,λz h=>by cases h⟩ (λj y row hj sX=>?_) λrow sX=>?_⟩
  ·obtain⟨rfl,hy⟩:=wz hj
   simp only[zC,aj,pZ,UW,w5,Ca]
   refine⟨.inl ⟨by decide,by decide⟩,(Gi _ (by omega) (by omega)).imp λo _=>⟨by omega,(Gi _ (by omega) (by omega)).imp λr2 _=>⟨by decide,λ_=>?_,λ_=>?_⟩⟩⟩
   ·have z0:=Int.emod_nonneg ((i:Int)+1) (show n≠0 by omega)
    have z1:=Int.emod_lt_of_pos ((i:Int)+1) (show 0<n by omega)
    refine⟨by omega,λq=>⟨yH (by omega),by omega,λ_=>by simp,?_,by rw[length_append];exact Nat.succ_le_succ sX.2.2.2.1,?_⟩,λq=>?_⟩
    ·rw[nodup_append]
     refine⟨sX.2.2.1,by simp,λa ha b hb e=>?_⟩
     rw[mem_singleton.mp hb] at e
     subst e
     simp at q
     exact q ha
    ·intro z hz
     rcases mem_append.mp hz with hz|hz
     ·exact sX.2.2.2.2 z hz
     ·rw[mem_singleton.mp hz];exact⟨z0,z1⟩
    ·simp at q
     exact⟨by omega,λ_ e=>(by rw[e] at q;cases q),sX.2.2.1,by omega,sX.2.2.2.2⟩
   ·have z0:=Int.emod_nonneg o (show n≠0 by omega)
    have z1:=Int.emod_lt_of_pos o (show 0<n by omega)
    refine⟨λq=>⟨yH (by omega),by omega,λ_=>by simp,?_,by rw[length_append];exact Nat.succ_le_succ sX.2.2.2.1,?_⟩,λq=>?_⟩
    ·rw[nodup_append]
     refine⟨sX.2.2.1,by simp,λa ha b hb e=>?_⟩
     rw[mem_singleton.mp hb] at e
     subst e
     simp at q
     exact q ha
    ·intro z hz
     rcases mem_append.mp hz with hz|hz
     ·exact sX.2.2.2.2 z hz
     ·rw[mem_singleton.mp hz];exact⟨z0,z1⟩
    ·simp at q
     exact⟨by omega,λ_ e=>(by rw[e] at q;cases q),sX.2.2.1,by omega,sX.2.2.2.2⟩
  ·have e:((rng (1+r%3)).length:Int)=1+r%3:=wG (by omega)
   refine⟨yH (by omega),by rw[length_append,hI.1]<;>rfl,λxs hxs=>?_⟩
   rcases mem_append.mp hxs with q|q
   ·exact hI.2 xs q
   ·rw[mem_singleton.mp q]
    exact⟨sX.2.1 (by omega),sX.2.2.1,by omega,sX.2.2.2.2⟩
 ·have e:=wG (n:=n) (by omega)
  exact⟨by rw[hI.1];exact e,hI.2⟩
structure Gr{C:Addr}(m:aD C)(n:Int):Prop where
 len:(m.steps.length:Int)=n
 pos:1<=n
 few:n<=60
 row:∀xs∈m.steps,xs≠[]/\xs.Nodup/\∀z∈xs,0<=z/\z<n
 src:m.sources=srcs m.steps
def nxt(xss:List LI)(s:Int):LI:=xss.getD s.toNat []
theorem Gk:x∈src xss j↔0<=x/\x<(xss.length:Int)/\(j:Int)∈nxt xss x:=by
 unfold src nxt
 rw[mem_map]
 constructor
 ·rintro⟨k,h,rfl⟩
  rw[mem_filter,mem_range] at h
  have h2:=of_decide_eq_true h.2
  exact⟨Int.natCast_nonneg _,by show(k:Int)<_;omega,h2⟩
 ·intro⟨h0,h1,h2⟩
  refine⟨x.toNat,?_,by show((x.toNat:Nat):Int)=x;omega⟩
  rw[mem_filter,mem_range]
  exact⟨by omega,decide_eq_true h2⟩
theorem Td{C:Addr}{m:aD C}(g:Gr m n):yR m=some n:=by
 unfold yR
 rw[g.len]
theorem zRy{C:Addr}{m:aD C}(g:Gr m n)(h0:0<=s)(h1:s<n):W (wA m s) λxs=>∀x,x∈xs↔0<=x/\x<n/\s∈nxt m.steps x:=by
 unfold wA
 rw[fB h0,g.src]
 have hl:=g.len
 refine⟨_,zOi (by omega),λx=>?_⟩
 rw[Gk,hl,show((s.toNat:Nat):Int)=s by omega]
theorem Ow{α:Type}{xs:List α}{a d:α}(h:i<xs.length):(xs.set i a).getD j d=if j=i then a else xs.getD j d:=by
 rw[getD_eq_getElem?_getD,getD_eq_getElem?_getD,List.getElem?_set]
 by_cases e:i=j
 ·subst e;simp[h]
 ·rw[if_neg e,if_neg (Ne.symm e)]
theorem Zz{C:Addr}{m:aD C}(g:Gr m n)(hx:∀x∈xs,0<=x/\x<n):W (IV m xs) λfl=>(fl.length:Int)=n/\∀s:Int,0<=s->s<n->fl.getD s.toNat false=decide (s∈xs):=by
 unfold IV
 have hp:=g.pos
 have hf:=g.few
 simp only[zC,aj,Td g,xZ]
 refine⟨⟨by omega,by omega⟩,?_⟩
 rw[HN (λ_=>false)]
 have e:=wG (n:=n) (by omega)
 refine⟨yH (by omega),xE (λi fl=>(fl.length:Int)=n/\∀s:Int,0<=s->s<n->fl.getD s.toNat false=decide (s∈xs.take i)) ⟨by rw[length_map];exact e,λs _ _=>?_⟩ (λi x fl hi hI=>?_) λfl hI=>?_⟩
 ·rw[getD_eq_getElem?_getD,getElem?_map]
  cases(rng n)[s.toNat]?<;>simp
 ·have hxx:=hx x (mem_of_getElem? hi)
  simp only[zC,aj]
  rw[Nx hxx.1 (by omega)]
  refine⟨by rw[length_set];exact hI.1,λs s0 s1=>?_⟩
  rw[Ow (by omega)]
  have tk:xs.take (i+1)=xs.take i++[x]:=by rw[take_add_one,hi]<;>rfl
  by_cases q:s.toNat=x.toNat
  ·have:s=x:=by omega
   subst this
   rw[if_pos rfl,tk];simp
  ·have:s≠x:=λz=>q (by rw[z])
   rw[if_neg q,hI.2 s s0 s1,tk]
   simp[this]
 ·rw[take_length] at hI
  exact hI
abbrev dg(d:List (Option Int))(s:Int):Option Int:=d.getD s.toNat none
structure cU(xss:List LI)(through goal:LI)(n:Int)(d:List (Option Int)):Prop where
 len:(d.length:Int)=n
 pos:∀s k,0<=s->s<n->dg d s=some k->0<=k/\k<n
 zero:∀s,0<=s->s<n->(dg d s=some 0↔s∈goal)
 via:∀s k,0<=s->s<n->dg d s=some k->s∉goal->s∈through/\∃t∈nxt xss s,0<=t/\t<n/\dg d t=some (k-1)
 near:∀s t k,0<=s->s<n->0<=t->t<n->s∈through->t∈nxt xss s->dg d t=some k->∃j,dg d s=some j/\j<=k+1
structure Bf(xss:List LI)(pass:Int->Prop)(goal:LI)(n:Int)(d:List (Option Int))(row:LI)(place:Nat):Prop where
 len:(d.length:Int)=n
 rng:∀s∈row,0<=s/\s<n
 nd:row.Nodup
 iff:∀s:Int,0<=s->s<n->((dg d s).isSome=true↔s∈row)
 idx:∀(i:Nat)(s:Int),row[i]?=some s->∃k:Int,dg d s=some k/\0<=k/\k<=i
 mono:∀(i j:Nat)(s t k l:Int),i<=j->row[i]?=some s->row[j]?=some t->dg d s=some k->dg d t=some l->k<=l
 top:∀(j:Nat)(s t k l:Int),row[place]?=some s->row[j]?=some t->dg d s=some k->dg d t=some l->l<=k+1
 zero:∀s:Int,0<=s->s<n->(dg d s=some 0↔s∈goal)
 via:∀(s k:Int),s∈row->dg d s=some k->s∉goal->pass s/\∃t∈nxt xss s,0<=t/\t<n/\dg d t=some (k-1)
 done:∀(i:Nat)(s t k:Int),i<place->row[i]?=some t->dg d t=some k->0<=s->s<n->pass s->t∈nxt xss s->∃j,dg d s=some j/\j<=k+1
theorem ZC{d:List (Option Int)}(hl:(d.length:Int)=n)(h0:0<=s)(h1:s<n)(t0:0<=t):dg (d.set s.toNat v) t=if t=s then v else dg d t:=by
 show(d.set s.toNat v).getD t.toNat none=_
 rw[Ow (by omega)]
 by_cases e:t=s
 ·rw[if_pos e,if_pos (by rw[e])]
 ·rw[if_neg e,if_neg (by omega)]
theorem Ox{row:LI}{i:Nat}{s x:Int}(h:(row++[x])[i]?=some s):row[i]?=some s\/(i=row.length/\s=x):=by
 by_cases q:i<row.length
 ·rw[getElem?_append_left q] at h;exact .inl h
 ·rw[getElem?_append_right (by omega)] at h
  have:i-row.length=0:=by
   have:=yV h
   simp at this
   omega
  rw[this] at h
  exact .inr ⟨by omega,(Option.some.inj h).symm⟩
structure Bm(xss:List LI)(pass:Int->Prop)(goal:LI)(n:Int)(d:List (Option Int))(row:LI)(place:Nat)(t k:Int)(seen:LI):Prop where
 bf:Bf xss pass goal n d row place
 at_:row[place]?=some t
 k_:dg d t=some k
 sY:∀s∈seen,pass s->∃j,dg d s=some j/\j<=k+1
theorem Bm.put(b:Bm xss pass goal n d row place t k seen)(hx0:0<=x)(hx1:x<n)(hp:pass x)(hn:dg d x=none)(ht:t∈nxt xss x) :
  Bm xss pass goal n (d.set x.toNat (some (k+1))) (row++[x]) place t k (seen++[x]):=by
 have B:=b.bf
 have tr:=B.rng t (mem_of_getElem? b.at_)
 have xr:x∉row:=λh=>by have:=(B.iff x hx0 hx1).mpr h;rw[hn] at this;cases this
 have tx:t≠x:=λe=>xr (e▸mem_of_getElem? b.at_)
 obtain⟨k',e1,k0,kp⟩:=B.idx place t b.at_
 rw[b.k_] at e1
 cases e1
 have pl:=yV b.at_
 have old:∀s:Int,0<=s->s≠x->dg (d.set x.toNat (some (k+1))) s=dg d s:=λs s0 q=>by rw[ZC B.len hx0 hx1 s0,if_neg q]
 have new:dg (d.set x.toNat (some (k+1))) x=some (k+1):=by rw[ZC B.len hx0 hx1 hx0,if_pos rfl]
 have inr:∀{i:Nat}{s:Int},row[i]?=some s->0<=s/\s<n/\s≠x:=λh=>by
  have:=B.rng _ (mem_of_getElem? h)
  exact⟨this.1,this.2,λe=>xr (e▸mem_of_getElem? h)⟩
 refine⟨⟨by rw[length_set];exact B.len,λs hs=>?_,?_,λs s0 s1=>?_,λi s h=>?_,λi j s u a l ij h1 h2 h3 h4=>?_,λj s u a l h1 h2 h3 h4=>?_,λs s0 s1=>?_,λs a hs h1 h2=>?_,λi s u a hi h1 h2 s0 s1 ps hu=>?_⟩,?_,?_,λs hs ps=>?_⟩
 ·rcases mem_append.mp hs with q|q
  ·exact B.rng s q
  ·rw[mem_singleton.mp q];exact⟨hx0,hx1⟩
 ·rw[nodup_append]
  exact⟨B.nd,by simp,λa ha c hc e=>by rw[mem_singleton.mp hc] at e;exact xr (e▸ha)⟩
 ·by_cases e:s=x
  ·subst e;rw[new];simp
  ·rw[old s s0 e,B.iff s s0 s1];simp[e]
 ·rcases Ox h with h|⟨rfl,rfl⟩
  ·obtain⟨a1,a2,a3⟩:=inr h
   rw[old s a1 a3];exact B.idx i s h
  ·exact⟨k+1,new,by omega,by omega⟩
 ·rcases Ox h1 with g1|⟨rfl,rfl⟩
  ·obtain⟨a1,a2,a3⟩:=inr g1
   rw[old s a1 a3] at h3
   rcases Ox h2 with g2|⟨rfl,rfl⟩
   ·obtain⟨b1,b2,b3⟩:=inr g2
    rw[old u b1 b3] at h4
    exact B.mono i j s u a l ij g1 g2 h3 h4
   ·rw[new] at h4
    cases h4
    exact B.top i t s k a b.at_ g1 b.k_ h3
  ·rcases Ox h2 with h2|⟨rfl,rfl⟩
   ·have:=yV h2;omega
   ·rw[h3] at h4;cases h4;exact Int.le_refl _
 ·have h1':s=t:=by
   rcases Ox h1 with h1|⟨e,_⟩
   ·rw[b.at_] at h1;exact(Option.some.inj h1).symm
   ·omega
  subst h1'
  rw[old s tr.1 tx,b.k_] at h3
  cases h3
  rcases Ox h2 with h2|⟨rfl,rfl⟩
  ·obtain⟨b1,b2,b3⟩:=inr h2
   rw[old u b1 b3] at h4
   exact B.top j s u k l b.at_ h2 b.k_ h4
  ·rw[new] at h4;cases h4;exact Int.le_refl _
 ·by_cases e:s=x
  ·subst e
   rw[new]
   constructor
   ·intro q;have q:=Option.some.inj q;omega
   ·intro q;have:=(B.zero s s0 s1).mpr q;rw[hn] at this;cases this
  ·rw[old s s0 e];exact B.zero s s0 s1
 ·rcases mem_append.mp hs with q|q
  ·have sr:=B.rng s q
   have sx:s≠x:=λe=>xr (e▸q)
   rw[old s sr.1 sx] at h1
   obtain⟨p1,u,u1,u2,u3,u4⟩:=B.via s a q h1 h2
   refine⟨p1,u,u1,u2,u3,?_⟩
   rw[old u u2 λe=>by rw[e,hn] at u4;cases u4]
   exact u4
  ·have:=mem_singleton.mp q
   subst this
   rw[new] at h1
   cases h1
   exact⟨hp,t,ht,tr.1,tr.2,by rw[old t tr.1 tx,b.k_,show k+1-1=k by omega]⟩
 ·have h1':row[i]?=some u:=by rw[getElem?_append_left (by omega)] at h1;exact h1
  obtain⟨b1,b2,b3⟩:=inr h1'
  rw[old u b1 b3] at h2
  obtain⟨j,q1,q2⟩:=B.done i s u a hi h1' h2 s0 s1 ps hu
  by_cases e:s=x
  ·subst e;rw[hn] at q1;cases q1
  ·exact⟨j,by rw[old s s0 e];exact q1,q2⟩
 ·rw[getElem?_append_left pl];exact b.at_
 ·rw[old t tr.1 tx];exact b.k_
 ·rcases mem_append.mp hs with q|q
  ·obtain⟨j,q1,q2⟩:=b.sY s q ps
   by_cases e:s=x
   ·subst e;rw[hn] at q1;cases q1
   ·by_cases s0:0<=s
    ·exact⟨j,by rw[old s s0 e];exact q1,q2⟩
    ·refine⟨j,?_,q2⟩
     show(d.set x.toNat (some (k+1))).getD s.toNat none=some j
     have z:s.toNat=0:=by omega
     rw[Ow (by have:=B.len;omega)]
     by_cases w:s.toNat=x.toNat
     ·have xz:x=0:=by omega
      have q1':d.getD s.toNat none=some j:=q1
      have hn':d.getD x.toNat none=none:=hn
      rw[w] at q1'
      rw[q1'] at hn'
      cases hn'
     ·rw[if_neg w];exact q1
  ·rw[mem_singleton.mp q];exact⟨k+1,new,Int.le_refl _⟩
theorem VF{C:Addr}{m:aD C}(g:Gr m n){goal:LI}(ht:∀x∈through,0<=x/\x<n)(hg:goal.Nodup/\∀x∈goal,0<=x/\x<n):W (xV m through goal) (cU m.steps through goal n):=by
 unfold xV
 have hp:=g.pos
 have hf:=g.few
 simp only[zC,aj,Td g,xZ]
 refine(Zz g ht).imp λfl ⟨fl1,fl2⟩=>⟨⟨by omega,by omega⟩,?_⟩
 rw[HN (λ_=>(none:Option Int))]
 have e:=wG (n:=n) (by omega)
 refine⟨yH (by omega),xE (λi (d:List (Option Int))=>(d.length:Int)=n/\∀s:Int,0<=s->s<n->dg d s=if s∈goal.take i then some 0 else none) ⟨by rw[length_map];exact e,λs _ _=>?_⟩ (λi x d hi hI=>?_) λd hd=>?_⟩
 ·show(List.map (λ_=>(none:Option Int)) (rng n)).getD s.toNat none=_
  rw[getD_eq_getElem?_getD,getElem?_map]
  cases(rng n)[s.toNat]?<;>simp
 ·have hx:=hg.2 x (mem_of_getElem? hi)
  simp only[zC,aj]
  rw[Nx hx.1 (by omega)]
  refine⟨by rw[length_set];exact hI.1,λs s0 s1=>?_⟩
  have tk:goal.take (i+1)=goal.take i++[x]:=by rw[take_add_one,hi]<;>rfl
  rw[ZC hI.1 hx.1 hx.2 s0,hI.2 s s0 s1,tk]
  by_cases q:s=x<;>simp[q]
 rw[take_length] at hd
 have base:Bf m.steps (· ∈ through) goal n d goal 0:=by
  have z:∀s:Int,0<=s->s<n->∀k,dg d s=some k->k=0/\s∈goal:=λs s0 s1 k h=>by
   rw[hd.2 s s0 s1] at h
   split at h
   ·rename_i q;cases h;exact⟨rfl,q⟩
   ·cases h
  refine⟨hd.1,hg.2,hg.1,λs s0 s1=>?_,λi s h=>?_,λi j s t k l _ h1 h2 h3 h4=>?_,λj s t k l h1 h2 h3 h4=>?_,λs s0 s1=>?_,λs k hs h1 h2=>absurd hs h2,λi s t k hi=>by omega⟩
  ·rw[hd.2 s s0 s1];by_cases q:s∈goal<;>simp[q]
  ·have hs:=mem_of_getElem? h
   have:=hg.2 s hs
   exact⟨0,by rw[hd.2 s this.1 this.2,if_pos hs],Int.le_refl _,by omega⟩
  ·have a1:=hg.2 s (mem_of_getElem? h1)
   have a2:=hg.2 t (mem_of_getElem? h2)
   have:=(z s a1.1 a1.2 k h3).1
   have:=(z t a2.1 a2.2 l h4).1
   omega
  ·have a1:=hg.2 s (mem_of_getElem? h1)
   have a2:=hg.2 t (mem_of_getElem? h2)
   have:=(z s a1.1 a1.2 k h3).1
   have:=(z t a2.1 a2.2 l h4).1
   omega
  ·rw[hd.2 s s0 s1];by_cases q:s∈goal<;>simp[q]
 have ZD:n.toNat<=60:=by omega
 refine zRn (λs=>∃pl:Nat,s.2.2=(pl:Int)/\Bf m.steps (· ∈ through) goal n s.1 s.2.1 pl) (λs=>n.toNat-s.2.2.toNat) ⟨0,rfl,base⟩ (show n.toNat-(0:Int).toNat<fuel from Nat.lt_of_le_of_lt (Nat.sub_le _ _) (Nat.lt_of_le_of_lt ZD (by decide))) λs ⟨pl,hpl,B⟩=>?_
 rw[aj]
 have rl:s.2.1.length<=n.toNat:=xD B.nd λx hx=>by have:=B.rng x hx;omega
 by_cases lt:s.2.2<(s.2.1.length:Int)
 ·rw[decide_eq_true lt,if_pos rfl]
  simp only[zC,aj]
  rw[fB (by omega)]
  have pll:pl<s.2.1.length:=by omega
  have e1:s.2.2.toNat=pl:=by omega
  rw[e1]
  refine⟨_,List.getElem?_eq_getElem pll,?_⟩
  have hat:s.2.1[pl]?=some s.2.1[pl]:=List.getElem?_eq_getElem pll
  generalize s.2.1[pl]=t at hat
  have tr:=B.rng t (mem_of_getElem? hat)
  obtain⟨k,hk,k0,k1⟩:=B.idx pl t hat
  refine(zRy g tr.1 tr.2).imp λxs hxs=>?_
  refine xE (λi (r:List (Option Int)×LI)=>Bm m.steps (· ∈ through) goal n r.1 r.2 pl t k (xs.take i)) ⟨B,hat,hk,λs hs=>by cases hs⟩ (λi x r hi b=>?_) λr b=>?_
  ·have hx:=(hxs x).mp (mem_of_getElem? hi)
   have tk:xs.take (i+1)=xs.take i++[x]:=by rw[take_add_one,hi]<;>rfl
   rw[tk]
   simp only[zC,aj]
   rw[fB hx.1]
   have fx:=fl2 x hx.1 hx.2.1
   have fl3:x.toNat<fl.length:=by omega
   refine⟨_,List.getElem?_eq_getElem fl3,?_⟩
   rw[getD_eq_getElem?_getD,List.getElem?_eq_getElem fl3] at fx
   have fx:fl[x.toNat]=decide (x∈through):=fx
   rw[fx]
   have dl:x.toNat<r.1.length:=by have:=b.bf.len;omega
   have dx:dg r.1 x=r.1[x.toNat]:=by show r.1.getD x.toNat none=_;rw[getD_eq_getElem?_getD,List.getElem?_eq_getElem dl];rfl
   by_cases px:x∈through
   ·rw[decide_eq_true px,if_pos rfl,zC,fB hx.1]
    refine⟨_,List.getElem?_eq_getElem dl,?_⟩
    rw[<-dx,aj]
    cases hdx:dg r.1 x with
    |none =>
     simp only[Option.isNone_none,if_true,zC,aj]
     have tr':t.toNat<r.1.length:=by have:=b.bf.len;omega
     rw[fB tr.1]
     refine⟨_,List.getElem?_eq_getElem tr',?_⟩
     have ek:r.1[t.toNat]=some k:=by
      have:=b.k_
      have z:r.1.getD t.toNat none=some k:=this
      rw[getD_eq_getElem?_getD,List.getElem?_eq_getElem tr'] at z
      exact z
     rw[ek,aj,Nx hx.1 (by have:=b.bf.len;omega),Ca]
     have rl2:r.2.length<=n.toNat:=xD b.bf.nd λx hx=>by have:=b.bf.rng x hx;omega
     exact⟨yH (by omega),b.put hx.1 hx.2.1 px hdx hx.2.2⟩
    |some j =>
     simp only[Option.isNone_some,Bool.false_eq_true,if_false,aj]
     refine⟨b.bf,b.at_,b.k_,λs hs ps=>?_⟩
     rcases mem_append.mp hs with q|q
     ·exact b.sY s q ps
     ·rw[mem_singleton.mp q]
      have hin:x∈r.2:=(b.bf.iff x hx.1 hx.2.1).mp (by rw[hdx];rfl)
      obtain⟨ii,hii⟩:=mem_iff_getElem?.mp hin
      exact⟨j,hdx,b.bf.top ii t x k j b.at_ hii b.k_ hdx⟩
   ·rw[decide_eq_false px,if_neg (by decide),aj]
    simp only[Bool.false_eq_true,if_false,aj]
    refine⟨b.bf,b.at_,b.k_,λs hs ps=>?_⟩
    rcases mem_append.mp hs with q|q
    ·exact b.sY s q ps
    ·rw[mem_singleton.mp q] at ps;exact absurd ps px
  ·rw[take_length] at b
   refine⟨⟨pl+1,by show s.2.2+1=_;omega,?_⟩,?_⟩
   ·have B':=b.bf
    refine⟨B'.len,B'.rng,B'.nd,B'.iff,B'.idx,B'.mono,λj u v a l h1 h2 h3 h4=>?_,B'.zero,B'.via,λi u v a hi h1 h2 u0 u1 pu hu=>?_⟩
    ·have q1:=B'.mono pl (pl+1) t u k a (by omega) b.at_ h1 b.k_ h3
     have q2:=B'.top j t v k l b.at_ h2 b.k_ h4
     omega
    ·by_cases q:i=pl
     ·subst q
      rw[b.at_] at h1
      cases h1
      rw[b.k_] at h2
      cases h2
      exact b.sY u ((hxs u).mpr ⟨u0,u1,hu⟩) pu
     ·exact B'.done i u v a (by omega) h1 h2 u0 u1 pu hu
   ·show n.toNat-(s.2.2+1).toNat<n.toNat-pl
    omega
 ·rw[decide_eq_false lt,if_neg (by decide)]
  have all:∀t∈s.2.1,∃i,i<pl/\s.2.1[i]?=some t:=λt h=>by
   obtain⟨i,hi⟩:=mem_iff_getElem?.mp h
   exact⟨i,by have:=yV hi;omega,hi⟩
  refine⟨B.len,λu k u0 u1 h=>?_,B.zero,λu k u0 u1 h hu=>?_,λu t k u0 u1 t0 t1 hu ht hk=>?_⟩
  ·have hin:=(B.iff u u0 u1).mp (by rw[h];rfl)
   obtain⟨i,hi⟩:=mem_iff_getElem?.mp hin
   obtain⟨k',e1,e2,e3⟩:=B.idx i u hi
   rw[h] at e1
   cases e1
   have:=yV hi
   exact⟨e2,by omega⟩
  ·exact B.via u k ((B.iff u u0 u1).mp (by rw[h];rfl)) h hu
  ·obtain⟨i,h1,h2⟩:=all t ((B.iff t t0 t1).mp (by rw[hk];rfl))
   exact B.done i u t k h1 h2 hk u0 u1 hu ht
theorem Te{d:List (Option Int)}(hl:(d.length:Int)=n)(h0:0<=s)(h1:s<n):d[s.toNat]?=some (dg d s):=by
 have:s.toNat<d.length:=by omega
 show _=some (d.getD s.toNat none)
 rw[getD_eq_getElem?_getD,List.getElem?_eq_getElem this]
 rfl
theorem Mq{xss:List LI}(hl:(xss.length:Int)=n)(h0:0<=s)(h1:s<n):xss[s.toNat]?=some (nxt xss s):=by
 have:s.toNat<xss.length:=by omega
 unfold nxt
 rw[getD_eq_getElem?_getD,List.getElem?_eq_getElem this]
 rfl
theorem Mr(n:Int):(rng n).Pairwise (· < ·):=by
 unfold rng
 rw[List.pairwise_map]
 exact List.pairwise_lt_range.imp λh=>by show(_:Int)<_;simpa using h
def pick(n:Int)(p:Int->Bool):LI:=(rng n).filter p
theorem dJ:s∈pick n p↔0<=s/\s<n/\p s=true:=by
 unfold pick
 rw[mem_filter,cO,and_assoc]
theorem zL8{d:List (Option Int)}(hl:(d.length:Int)=n):zy d=(rng n).map λs=>(s,dg d s):=by
 refine List.ext_getElem? λi=>?_
 have e:n.toNat=d.length:=by omega
 by_cases q:i<d.length
 ·have h1:(rng n)[i]?=some (i:Int):=by unfold rng;rw[getElem?_map,getElem?_range (by omega)];rfl
  rw[getElem?_map,h1]
  unfold zy
  rw[List.getElem?_zip_eq_some (z:=((i:Int),dg d i))|>.mpr ⟨?_,?_⟩]
  ·rfl
  ·rw[getElem?_map,getElem?_range q];rfl
  ·show d[i]?=some (d.getD ((i:Int).toNat) none)
   rw[Int.toNat_natCast,getD_eq_getElem?_getD,List.getElem?_eq_getElem q];rfl
 ·rw[List.getElem?_eq_none (by rw[zJo];omega),List.getElem?_eq_none (by rw[length_map];unfold rng;rw[length_map,length_range];omega)]
theorem Gn:W (dput kvs k v) Q↔kvs.length<cap/\Q (pK kvs (Sum.inl k) v):=by
 unfold dput
 rw[w5]
 constructor
 ·intro⟨h1,h2⟩
  by_cases h:kvs.length<cap
  ·exact⟨h,aj.mp (h1 h)⟩
  ·exact absurd (h2 h) (by rw[sH];exact id)
 ·intro⟨h,q⟩
  exact⟨λ_=>aj.mpr q,λz=>absurd h z⟩
theorem zT3:W (Ri kvs k v) Q↔kvs.length<cap/\Q (pK kvs (Sum.inr k) v):=by
 unfold Ri
 rw[w5]
 constructor
 ·intro⟨h1,h2⟩
  by_cases h:kvs.length<cap
  ·exact⟨h,aj.mp (h1 h)⟩
  ·exact absurd (h2 h) (by rw[sH];exact id)
 ·intro⟨h,q⟩
  exact⟨λ_=>aj.mpr q,λz=>absurd h z⟩
def ux(n:Int)(xs:LI):Prop:=xs.Nodup/\xs.length<=100/\∀z∈xs,0<=z/\z<n
theorem zN3(h:0<=z/\z<n):Sh z n=some true:=by
 unfold Sh
 rw[if_pos rfl,if_pos (show(!false)=true from rfl),decide_eq_true h.1,if_pos rfl,decide_eq_true h.2]
theorem ZF(h:ux n xs)(x:Str):W (xH xs n x) λ_=>True:=by
 unfold xH
 rw[zC,aj,zC,zC,aj]
 refine xE (λi s=>s.length<=i/\∀z,(bU s z).isSome=true->z∈xs.take i) ⟨Nat.zero_le _,λz hz=>by cases hz⟩ (λi y s hi hI=>?_) λs _=>aj.mpr trivial
 have il:=yV hi
 rw[zN3 (h.2.2 y (mem_of_getElem? hi)),zC,zC,zC,aj,aj,Bool.not_true,if_neg (by decide),aj,zC]
 have hn:(bU s y).isSome=false:=by
  cases q:(bU s y).isSome with
  |false=>rfl
  |true=>exact absurd (hI.2 y q) (zGb h.1 hi)
 have hn':(bU (Dc.mk s).kv y).isSome=false:=hn
 rw[hn',if_neg (by decide),aj,zC,Gn]
 have l1:=h.2.1
 refine⟨yH (by omega),?_⟩
 rw[aj]
 have l2:=XC s (Sum.inl y) true
 refine⟨by omega,λz hz=>?_⟩
 rw[uR hi]
 have e:bU (pK s (Sum.inl y) true) z=if(Sum.inl z:Key)=Sum.inl y then some true else bU s z:=Xz s (Sum.inl y) (Sum.inl z) true
 rw[e] at hz
 by_cases q:(Sum.inl z:Key)=Sum.inl y
 ·exact .inr (Sum.inl.inj q)
 ·rw[if_neg q] at hz
  exact .inl (hI.2 z hz)
theorem I9(a:Str){i:Nat}(h:i<1000):W (KN a (i:Int)) λ_=>True:=by
 unfold KN
 rw[if_pos (zP1 (by omega)),aj]
 trivial
theorem zMp{xss:List LI}(hl:(xss.length:Int)=n)(h0:1<=n)(h1:n<=60)(h:∀xs∈xss,xs≠[]/\ux n xs):W (vI xss) λ_=>True:=by
 unfold vI
 rw[zC,aj,zC,zC,hl,decide_eq_false (by omega),if_neg (by decide),aj,decide_eq_false (by omega),if_neg (by decide),aj,zC,zC,aj]
 refine xE (λ_ _=>True) trivial (λi y s hi _=>?_) λs _=>aj.mpr trivial
 obtain⟨e1,e2⟩:=Xb hi
 have il:=yV e2
 obtain⟨ne,ok⟩:=h y.2 (mem_of_getElem? e2)
 rw[e1]
 simp only[zC]
 refine(I9 "steps of stand " (i:=i) (by omega)).imp λt _=>?_
 rw[aj,aj,aj]
 refine(ZF ok t).imp λ_ _=>?_
 rw[decide_eq_false (λz=>ne (length_eq_zero_iff.mp (by omega))),if_neg (by decide),aj,aj]
 trivial
theorem zN5{xss:List LI}(hl:xss.length<=100)(h:∀xs∈xss,ux n xs):W (uJ xss n) λ_=>True:=by
 unfold uJ
 rw[zC,zC,aj]
 refine xE (λ_ _=>True) trivial (λi y s hi _=>?_) λs _=>aj.mpr trivial
 obtain⟨e1,e2⟩:=Xb hi
 have il:=yV e2
 rw[e1]
 simp only[zC]
 refine(I9 "fair set " (i:=i) (by omega)).imp λt _=>?_
 rw[aj,aj,aj]
 refine(ZF (h y.2 (mem_of_getElem? e2)) t).imp λ_ _=>?_
 rw[aj]
 trivial
def ZG(n:Int)(ms:List (Str×LI)):Prop:=(ms.map (·.1)).Nodup/\ms.length<=100/\∀m∈ms,uX m.1=some true/\m.1.length<=1000/\ux n m.2
theorem zMq(h:ZG n ms):W (vJ ms n) λ_=>True:=by
 unfold vJ
 rw[zC,aj,zC,zC,aj]
 refine xE (λi s=>s.length<=i/\∀z,(Ie s z).isSome=true->z∈(ms.map (·.1)).take i) ⟨Nat.zero_le _,λz hz=>by cases hz⟩ (λi y s hi hI=>?_) λs _=>aj.mpr trivial
 have il:=yV hi
 have hi':(ms.map (·.1))[i]?=some y.1:=by rw[getElem?_map,hi];rfl
 obtain⟨nm,ln,ok⟩:=h.2.2 y (mem_of_getElem? hi)
 have nin:y.1∉(ms.map (·.1)).take i:=λhz=>by
  obtain⟨j,hj⟩:=mem_iff_getElem?.mp hz
  have hji:j<i:=by
   have:=yV hj
   rw[length_take] at this
   omega
  rw[getElem?_take_of_lt hji] at hj
  have a1:=yV hi'
  have a2:=yV hj
  rw[List.getElem?_eq_getElem a1] at hi'
  rw[List.getElem?_eq_getElem a2] at hj
  have e:(ms.map (·.1))[j]=(ms.map (·.1))[i]:=(Option.some.inj hj).trans (Option.some.inj hi').symm
  have:=(getElem_inj h.1).mp e
  omega
 rw[nm,zC,zC,zC,aj,aj,Bool.not_true,if_neg (by decide),aj,zC]
 have hn:(Ie (Dc.mk s).kv y.1).isSome=false:=by
  cases q:(Ie s y.1).isSome with
  |false=>rfl
  |true=>exact absurd (hI.2 y.1 q) nin
 rw[hn,if_neg (by decide),aj,zC,zT3]
 have l1:=h.2.1
 refine⟨yH (by omega),?_⟩
 simp only[zC]
 have fs:W (Nz "mark " y.1) λ_=>True:=by
  unfold Nz
  rw[if_pos ln,aj]
  trivial
 refine fs.imp λt _=>?_
 rw[aj,aj,aj]
 refine(ZF ok t).imp λ_ _=>?_
 rw[aj]
 have l2:=XC s (Sum.inr y.1) true
 refine⟨by omega,λz hz=>?_⟩
 rw[uR hi']
 have e:Ie (pK s (Sum.inr y.1) true) z=if(Sum.inr z:Key)=Sum.inr y.1 then some true else Ie s z:=Xz s (Sum.inr y.1) (Sum.inr z) true
 rw[e] at hz
 by_cases q:(Sum.inr z:Key)=Sum.inr y.1
 ·exact .inr (Sum.inr.inj q)
 ·rw[if_neg q] at hz
  exact .inl (hI.2 z hz)
theorem zLc{xss:List LI}(h:xss.length<=100):Ol xss=some xss:=by
 have q:W (Ol xss) (· = xss):=by
  unfold Ol
  rw[zC,aj,HN (λx=>x),map_id']
  exact⟨yH (by omega),rfl⟩
 obtain⟨a,e,rfl⟩:=q
 exact e
theorem Tf(C:Addr){xss:List LI}{mo:Option Cd}{fo:Option LLI}(hl:(xss.length:Int)=n)(h0:1<=n)(h1:n<=60)(h:∀xs∈xss,xs≠[]/\ux n xs)(hm:ZG n (mo.getD []))(hf:(fo.getD []).length<=100/\∀xs∈fo.getD [],ux n xs) :
  W (Sq C xss mo fo) λm=>Gr m n/\m.steps=xss/\m.marks=mo.getD []/\m.fair=fo.getD []:=by
 unfold Sq U8
 rw[zC]
 refine(zMp hl h0 h1 h).imp λ_ _=>?_
 rw[zC,hl]
 refine(zMq hm).imp λ_ _=>?_
 rw[zC]
 refine(zN5 hf.1 hf.2).imp λ_ _=>?_
 have m1:=hm.2.1
 rw[zLc (by omega),zC,aj,zC,HN (λx:Str×LI=>(x.1,x.2))]
 refine⟨yH (by omega),?_⟩
 have e:(mo.getD []).map (λx:Str×LI=>(x.1,x.2))=mo.getD []:=map_id' _
 rw[zLc hf.1,zC,aj,zC]
 have hv:Oi xss=some (srcs xss):=by
  unfold Oi
  rw[if_pos ⟨by omega,rfl,λxs hx=>by obtain⟨a,b,c,d⟩:=h xs hx;exact⟨a,b,c,λz hz=>by have:=d z hz;omega⟩⟩]
 rw[hv,aj,aj,e]
 exact⟨⟨hl,h0,h1,λxs hx=>by obtain⟨a,b,c,d⟩:=h xs hx;exact⟨a,b,d⟩,rfl⟩,rfl,rfl,rfl⟩
theorem ZJ(h:eY n xs)(YW:n<=60):ux n xs:=⟨h.nodup,by
 by_cases hn:0<=n
 ·have:=xD (n:=n.toNat) h.nodup λx hx=>by have:=h.2 x hx;omega
  omega
 ·cases xs with
  |nil=>exact Nat.zero_le _
  |cons x xs=>have:=h.2 x mem_cons_self;omega,h.2⟩
theorem ZK(hx:0<=x)(hy:0<=y):Builtin.bitAnd x y=((x.toNat&&&y.toNat:Nat):Int):=by
 unfold Builtin.bitAnd
 rw[decide_eq_true hx,decide_eq_true hy]
theorem zMg(hx:0<=x)(hy:0<=y):Builtin.bitOr x y=((x.toNat|||y.toNat:Nat):Int):=by
 have h1:¬0<=Builtin.bitNot x:=by unfold Builtin.bitNot;omega
 have h2:¬0<=Builtin.bitNot y:=by unfold Builtin.bitNot;omega
 have nn:∀z:Int,Builtin.bitNot (Builtin.bitNot z)=z:=λz=>by unfold Builtin.bitNot;omega
 unfold Builtin.bitOr Builtin.bitAnd
 rw[decide_eq_false h1,decide_eq_false h2]
 dsimp only
 rw[nn,nn,nn]
def bt(x t:Int):Bool:=x.toNat.testBit t.toNat
theorem I_(hx:0<=x)(hy:0<=y)(t:Int):bt (Builtin.bitOr x y) t=(bt x t||bt y t):=by
 unfold bt
 rw[zMg hx hy,Int.toNat_natCast,Nat.testBit_or]
theorem zU1(hx:0<=x)(hy:0<=y)(t:Int):bt (Builtin.bitAnd x y) t=(bt x t&&bt y t):=by
 unfold bt
 rw[ZK hx hy,Int.toNat_natCast,Nat.testBit_and]
theorem Ja(hx:0<=x)(hy:0<=y):0<=Builtin.bitOr x y:=by rw[zMg hx hy];exact Int.natCast_nonneg _
theorem zU4(hx:0<=x)(hy:0<=y):0<=Builtin.bitAnd x y:=by rw[ZK hx hy];exact Int.natCast_nonneg _
theorem Gp(t:Int):bt 0 t=false:=by unfold bt;simp
theorem Ms(ht:0<=t)(hu:0<=u):bt (1*2^t.toNat) u=decide (u=t):=by
 unfold bt
 rw[Int.one_mul,show((2:Int)^t.toNat).toNat=2^t.toNat by
  rw[show((2:Int)^t.toNat)=((2^t.toNat:Nat):Int) by simp]
  exact Int.toNat_natCast _,Nat.testBit_two_pow]
 rw[Bool.eq_iff_iff,decide_eq_true_iff,decide_eq_true_iff]
 omega
theorem ZL{x:Int}(hx:0<=x)(k:Nat):0<=x/2^k:=Int.ediv_nonneg hx (Int.le_of_lt (Int.pow_pos (by decide)))
theorem Gq{x:Int}(hx:0<=x)(k:Nat):(x/2^k).toNat=x.toNat>>>k:=by
 obtain⟨m,rfl⟩:=Int.eq_ofNat_of_zero_le hx
 rw[Nat.shiftRight_eq_div_pow,Int.toNat_natCast]
 have:((m:Int)/2^k)=((m/2^k:Nat):Int):=by simp
 rw[this,Int.toNat_natCast]
theorem ZM{t:Int}(hx:0<=x):bt (x/2^t.toNat) 0=bt x t:=by
 unfold bt
 rw[Gq hx,Int.toNat_zero,Nat.testBit_shiftRight]
 rfl
theorem zU0(hx:0<=x):(Builtin.bitAnd x 1 != 0)=bt x 0:=by
 rw[ZK hx (by decide)]
 unfold bt
 rw[Nat.testBit]
 simp only[Int.toNat_zero,Nat.shiftRight_zero,show(1:Int).toNat=1 from rfl]
 rw[Nat.and_comm]
 rw[Bool.eq_iff_iff]
 simp only[bne_iff_ne,ne_eq]
 omega
theorem zT6(h:∀x∈xs,0<=x/\x<n)(YW:n<=60):W (Om xs) λb=>0<=b/\∀t:Int,0<=t->bt b t=decide (t∈xs):=by
 unfold Om
 rw[zC,aj,zC,zC,aj]
 refine xE (λi s=>0<=s/\∀t:Int,0<=t->bt s t=decide (t∈xs.take i)) ⟨by decide,λt _=>by rw[Gp];simp⟩ (λi x s hi hI=>?_) λs hI=>?_
 ·obtain⟨h0,hb⟩:=hI
  have xb:=h x (mem_of_getElem? hi)
  have e:tY 1 x=some (1*2^x.toNat):=by unfold tY;rw[if_pos ⟨xb.1,by omega,by decide⟩]
  have tk:xs.take (i+1)=xs.take i++[x]:=by rw[take_add_one,hi]<;>rfl
  have p0:(0:Int)<=1*2^x.toNat:=by rw[Int.one_mul];exact Int.le_of_lt (Int.pow_pos (by decide))
  rw[zC,zC,e,aj,aj,aj]
  refine⟨Ja h0 p0,λt ht=>?_⟩
  rw[I_ h0 p0,hb t ht,Ms xb.1 ht,tk,Bool.eq_iff_iff]
  simp
 ·rw[aj]
  rw[take_length] at hI
  exact hI
def rb(rows:LI)(s t:Int):Bool:=bt (rows.getD s.toNat 0) t
theorem Ti{rows:LI}(hl:(rows.length:Int)=n)(h0:0<=s)(h1:s<n):L2.aH rows s=some (rows.getD s.toNat 0):=by
 rw[uP h0,getD_eq_getElem?_getD,List.getElem?_eq_getElem (by omega)]
 rfl
def Jb(rows:LI):Prop:=∀i:Nat,0<=rows.getD i 0
theorem zMf{rows:LI}{n s t:Int}(hl:(rows.length:Int)=n)(nn:Jb rows)(h0:0<=s)(h1:s<n)(t0:0<=t) :
  ((((L2.aH rows s).bind λa=>iY a t).bind λa=>some (Builtin.bitAnd a 1)).bind λa=>some (a != 0))=some (rb rows s t):=by
 rw[Ti hl h0 h1]
 show(((iY _ t).bind _).bind _)=_
 unfold iY
 rw[if_pos t0]
 show some (Builtin.bitAnd (rows.getD s.toNat 0/2^t.toNat) 1 != 0)=_
 rw[zU0 (ZL (nn _) _),ZM (nn _)]
 rfl
theorem zR0{rows:LI}{n s t:Int}(hl:(rows.length:Int)=n)(nn:Jb rows)(h0:0<=s)(h1:s<n)(t0:0<=t)(t1:t<n) :
  (((((L2.aH rows s).bind λa=>iY a t).bind λa=>((L2.aH rows t).bind λb=>iY b s).bind λb=>some (Builtin.bitAnd a b)).bind λa=>some (Builtin.bitAnd a 1)).bind λa=>some (a != 0))=some (rb rows s t&&rb rows t s):=by
 rw[Ti hl h0 h1,Ti hl t0 t1]
 show((((iY _ t).bind λa=>(iY _ s).bind _).bind _).bind _)=_
 unfold iY
 rw[if_pos t0,if_pos h0]
 show some (Builtin.bitAnd (Builtin.bitAnd (rows.getD s.toNat 0/2^t.toNat) (rows.getD t.toNat 0/2^s.toNat)) 1 != 0)=_
 have a1:=ZL (nn s.toNat) t.toNat
 have a2:=ZL (nn t.toNat) s.toNat
 rw[zU0 (zU4 a1 a2),zU1 a1 a2,ZM (nn _),ZM (nn _)]
 rfl
theorem zUd{rows:LI}(hl:(rows.length:Int)=n)(x0:0<=x)(x1:x<n)(s0:0<=s):rb (rows.set x.toNat v) s t=if s=x then bt v t else rb rows s t:=by
 unfold rb
 rw[Ow (by omega)]
 by_cases e:s=x
 ·subst e;rw[if_pos rfl,if_pos rfl]
 ·rw[if_neg (by omega),if_neg e]
theorem zUl{rows:LI}(hl:(rows.length:Int)=n)(x0:0<=x)(x1:x<n)(nn:Jb rows)(hv:0<=v):Jb (rows.set x.toNat v):=λi=>by
 rw[Ow (by omega)]
 split
 ·exact hv
 ·exact nn i
inductive mV(xss:List LI)(U:LI):Int->Int->Prop
 |one {s t:Int}:t∈nxt xss s->t∈U->mV xss U s t
 |step {s u t:Int}:u∈nxt xss s->u∈U->mV xss U u t->mV xss U s t
theorem mV.trans(h:mV xss U s t)(k:mV xss U t u):mV xss U s u:=by
 induction h with
 |one a b=>exact .step a b k
 |step a b _ ih=>exact .step a b (ih k)
theorem mV.mem(h:mV xss U s t):t∈U:=by
 induction h with
 |one _ b=>exact b
 |step _ _ _ ih=>exact ih
structure mW(xss:List LI)(U rows:LI):Prop where
 nn:Jb rows
 edge:∀s∈U,∀t∈U,t∈nxt xss s->rb rows s t=true
 sound:∀s∈U,∀t:Int,0<=t->rb rows s t=true->mV xss U s t
 trans:∀s∈U,∀u∈U,∀t:Int,0<=t->rb rows s u=true->rb rows u t=true->rb rows s t=true
theorem zMc{α β:Type}{c:α->Option Bool}{f:α->Option β}{p:α->Bool}{g:α->β}:∀{xs:List α},(∀x∈xs,c x=some (p x))->(∀x∈xs,f x=some (g x))->wB c f xs=some ((xs.filter p).map g)
 |[],_,_=>rfl
 |x::xs,hc,hf=>by
  have ih:=zMc (xs:=xs) (λy hy=>hc y (mem_cons_of_mem _ hy)) λy hy=>hf y (mem_cons_of_mem _ hy)
  show((c x).bind λb=>if b=true then(f x).bind λy=>(wB c f xs).bind λys=>some (y::ys) else wB c f xs)=_
  rw[hc x mem_cons_self,bnd,hf x mem_cons_self,ih,filter_cons]
  cases p x with
  |true=>rw[if_pos rfl,if_pos rfl];rfl
  |false=>rw[if_neg (by decide),if_neg (by decide)]
theorem uB{α β:Type}{c:α->Option Bool}{f:α->Option β}{p:α->Bool}{g:α->β}{xs:List α}(hl:xs.length<cap)(hc:∀x∈xs,c x=some (p x))(hf:∀x∈xs,f x=some (g x)):yU c f xs=some ((xs.filter p).map g):=by
 unfold yU
 rw[if_pos hl]
 exact zMc hc hf
theorem zUc{C:Addr}{m:aD C}(g:Gr m n)(h0:0<=s)(h1:s<n):nxt m.steps s∈m.steps:=mem_of_getElem? (Mq g.len h0 h1)
theorem VG{C:Addr}{m:aD C}(g:Gr m n)(h0:0<=s)(h1:s<n):W (yK m s) λxs=>xs.length<=60/\∀x,x∈xs↔x∈nxt m.steps s:=by
 unfold yK
 have f:=g.few
 obtain⟨_,nd,rg⟩:=g.row _ (zUc g h0 h1)
 have l:=xD (n:=n.toNat) nd λx hx=>by have:=rg x hx;omega
 rw[zC,fB h0]
 refine⟨_,Mq g.len h0 h1,?_⟩
 unfold qN
 rw[if_pos (by omega),aj]
 refine⟨by rw[(vX _).length_eq];omega,λx=>(vX _).mem_iff⟩
def dl(xs:LI):List (Key×Bool):=xs.map λx=>((Sum.inl x:Key),true)
theorem zQ3:∀xs:LI,Ad (dl xs)=some xs
 |[]=>rfl
 |x::xs=>by show(Ad (dl xs)).bind _=_;rw[zQ3 xs];rfl
theorem VH:∀(xs:LI)(x:Int),(bU (dl xs) x).isSome=decide (x∈xs)
 |[],x=>by simp[dl,bU,gK]
 |y::xs,x=>by
  have ih:=VH xs x
  unfold bU gK dl at ih ⊢
  rw[map_cons,find?_cons]
  by_cases e:y=x
  ·subst e;simp
  ·rw[decide_eq_false (show¬((Sum.inl y:Key),true).1=(Sum.inl x:Key) fromλz=>e (Sum.inl.inj z))]
   rw[ih,Bool.eq_iff_iff,decide_eq_true_eq,decide_eq_true_eq,mem_cons]
   exact⟨.inr,λh=>h.resolve_left λz=>e z.symm⟩
theorem zUu(h:x∉xs):pK (dl xs) (Sum.inl x) true=dl (xs++[x]):=by
 unfold pK
 have:((dl xs).any λkv=>decide (kv.1=(Sum.inl x:Key)))=false:=by
  rw[zQk]
  have:=VH xs x
  rw[decide_eq_false h] at this
  exact this
 rw[if_neg (by rw[this];decide)]
 unfold dl
 rw[map_append]
 rfl
theorem zUv(xs:LI):(dl xs).length=xs.length:=length_map ..
theorem zU6:W (dput kvs k v) Q↔kvs.length<cap/\Q (pK kvs (Sum.inl k) v):=by
 unfold dput
 split
 ·rename_i h;rw[aj];exact⟨λq=>⟨h,q⟩,λq=>q.2⟩
 ·rename_i h;rw[sH];exact⟨False.elim,λq=>h q.1⟩
section
variable{S α β:Type}
theorem zRo{step:S->α->Option (Out S β)}{Q:Out S β->Prop}(I:Nat->S->Prop)(h0:I 0 s)(hs:∀i x s,xs[i]?=some x->I i s->W (step s x) λo=>(∃s',o=.nx s'/\I (i+1) s')\/∃b,o=.rt b/\Q (.rt b))(hd:∀s,I xs.length s->Q (.nx s)):W (vK step xs s) Q:=by
 have key:∀(ys:List α)(i:Nat)(s:S),(∀j x,ys[j]?=some x->xs[i+j]?=some x)->i+ys.length=xs.length->I i s->W (vK step ys s) Q:=by
  intro ys
  induction ys with
  |nil=>intro i s _ hl h;exact⟨.nx s,rfl,hd s ((show i=xs.length from hl)▸h)⟩
  |cons y ys ih =>
   intro i s hy hl h
   rw[zGk,zC]
   refine(hs i y s (hy 0 y rfl) h).imp ?_
   rintro o (⟨s',rfl,h'⟩|⟨b,rfl,h'⟩)
   ·refine ih (i+1) s' (λj x hx=>?_) (by rw[length_cons] at hl;omega) h'
    have:=hy (j+1) x (by simpa using hx)
    rw[show i+1+j=i+(j+1) by omega]
    exact this
   ·exact⟨.rt b,rfl,h'⟩
 exact key xs 0 s (λj x h=>by rw[Nat.zero_add];exact h) (Nat.zero_add _) h0
end
theorem uE{α:Type}{xs:List α}{x:α}(h:xs[i]?=some x):xs.take (i+1)=xs.take i++[x]:=by rw[take_add_one,h]<;>rfl
theorem xJ{xs:LI}{i:Nat}{x s:Int}(h:xs[i]?=some x):s∈xs.take (i+1)↔s∈xs.take i\/s=x:=by rw[uE h,mem_append,mem_singleton]
theorem ZP{C:Addr}{m:aD C}(g:Gr m n)(h0:0<=s)(h1:s<n):∀x∈nxt m.steps s,0<=x/\x<n:=(g.row _ (zUc g h0 h1)).2.2
theorem zRu{C:Addr}{m:aD C}(g:Gr m n)(hU:∀x∈U,0<=x/\x<n):W (vH m U) λrows=>(rows.length:Int)=n/\mW m.steps U rows:=by
 unfold vH
 have few:=g.few
 have pos:=g.pos
 rw[zC]
 refine(zT6 hU few).imp λinside ⟨i0,ib⟩=>?_
 rw[zC,zC,zC,Td g,aj,xZ]
 refine⟨⟨by omega,by omega⟩,?_⟩
 have rl:=wG (n:=n) (by omega)
 rw[HN (λ_=>(0:Int))]
 refine⟨yH (by omega),?_⟩
 rw[zC,zC,aj]
 refine xE (λi rows=>(rows.length:Int)=n/\Jb rows/\∀s∈U.take i,∀t:Int,0<=t->rb rows s t=decide (t∈nxt m.steps s/\t∈U)) ⟨by rw[length_map];exact rl,λi=>?_,λs hs=>by simp at hs⟩ (λi x rows hi hI=>?_) λrows hI=>?_
 ·rw[getD_eq_getElem?_getD,getElem?_map]
  cases(rng n)[i]?<;>exact Int.le_refl 0
 ·obtain⟨hl,nn,hb⟩:=hI
  have xb:=hU x (mem_of_getElem? hi)
  rw[zC,zC,zC,zC,zC]
  refine(VG g xb.1 xb.2).imp λns ⟨_,hns⟩=>?_
  rw[aj]
  refine(zT6 (xs:=ns) (λy hy=>ZP g xb.1 xb.2 y ((hns y).mp hy)) few).imp λb ⟨b0,bb⟩=>?_
  rw[aj,Nx xb.1 (by omega),aj]
  refine⟨by rw[length_set];exact hl,zUl hl xb.1 xb.2 nn (zU4 b0 i0),λs hs t ht=>?_⟩
  rw[xJ hi] at hs
  have s0:0<=s:=hs.elim (λh=>(hU s (List.mem_of_mem_take h)).1) λh=>h▸xb.1
  rw[zUd hl xb.1 xb.2 s0]
  by_cases e:s=x
  ·subst e
   rw[if_pos rfl,zU1 b0 i0,bb t ht,ib t ht,Bool.eq_iff_iff]
   simp[hns]
  ·rw[if_neg e]
   exact hb s (hs.resolve_right e) t ht
 ·obtain⟨hl,nn,hb⟩:=hI
  rw[take_length] at hb
  rw[zC,zC,aj]
  refine xE (λi rows=>(rows.length:Int)=n/\Jb rows/\(∀s∈U,∀t∈U,t∈nxt m.steps s->rb rows s t=true)/\(∀s∈U,∀t:Int,0<=t->rb rows s t=true->mV m.steps U s t)/\∀u∈U.take i,∀s∈U,∀t:Int,0<=t->rb rows s u=true->rb rows u t=true->rb rows s t=true)
   ⟨hl,nn,λs hs t ht h=>by rw[hb s hs t (hU t ht).1];exact decide_eq_true ⟨h,ht⟩,λs hs t ht h=>by
    rw[hb s hs t ht] at h
    have:=of_decide_eq_true h
    exact .one this.1 this.2,λu hu=>by simp at hu⟩ (λi u R0 hi hI=>?_) λrows hI=>?_
  ·obtain⟨hl0,nn0,ed0,ZQ,tr0⟩:=hI
   have um:=mem_of_getElem? hi
   have ub:=hU u um
   rw[zC,zC,aj]
   refine xE (λj rows=>(rows.length:Int)=n/\Jb rows/\∀s∈U,∀t:Int,0<=t->rb rows s t=(rb R0 s t||(decide (s∈U.take j)&&(rb R0 s u&&rb R0 u t)))) ⟨hl0,nn0,λs _ t _=>by simp⟩ (λj x rows hj hJ=>?_) λrows hJ=>?_
   ·obtain⟨hl1,Bv,hb1⟩:=hJ
    have xm:=mem_of_getElem? hj
    have xb:=hU x xm
    have ex:rb rows x u=rb R0 x u:=by
     rw[hb1 x xm u ub.1]
     cases rb R0 x u<;>simp
    have eu:∀t:Int,0<=t->rb rows u t=rb R0 u t:=λt ht=>by
     rw[hb1 u um t ht]
     cases rb R0 u t<;>simp
    rw[zMf hl1 Bv xb.1 xb.2 ub.1,zC,zC,aj,ex]
    by_cases c:rb R0 x u=true
    ·rw[c,if_pos rfl,zC,zC,Ti hl1 ub.1 ub.2,aj]
     unfold Fp
     rw[if_pos xb.1,Ti hl1 xb.1 xb.2]
     show W (rY rows x _) _
     rw[Nx xb.1 (by omega),aj,aj]
     refine⟨by rw[length_set];exact hl1,zUl hl1 xb.1 xb.2 Bv (Ja (Bv _) (Bv _)),λs hs t ht=>?_⟩
     rw[zUd hl1 xb.1 xb.2 (hU s hs).1]
     by_cases e:s=x
     ·subst e
      rw[if_pos rfl,I_ (Bv _) (Bv _)]
      show(rb rows s t||rb rows u t)=_
      rw[hb1 s hs t ht,eu t ht,c,decide_eq_true ((xJ hj).mpr (.inr rfl))]
      cases rb R0 s t<;>cases rb R0 u t<;>simp
     ·rw[if_neg e,hb1 s hs t ht]
      have:decide (s∈U.take (j+1))=decide (s∈U.take j):=by
       rw[Bool.eq_iff_iff,decide_eq_true_iff,decide_eq_true_iff,xJ hj]
       exact⟨λh=>h.resolve_right e,.inl⟩
      rw[this]
    ·have c:rb R0 x u=false:=by simpa using c
     rw[c,if_neg (by decide),aj,aj]
     refine⟨hl1,Bv,λs hs t ht=>?_⟩
     rw[hb1 s hs t ht]
     by_cases e:s=x
     ·subst e
      rw[c]
      simp
     ·have:decide (s∈U.take (j+1))=decide (s∈U.take j):=by
       rw[Bool.eq_iff_iff,decide_eq_true_iff,decide_eq_true_iff,xJ hj]
       exact⟨λh=>h.resolve_right e,.inl⟩
      rw[this]
   ·obtain⟨hl1,Bv,hb1⟩:=hJ
    rw[take_length] at hb1
    have nw:∀s∈U,∀t:Int,0<=t->(rb rows s t=true↔rb R0 s t=true\/(rb R0 s u=true/\rb R0 u t=true)):=λs hs t ht=>by
     rw[hb1 s hs t ht,decide_eq_true hs]
     simp
    rw[aj]
    refine⟨hl1,Bv,λs hs t ht h=>(nw s hs t (hU t ht).1).mpr (.inl (ed0 s hs t ht h)),λs hs t ht h=>?_,λv hv s hs t ht h1 h2=>?_⟩
    ·rcases(nw s hs t ht).mp h with h|⟨h,k⟩
     ·exact ZQ s hs t ht h
     ·exact(ZQ s hs u ub.1 h).trans (ZQ u um t ht k)
    ·rw[xJ hi] at hv
     refine(nw s hs t ht).mpr ?_
     rcases hv with hv|rfl
     ·have vU:=List.mem_of_mem_take hv
      have v0:=(hU v vU).1
      have T:=tr0 v hv
      rcases(nw s hs v v0).mp h1 with a|⟨a,b⟩<;>rcases(nw v vU t ht).mp h2 with c|⟨c,d⟩
      ·exact .inl (T s hs t ht a c)
      ·exact .inr ⟨T s hs u ub.1 a c,d⟩
      ·exact .inr ⟨a,T u um t ht b c⟩
      ·exact .inr ⟨a,d⟩
     ·have a:rb R0 s v=true:=((nw s hs v ub.1).mp h1).elim id And.left
      have b:rb R0 v t=true:=((nw v um t ht).mp h2).elim id And.right
      exact .inr ⟨a,b⟩
  ·obtain⟨hl1,Bv,ed,so,tr⟩:=hI
   rw[take_length] at tr
   rw[aj]
   exact⟨hl1,Bv,ed,so,λs hs u hu t ht=>tr u hu s hs t ht⟩
def ring(rows U:LI)(s:Int):LI:=U.filter λt=>rb rows s t&&rb rows t s
theorem aF:t∈ring rows U s↔t∈U/\rb rows s t=true/\rb rows t s=true:=by
 unfold ring
 rw[mem_filter,Bool.and_eq_true]
structure mX(xss:List LI)(U G:LI):Prop where
 sub:∀s∈G,s∈U
 nd:G.Nodup
 go:∀s∈G,∀t∈G,mV xss G s t
theorem mW.full(R:mW xss U rows)(h0:∀x∈U,0<=x)(h:mV xss U s t):s∈U->rb rows s t=true:=by
 induction h with
 |one a b=>exactλhs=>R.edge _ hs _ b a
 |step a b p ih=>exactλhs=>R.trans _ hs _ b _ (h0 _ p.mem) (R.edge _ hs _ b a) (ih b)
theorem zO0(R:mW xss U rows)(h0:∀x∈U,0<=x)(nd:U.Nodup)(ho:o∈U):mX xss U (ring rows U o):=by
 have key:∀{s t:Int},mV xss U s t->s∈ring rows U o->t∈ring rows U o->mV xss (ring rows U o) s t:=by
  intro s t h
  induction h with
  |one a b=>exactλ_ ht=>.one a ht
  |@step s u t a b p ih =>
   intro hs ht
   obtain⟨sU,s1,s2⟩:=aF.mp hs
   obtain⟨tU,t1,t2⟩:=aF.mp ht
   have u1:rb rows o u=true:=R.trans o ho s sU u (h0 u b) s1 (R.edge s sU u b a)
   have u2:rb rows u o=true:=R.trans u b t tU o (h0 o ho) (R.full h0 p b) t2
   have hu:=aF.mpr ⟨b,u1,u2⟩
   exact .step a hu (ih hu ht)
 refine⟨λs hs=>(aF.mp hs).1,nd.filter _,λs hs t ht=>?_⟩
 obtain⟨sU,s1,s2⟩:=aF.mp hs
 obtain⟨tU,t1,t2⟩:=aF.mp ht
 exact key (R.sound s sU t (h0 t tU) (R.trans s sU o ho t (h0 t tU) s2 t1)) hs ht
structure Gs(rows U:LI)(told:List LI):Prop where
 are:∀G∈told,∃s∈U,rb rows s s=true/\G=ring rows U s
 nd:told.flatten.Nodup
 all:∀s∈U,rb rows s s=true->s∈told.flatten
theorem zNy(h:∀x∈xs,0<=x/\x<n)(hl:xs.length<64):N5 xs=some (vN xs)/\eY n (vN xs):=by
 unfold N5
 rw[if_pos hl]
 exact⟨rfl,N6 xs,λx hx=>h x (bW.mp hx)⟩
theorem zNz{C:Addr}{m:aD C}(g:Gr m n)(hx:∀x∈xs,0<=x/\x<n)(hl:xs.length<64):W (Oo m xs) λtold=>∃rows,mW m.steps (vN xs) rows/\Gs rows (vN xs) told:=by
 obtain⟨e,hR⟩:=zNy hx hl
 have few:=g.few
 have pos:=g.pos
 unfold Oo
 rw[e,zC,aj,zC]
 generalize vN xs=U at hR ⊢
 have h0:∀x∈U,0<=x:=λx hx=>(hR.2 x hx).1
 have Ul:U.length<=n.toNat:=xD hR.nodup λx hx=>by have:=hR.2 x hx;omega
 refine(zRu g hR.2).imp λrows ⟨rl,R⟩=>?_
 rw[zC,aj,zC,aj,zC,zC,aj]
 refine xE (λi z=>∃told:List LI,z=(told,dl told.flatten)/\(∀G∈told,∃s∈U,rb rows s s=true/\G=ring rows U s)/\told.flatten.Nodup/\(∀s∈U.take i,rb rows s s=true->s∈told.flatten)/\told.length<=i) ⟨[],rfl,λG hG=>(by cases hG),by simp,λs hs=>(by simp at hs),Nat.le_refl _⟩ (λi x z hi hI=>?_) λz hI=>?_
 ·obtain⟨told,rfl,are,nd,all,tl⟩:=hI
  have xm:=mem_of_getElem? hi
  have xb:=hR.2 x xm
  have sub:∀t∈told.flatten,t∈U:=λt ht=>by
   obtain⟨G,hG,tG⟩:=mem_flatten.mp ht
   obtain⟨s,_,_,rfl⟩:=are G hG
   exact(aF.mp tG).1
  have il:i<U.length:=(List.getElem?_eq_some_iff.mp hi).1
  rw[zC,zC]
  show W (if(!(bU (dl told.flatten) x).isSome)=true then _ else _) _
  rw[VH]
  by_cases xf:x∈told.flatten
  ·rw[decide_eq_true xf,Bool.not_true,if_neg (by decide),aj,if_neg (by decide),aj,aj]
   exact⟨told,rfl,are,nd,λs hs h=>((xJ hi).mp hs).elim (λq=>all s q h) λq=>q▸xf,by omega⟩
  ·rw[decide_eq_false xf,Bool.not_false,if_pos rfl,zMf rl R.nn xb.1 xb.2 xb.1,aj]
   by_cases c:rb rows x x=true
   ·have dis:∀t∈ring rows U x,t∉told.flatten:=λt ht tf=>by
     obtain⟨G,hG,tG⟩:=mem_flatten.mp tf
     obtain⟨s,sU,_,rfl⟩:=are G hG
     obtain⟨tU,t1,t2⟩:=aF.mp ht
     obtain⟨_,t3,t4⟩:=aF.mp tG
     exact xf (mem_flatten.mpr ⟨_,hG,aF.mpr ⟨xm,R.trans s sU t tU x xb.1 t3 t2,R.trans x xm t tU s (h0 s sU) t1 t4⟩⟩)
    have rn:(ring rows U x).Nodup:=hR.nodup.filter _
    have pL:(told.flatten++ring rows U x).Nodup:=by
     rw[nodup_append]
     exact⟨nd,rn,λa ha b hb e=>dis b hb (e▸ha)⟩
    have ln:(told.flatten++ring rows U x).length<=n.toNat:=xD pL λy hy=>by
     have:y∈U:=(mem_append.mp hy).elim (sub y) λq=>(aF.mp q).1
     have:=hR.2 y this
     omega
    rw[c,if_pos rfl,zC,zC,aj,uB (p:=λt=>rb rows x t&&rb rows t x) (g:=λt=>t) (yH (by omega)) (λt ht=>zR0 rl R.nn xb.1 xb.2 (hR.2 t ht).1 (hR.2 t ht).2) (λt _=>rfl),aj,map_id']
    show W ((push told (ring rows U x)).bind _) _
    rw[zC,Ca]
    refine⟨yH (by omega),?_⟩
    rw[zC,zC,aj]
    refine xE (λk d=>d=dl (told.flatten++(ring rows U x).take k)) (by rw[List.take_zero,append_nil]) (λk y d hk hd=>?_) λd hd=>?_
    ·subst hd
     have hk:(ring rows U x)[k]?=some y:=hk
     have ym:=mem_of_getElem? hk
     have kl:=(List.getElem?_eq_some_iff.mp hk).1
     have yn:y∉told.flatten++(ring rows U x).take k:=λq=>by
      rcases mem_append.mp q with q|q
      ·exact dis y ym q
      ·obtain⟨j,hj,e⟩:=getElem_of_mem q
       rw[List.getElem_take] at e
       rw[length_take] at hj
       have e2:=(List.getElem?_eq_some_iff.mp hk).2
       have:=(List.nodup_iff_pairwise_ne.mp rn)
       have ne:=List.pairwise_iff_getElem.mp this j k (by omega) kl (by omega)
       exact ne (e.trans e2.symm)
     rw[zC,zU6,zUu yn,zUv]
     refine⟨yH ?_,?_⟩
     ·rw[length_append] at ln ⊢
      rw[length_take]
      omega
     ·rw[aj,uE hk,append_assoc]
    ·subst hd
     rw[show(ring rows U x).take (U.filter λt=>rb rows x t&&rb rows t x).length=ring rows U x from take_length,aj,aj]
     refine⟨told++[ring rows U x],by rw[flatten_append,flatten_singleton],λG hG=>?_,by rw[flatten_append,flatten_singleton];exact pL,λs hs h=>?_,by rw[length_append];exact Nat.succ_le_succ tl⟩
     ·rcases mem_append.mp hG with q|q
      ·exact are G q
      ·exact⟨x,xm,c,mem_singleton.mp q⟩
     ·rw[flatten_append,flatten_singleton,mem_append]
      exact((xJ hi).mp hs).elim (λq=>.inl (all s q h)) λq=>.inr (by rw[q];exact aF.mpr ⟨xm,c,c⟩)
   ·have c':rb rows x x=false:=by simpa using c
    rw[c',if_neg (by decide),aj,aj]
    exact⟨told,rfl,are,nd,λs hs h=>((xJ hi).mp hs).elim (λq=>all s q h) λq=>absurd (q▸h) c,by omega⟩
 ·obtain⟨told,rfl,are,nd,all,_⟩:=hI
  rw[take_length] at all
  rw[aj]
  exact⟨rows,R,are,nd,all⟩
def Cm(n:Int)(fair:List LI):Prop:=fair.length<=100/\∀F∈fair,ux n F
def xS(fair:List LI)(G:LI):Bool:=fair.all λF=>G.any λx=>decide (x∈F)
theorem sI(h:ux n xs)(YW:n<=60)(h0:0<=n):xs.length<=60:=by
 have:=xD (n:=n.toNat) h.1 λx hx=>by have:=h.2.2 x hx;omega
 omega
theorem ZR{C:Addr}{m:aD C}{n:Int}(g:Gr m n)(hf:Cm n m.fair){i:Nat}{F:LI}(hi:m.fair[i]?=some F):W (yX m (i:Int)) λxs=>xs.length<=60/\∀x,x∈xs↔x∈F:=by
 unfold yX
 have few:=g.few
 have pos:=g.pos
 have l:=sI (hf.2 F (mem_of_getElem? hi)) few (by omega)
 rw[zC,fB (by omega)]
 refine⟨F,by rw[Int.toNat_natCast];exact hi,?_⟩
 unfold qN
 rw[if_pos (by omega),aj]
 exact⟨by rw[(vX _).length_eq];exact l,λx=>(vX _).mem_iff⟩
theorem zIh{xs ys:LI}(h:xs.length<64\/ys.length<64)(h1:xs.length<4000)(h2:ys.length<4000):vE xs ys=some (vN (xs.filter λz=>decide (z∈ys))):=by
 unfold vE Vi
 rw[if_pos ⟨h,h1,h2⟩]
theorem ZS{xs ys:LI}(h1:xs.length<64)(h2:ys.length<4000):vE xs ys=some (vN (xs.filter λz=>decide (z∈ys))):=zIh (.inl h1) (by omega) h2
theorem cZ:(vN xs).length=0↔xs=[]:=by
 rw[length_eq_zero_iff]
 constructor
 ·intro h
  cases xs with
  |nil=>rfl
  |cons x xs =>
   have:=(bW (x:=x) (ns:=x::xs)).mpr mem_cons_self
   rw[h] at this
   cases this
 ·intro h;subst h;rfl
theorem zLa{C:Addr}{m:aD C}(g:Gr m n)(hf:Cm n m.fair){G:LI}(hG:G.length<64):W (yQ m G) λo=>o.isNone=xS m.fair G:=by
 unfold yQ
 have hl:=hf.1
 rw[zC,zC,xZ]
 refine⟨⟨by omega,by omega⟩,zRo (λi _=>∀F∈m.fair.take i,(G.any λx=>decide (x∈F))=true) (λF hF=>by simp at hF) (λi x s hi hI=>?_) λs hI=>?_⟩
 ·obtain⟨rfl,hx⟩:=wz hi
  have il:i<m.fair.length:=by omega
  have hF:m.fair[i]?=some m.fair[i]:=List.getElem?_eq_getElem il
  rw[zC,zC,zC,zC,zC,zC]
  refine(ZR g hf hF).imp λys ⟨yl,ym⟩=>?_
  rw[aj,aj]
  show W (vE G ys) _
  rw[ZS hG (by omega),aj,aj,aj]
  by_cases e:G.filter (λz=>decide (z∈ys))=[]
  ·rw[decide_eq_true (show((vN (G.filter λz=>decide (z∈ys))).length:Int)=0 by have:=cZ.mpr e;omega),if_pos rfl,zC,aj,aj]
   refine .inr ⟨_,rfl,?_⟩
   show W (some (some (i:Int))) _
   rw[aj]
   symm
   show xS m.fair G=false
   have:(G.any λx=>decide (x∈m.fair[i]))=false:=by
    rw[any_eq_false]
    intro x hx q
    have q:=of_decide_eq_true q
    have:x∈G.filter (λz=>decide (z∈ys)):=mem_filter.mpr ⟨hx,decide_eq_true ((ym x).mpr q)⟩
    rw[e] at this
    cases this
   unfold xS
   rw[List.all_eq_false]
   exact⟨_,getElem_mem il,by rw[this];decide⟩
  ·rw[decide_eq_false (λz=>e (cZ.mp (by omega))),if_neg (by decide),aj]
   refine .inl ⟨(),rfl,λF hF'=>?_⟩
   rw[uE hF,mem_append,mem_singleton] at hF'
   rcases hF' with q|q
   ·exact hI F q
   ·subst q
    obtain⟨x,hx⟩:=List.exists_mem_of_ne_nil _ e
    rw[mem_filter] at hx
    exact any_eq_true.mpr ⟨x,hx.1,decide_eq_true ((ym x).mp (of_decide_eq_true hx.2))⟩
 ·have e:(rng (m.fair.length:Int)).length=m.fair.length:=by have:=wG (n:=(m.fair.length:Int)) (by omega);omega
  rw[e,take_length] at hI
  rw[Ep,aj]
  symm
  show xS m.fair G=true
  exact all_eq_true.mpr hI
theorem zLl{U:LI}(h:U.length<=k):(ring rows U s).length<=k:=Nat.le_trans (length_filter_le ..) h
structure pF(xss:List LI)(fair:List LI)(U goal:LI):Prop where
 nd:goal.Nodup
 sub:∀s∈goal,s∈U
 of:∀s∈goal,∃G:LI,mX xss U G/\s∈G/\xS fair G=true/\∀t∈G,t∈goal
 all:∀s∈U,∀G:LI,(∀t,t∈G↔t∈U/\mV xss U s t/\mV xss U t s)->mV xss U s s->xS fair G=true->s∈goal
theorem zJd(h:∀t,t∈G↔t∈G'):xS fair G=xS fair G':=by
 unfold xS
 congr 1
 funext F
 rw[Bool.eq_iff_iff,any_eq_true,any_eq_true]
 exact⟨λ⟨x,a,b⟩=>⟨x,(h x).mp a,b⟩,λ⟨x,a,b⟩=>⟨x,(h x).mpr a,b⟩⟩
theorem zN4{C:Addr}{m:aD C}(g:Gr m n)(hf:Cm n m.fair)(hx:∀x∈xs,0<=x/\x<n)(hl:xs.length<64) :
  W (xC m xs) λa=>a.length<=60/\(∀G∈a,mX m.steps (vN xs) G/\xS m.fair G=true)/\W (uA a) λgoal=>goal=a.flatten/\pF m.steps m.fair (vN xs) goal:=by
 have few:=g.few
 have pos:=g.pos
 have hR:=(zNy hx hl).2
 have h0:∀x∈vN xs,0<=x:=λx hx=>(hR.2 x hx).1
 have Ul:(vN xs).length<=n.toNat:=xD hR.nodup λx hx=>by have:=hR.2 x hx;omega
 unfold xC
 rw[zC]
 refine(zNz g hx hl).imp λtold ⟨rows,R,T⟩=>?_
 have tl:told.length<=60/\told.flatten.length<=60:=by
  have f:told.flatten.length<=n.toNat:=xD T.nd λy hy=>by
   obtain⟨G,hG,yG⟩:=mem_flatten.mp hy
   obtain⟨s,_,_,rfl⟩:=T.are G hG
   have:=hR.2 y (aF.mp yG).1
   omega
  refine⟨?_,by omega⟩
  have ne:∀G∈told,1<=G.length:=λG hG=>by
   obtain⟨s,sU,c,rfl⟩:=T.are G hG
   exact length_pos_of_mem (aF.mpr ⟨sU,c,c⟩)
  have:∀l:List LI,(∀G∈l,1<=G.length)->l.length<=l.flatten.length:=λl=>by
   induction l with
   |nil=>intro _;exact Nat.zero_le _
   |cons G l ih =>
    intro h
    rw[flatten_cons,length_append,length_cons]
    have a:=ih λG' hG'=>h G' (mem_cons_of_mem _ hG')
    have b:=h G mem_cons_self
    omega
  have:=this told ne
  omega
 have gl:∀G∈told,G.length<64:=λG hG=>by
  obtain⟨s,_,_,rfl⟩:=T.are G hG
  have:=zLl (rows:=rows) (s:=s) Ul
  omega
 rw[uB (p:=xS m.fair) (g:=λG=>G) (yH (by omega)) (λG hG=>by
  obtain⟨o,e,q⟩:=zLa g hf (gl G hG)
  rw[e]
  exact congrArg some q) (λ_ _=>rfl),aj,map_id']
 have fl:∀l:List LI,(l.filter (xS m.fair)).flatten.Sublist l.flatten:=λl=>by
  induction l with
  |nil=>exact Sublist.refl _
  |cons G l ih =>
   rw[filter_cons]
   split
   ·rw[flatten_cons,flatten_cons];exact(Sublist.refl _).append ih
   ·rw[flatten_cons];exact ih.trans (sublist_append_right ..)
 have js:W (uA (told.filter (xS m.fair))) (· = (told.filter (xS m.fair)).flatten):=by
  unfold uA
  rw[zC,aj,zC,zC,aj]
  refine xE (λi s=>s=((told.filter (xS m.fair)).take i).flatten) (by rw[List.take_zero];rfl) (λi G s hi hI=>?_) λs hI=>?_
  ·subst hI
   unfold qO
   have e:((told.filter (xS m.fair)).take i).flatten++G=((told.filter (xS m.fair)).take (i+1)).flatten:=by rw[uE hi,flatten_append,flatten_singleton]
   have l:(((told.filter (xS m.fair)).take i).flatten++G).length<=60:=by
    rw[e]
    have a:((told.filter (xS m.fair)).take (i+1)).flatten.Sublist (told.filter (xS m.fair)).flatten:=by
     have e2:(told.filter (xS m.fair)).flatten=((told.filter (xS m.fair)).take (i+1)).flatten++((told.filter (xS m.fair)).drop (i+1)).flatten:=by rw[<-flatten_append,take_append_drop]
     rw[e2]
     exact List.sublist_append_left ..
    have:=(a.trans (fl told)).length_le
    omega
   rw[length_append] at l
   rw[if_pos (yH (by omega)),zC,aj,aj,e]
  ·subst hI
   rw[take_length,aj]
 refine⟨Nat.le_trans (length_filter_le ..) tl.1,λG hG=>?_,js.imp λgoal e=>⟨e,?_⟩⟩
 ·obtain⟨o,oU,_,rfl⟩:=T.are G (mem_filter.mp hG).1
  exact⟨zO0 R h0 hR.nodup oU,(mem_filter.mp hG).2⟩
 subst e
 refine⟨T.nd.sublist (fl told),λs hs=>?_,λs hs=>?_,λs sU G hG p q=>?_⟩
 ·obtain⟨G,hG,sG⟩:=mem_flatten.mp hs
  obtain⟨o,_,_,rfl⟩:=T.are G (mem_filter.mp hG).1
  exact(aF.mp sG).1
 ·obtain⟨G,hG,sG⟩:=mem_flatten.mp hs
  obtain⟨o,oU,_,rfl⟩:=T.are G (mem_filter.mp hG).1
  exact⟨_,zO0 R h0 hR.nodup oU,sG,(mem_filter.mp hG).2,λt ht=>mem_flatten.mpr ⟨_,hG,ht⟩⟩
 ·obtain⟨G',hG',sG⟩:=mem_flatten.mp (T.all s sU (R.full h0 p sU))
  obtain⟨o,oU,oo,rfl⟩:=T.are G' hG'
  obtain⟨_,s1,s2⟩:=aF.mp sG
  refine mem_flatten.mpr ⟨_,mem_filter.mpr ⟨hG',?_⟩,sG⟩
  rw[<-q]
  refine zJd λt=>?_
  rw[hG t,aF]
  constructor
  ·rintro⟨tU,t1,t2⟩
   exact⟨tU,R.sound s sU t (h0 t tU) (R.trans s sU o oU t (h0 t tU) s2 t1),R.sound t tU s (h0 s sU) (R.trans t tU o oU s (h0 s sU) t2 s1)⟩
  ·rintro⟨tU,t1,t2⟩
   exact⟨tU,R.trans o oU s sU t (h0 t tU) s1 (R.full h0 t1 sU),R.trans t tU s sU o (h0 o oU) (R.full h0 t2 tU) s2⟩
theorem Mt{C:Addr}{m:aD C}(g:Gr m n)(hf:Cm n m.fair)(hx:∀x∈xs,0<=x/\x<n)(hl:xs.length<64) :
  W ((xC m xs).bind λa=>uA a) (pF m.steps m.fair (vN xs)):=by
 rw[zC]
 exact(zN4 g hf hx hl).imp λa ⟨_,_,h⟩=>h.imp λ_ q=>q.2
theorem Gu{C:Addr}{m:aD C}(g:Gr m n){goal:LI}(ht:∀x∈through,0<=x/\x<n)(hg:goal.Nodup/\∀x∈goal,0<=x/\x<n):W (wC m through goal) λR=>∃d,cU m.steps through goal n d/\R=pick n λs=>(dg d s).isSome:=by
 unfold wC
 have few:=g.few
 have pos:=g.pos
 rw[zC]
 refine(VF g ht hg).imp λd D=>?_
 have rl:=wG (n:=n) (by omega)
 rw[zC,aj,zL8 D.len]
 have e:yU (λx:Int×Option Int=>some x.2.isSome) (λx:Int×Option Int=>some x.1) ((rng n).map λs=>(s,dg d s))=some (pick n λs=>(dg d s).isSome):=by
  rw[uB (p:=λx:Int×Option Int=>x.2.isSome) (g:=λx:Int×Option Int=>x.1) (yH (by rw[length_map];omega)) (λ_ _=>rfl) (λ_ _=>rfl)]
  congr 1
  rw[List.filter_map,map_map]
  exact map_id' _
 rw[e,aj]
 exact⟨d,D,rfl⟩
structure ZV(xss fair:List LI)(n:Int)(U R:LI):Prop where
 rise:eY n R
 sub:∀s∈R,s∈U
 go:∀s∈R,∃t∈nxt xss s,t∈R
 come:∀s∈R,∀F∈fair,∃x∈F,x=s\/mV xss R s x
theorem Gv(c:Int):W (uH c) λn=>1<=n/\n<=12:=by
 unfold uH
 simp only[zC,pZ,Ac,aj,w5]
 refine⟨by decide,λ_=>⟨⟨by decide,by decide⟩,by decide,by omega⟩,λ_=>⟨⟨by decide,by decide⟩,by decide,by omega⟩⟩
theorem zRw(c:Int)(h0:1<=n)(h1:n<=60):W (vT c n) (λf=>Cm n f/\f.length<=4):=by
 unfold vT
 rw[zC,aj,zC,Ac]
 refine⟨⟨by decide,by decide⟩,?_⟩
 rw[zC,zC,zC,pZ]
 refine⟨by decide,?_⟩
 have c4:0<=c%4/\c%4<4:=by omega
 rw[xZ]
 refine⟨⟨by omega,by omega⟩,?_⟩
 have rl:=wG (n:=c%4) c4.1
 refine xE (λi z=>z.2.length<=i/\∀F∈z.2,ux n F) ⟨Nat.le_refl _,λF hF=>by cases hF⟩ (λi x z hi hI=>?_) λz hI=>?_
 ·obtain⟨rfl,hx⟩:=wz hi
  obtain⟨rest,fair⟩:=z
  obtain⟨fl,fo⟩:=hI
  dsimp only at fl fo
  rw[zC,aj,zC,zC,zC]
  refine(Gi c (k:=400+(i:Int)) (by omega) (by omega)).imp λr hr=>?_
  rw[pZ]
  refine⟨by decide,?_⟩
  have r5:0<=r%5/\r%5<5:=by omega
  rw[fB r5.1]
  refine⟨_,List.getElem?_eq_getElem (by simp;omega),?_⟩
  generalize([(1:Int),2,2,3,6])[(r%5).toNat]'_=way
  rw[zC,zC,xZ]
  refine⟨⟨by omega,by omega⟩,?_⟩
  have rn:=wG (n:=n) (by omega)
  refine xE (λj z=>eY j z.1/\z.1.length<=j) ⟨Xq,Nat.le_refl _⟩ (λj y z hj hJ=>?_) λz hJ=>?_
  ·obtain⟨rfl,hy⟩:=wz hj
   simp only[zC,Ac,U0,pZ,UW,aj,w5,Ca]
   refine⟨.inl ⟨by decide,by decide⟩,(Gi c (by omega) (by omega)).imp λr2 _=>⟨by decide,⟨by decide,by decide,by decide⟩,λ_=>⟨by decide,?_⟩,λ_=>?_⟩⟩
   all_goals exact⟨λ_=>⟨yH (by omega),⟨by decide,by decide⟩,Xr hJ.1 (by omega) (by omega),by rw[length_append];exact Nat.succ_le_succ hJ.2⟩,λ_=>⟨⟨by decide,by decide⟩,Xu hJ.1 (by omega),by omega⟩⟩
  ·obtain⟨cF,Tj⟩:=z
   obtain⟨sr,_⟩:=hJ
   rw[rn] at sr
   have s1:ux n cF:=ZJ sr h1
   have Jc:∀F:LI,ux n F->W ((push fair F).bind λf=>some (Tj,f)) λz=>z.2.length<=i+1/\∀F∈z.2,ux n F:=λF hF=>by
    rw[zC,Ca]
    refine⟨yH (by omega),?_⟩
    rw[aj]
    refine⟨by show(fair++[F]).length<=_;rw[length_append];exact Nat.succ_le_succ fl,λF' hF'=>?_⟩
    rcases mem_append.mp hF' with q|q
    ·exact fo F' q
    ·exact(mem_singleton.mp q)▸hF
   rw[zC,zC]
   have cond:W (if(decide (cF=([]:LI)))=true then((oG ((10:Int)) ((18:Int))).bind λZn=>some (decide ((c)<(Zn)))).bind λZo=>if Zo=true then((vR (c) (((450:Int))+((i:Int)))).bind λa32=>bT (a32) ((8:Int))).bind λa33=>some (decide (((0:Int))<(a33))) else some false else some false) λ_=>True:=by
    rw[w5]
    refine⟨λ_=>?_,λ_=>aj.mpr trivial⟩
    rw[zC,zC,U0]
    refine⟨⟨by decide,by decide,by decide⟩,?_⟩
    rw[aj,w5]
    refine⟨λ_=>?_,λ_=>aj.mpr trivial⟩
    rw[zC,zC]
    refine(Gi c (k:=450+(i:Int)) (by omega) (by omega)).imp λr2 _=>?_
    rw[pZ]
    exact⟨by decide,aj.mpr trivial⟩
   refine cond.imp λb _=>?_
   rw[w5]
   refine⟨λ_=>?_,λ_=>?_⟩
   ·rw[zC,zC,zC]
    refine(Gi c (k:=460+(i:Int)) (by omega) (by omega)).imp λr2 hr2=>?_
    rw[pZ]
    refine⟨by omega,?_⟩
    rw[aj,aj]
    refine Jc _ ⟨by simp,by simp,λz hz=>?_⟩
    rw[mem_singleton.mp hz]
    exact⟨Int.emod_nonneg _ (by omega),Int.emod_lt_of_pos _ (by omega)⟩
   ·rw[aj]
    exact Jc _ s1
 ·rw[aj]
  exact⟨⟨by omega,hI.2⟩,by omega⟩
theorem zGq{α β:Type}{c c':α->Option Bool}{f f':α->Option β}:∀{xs:List α},(∀x∈xs,c x=c' x)->(∀x∈xs,f x=f' x)->wB c f xs=wB c' f' xs
 |[],_,_=>rfl
 |x::xs,h1,h2=>by
  show(c x).bind _=(c' x).bind _
  rw[h1 x mem_cons_self,h2 x mem_cons_self,zGq (λy hy=>h1 y (mem_cons_of_mem _ hy)) λy hy=>h2 y (mem_cons_of_mem _ hy)]
theorem Gw{α β:Type}{c:α->Option Bool}{f:α->Option β}(c':α->Bool)(f':α->β){xs:List α}{Q:List β->Prop}(h1:∀x∈xs,c x=some (c' x))(h2:∀x∈xs,f x=some (f' x)):W (yU c f xs) Q↔xs.length<cap/\Q ((xs.filter c').map f'):=by
 have e:yU c f xs=yU (λx=>some (c' x)) (λx=>some (f' x)) xs:=by
  unfold yU
  rw[zGq h1 h2]
 rw[e,zU7]
theorem zS8(h:∀x,x∈xs↔x∈ys)(hx:xs≠[]):iG xs=iG ys:=by
 have hy:ys≠[]:=λe=>by
  have:=(h _).mp (Ku hx)
  rw[e] at this
  cases this
 have a:=U3 ((h _).mp (Ku hx))
 have b:=U3 ((h _).mpr (Ku hy))
 omega
theorem Tn:W (tX ns) Q↔ns≠[]/\Q (iG ns):=by
 unfold tX
 split
 ·rename_i h;rw[sH];exact⟨False.elim,λq=>q.1 h⟩
 ·rename_i h;rw[aj];exact⟨λq=>⟨h,q⟩,λq=>q.2⟩
theorem Oz{α:Type}{pre:List α}{x:α}:L2.aH (pre++[x]) (-1)=some x:=by
 unfold L2.aH qK
 rw[if_neg (by decide),length_append,if_pos (by simp;omega)]
 show(pre++[x])[((-1:Int)+((pre.length+[x].length:Nat):Int)).toNat]?=some x
 rw[show((-1:Int)+((pre.length+[x].length:Nat):Int)).toNat=pre.length by simp;omega]
 rw[getElem?_append_right (Nat.le_refl _),Nat.sub_self]
 rfl
section
variable{xss:List LI}{through goal:LI}{n:Int}{d:List (Option Int)}
def rK(xss:List LI)(d:List (Option Int))(k:Int)(t:Int):Int:=iG ((nxt xss t).filter λo=>decide (dg d o=some k))
def cw(xss:List LI)(d:List (Option Int)):Nat->Int->LI
 |0,t=>[t]
 |k+1,t=>t::cw xss d k (rK xss d k t)
theorem cw_len:∀(k:Nat)(t:Int),(cw xss d k t).length=k+1
 |0,_=>rfl
 |k+1,t=>by show(cw xss d k _).length+1=_;rw[cw_len k]
theorem ZW(D:cU xss through goal n d){t:Int}{k:Nat}(t0:0<=t)(t1:t<n)(h:dg d t=some ((k:Int)+1)):(nxt xss t).filter (λo=>decide (dg d o=some (k:Int)))≠[]/\t∈through:=by
 have tg:t∉goal:=λq=>by
  rw[(D.zero t t0 t1).mpr q] at h
  have:=Option.some.inj h
  omega
 obtain⟨q1,u,q2,q3,q4,q5⟩:=D.via t _ t0 t1 h tg
 refine⟨λe=>?_,q1⟩
 have:u∈(nxt xss t).filter (λo=>decide (dg d o=some (k:Int))):=mem_filter.mpr ⟨q2,decide_eq_true (by rw[q5];congr 1;omega)⟩
 rw[e] at this
 cases this
theorem zO9(D:cU xss through goal n d){t:Int}{k:Nat}(t0:0<=t)(t1:t<n)(h:dg d t=some ((k:Int)+1)):rK xss d k t∈nxt xss t/\dg d (rK xss d k t)=some (k:Int):=by
 have:=mem_filter.mp (Ku (ZW D t0 t1 h).1)
 exact⟨this.1,of_decide_eq_true this.2⟩
structure Wa(xss:List LI)(d:List (Option Int))(n:Int)(all:LI)(walk:LI)(j:Nat):Prop where
 ex:∃pre t,walk=pre++[t]/\pre++cw xss d j t=all/\0<=t/\t<n/\dg d t=some (j:Int)
theorem Wa.done(w:Wa xss d n all walk 0):walk=all:=by
 obtain⟨pre,t,h1,h2,_⟩:=w.ex
 rw[h1,<-h2]
 rfl
theorem Wa.next(D:cU xss through goal n d)(hr:∀s t:Int,0<=s->s<n->t∈nxt xss s->0<=t/\t<n)(h2:pre++cw xss d (j+1) t=all)(t0:0<=t)(t1:t<n)(h:dg d t=some ((j:Int)+1)):Wa xss d n all ((pre++[t])++[rK xss d j t]) j:=by
 obtain⟨p1,p2⟩:=zO9 D t0 t1 h
 have:=hr t _ t0 t1 p1
 exact⟨pre++[t],_,rfl,by rw[<-h2,append_assoc];rfl,this.1,this.2,p2⟩
theorem Wa.len(w:Wa xss d n all walk j):walk.length<=all.length:=by
 obtain⟨pre,t,h1,h2,_⟩:=w.ex
 rw[h1,<-h2,length_append,length_append,cw_len]
 simp
end
theorem zF4{C:Addr}{m:aD C}(g:Gr m n)(D:cU m.steps through goal n d)(h0:0<=s)(h1:s<n) :
  W (vQ m d s) λr=>r=(dg d s).map λk=>cw m.steps d k.toNat s:=by
 have hr:∀s t:Int,0<=s->s<n->t∈nxt m.steps s->0<=t/\t<n:=λs t s0 s1 ht=>(g.row _ (mem_of_getElem? (Mq g.len s0 s1))).2.2 t ht
 have hf:=g.few
 unfold vQ
 rw[zC,zC,fB h0]
 refine⟨_,Te D.len h0 h1,?_⟩
 rw[aj]
 cases hk:dg d s with
 |none=>rw[show(none:Option Int).isNone=true from rfl,if_pos rfl,aj];rfl
 |some k =>
  have hkp:=D.pos s k h0 h1 hk
  rw[show(some k).isNone=false from rfl,if_neg (by decide),zC,aj,zC,zC,zC,zC,zC,fB h0]
  refine⟨_,Te D.len h0 h1,?_⟩
  rw[hk,aj,aj,Kw]
  refine⟨⟨by omega,by omega,by decide,by decide⟩,xE (λi walk=>i<=k.toNat/\Wa m.steps d n (cw m.steps d k.toNat s) walk (k.toNat-i)) ⟨Nat.zero_le _,⟨[],s,rfl,rfl,h0,h1,by rw[hk];congr 1;omega⟩⟩ (λi x walk hi hI=>?_) λwalk hI=>?_⟩
  ·obtain⟨hx1,rfl⟩:=zQ1 hi
   obtain⟨hle,⟨pre,t,rfl,e2,t0,t1,e3⟩⟩:=hI
   have hj:∃j:Nat,k.toNat-i=j+1/\k-1-(i:Int)=(j:Int):=⟨k.toNat-i-1,by omega,by omega⟩
   obtain⟨j,j1,j2⟩:=hj
   rw[j1] at e2 e3
   have e3:dg d t=some ((j:Int)+1):=by rw[e3];rfl
   rw[zC,zC,zC,zC,zC,zC,Oz,aj,aj]
   refine(VG g t0 t1).imp λxs ⟨W5,hxs⟩=>?_
   rw[Gw (λx=>decide (dg d x=some (j:Int))) (λx=>x) (λx hx=>?_) λx _=>rfl]
   ·refine⟨yH (by omega),?_⟩
    rw[map_id',Tn]
    have mem:∀y,y∈xs.filter (λx=>decide (dg d x=some (j:Int)))↔y∈(nxt m.steps t).filter (λo=>decide (dg d o=some (j:Int))):=λy=>by rw[mem_filter,mem_filter,hxs]
    have ne:xs.filter (λx=>decide (dg d x=some (j:Int)))≠[]:=λe=>by
     have:=(mem _).mpr (Ku (ZW D t0 t1 e3).1)
     rw[e] at this
     cases this
    refine⟨ne,?_⟩
    rw[zS8 mem ne,Ca,aj]
    have w2:Wa m.steps d n (cw m.steps d k.toNat s) ((pre++[t])++[rK m.steps d j t]) j:=Wa.next D hr e2 t0 t1 e3
    have hlen:=w2.len
    rw[cw_len,length_append] at hlen
    have hl1:([rK m.steps d j t]:LI).length=1:=rfl
    refine⟨yH (by omega),by omega,?_⟩
    rw[show k.toNat-(i+1)=j by omega]
    exact w2
   ·have:=hr t x t0 t1 ((hxs x).mp hx)
    rw[uP this.1,Te D.len this.1 this.2,j2]
    rfl
  ·rw[aj]
   obtain⟨_,hw⟩:=hI
   have e:k.toNat-((List.range (k-1 - -1).toNat).map λj=>k-1-Int.ofNat j).length=0:=by rw[length_map,length_range];omega
   rw[e] at hw
   rw[hw.done]
   rfl
theorem zEe{C:Addr}{m:aD C}(g:Gr m n)(e:xV m through goal=some d)(D:cU m.steps through goal n d)(h0:0<=s)(h1:s<n) :
  W (xQ m through goal s) λr=>r=(dg d s).map λk=>cw m.steps d k.toNat s:=by
 unfold xQ
 rw[zC,zC,zC,e,aj,aj,aj]
 exact zF4 g D h0 h1
theorem Mu:W (qN ns) Q↔ns.length<64/\Q (Ra ns):=by
 unfold qN
 split
 ·rename_i h;rw[aj];exact⟨λq=>⟨h,q⟩,λq=>q.2⟩
 ·rename_i h;rw[sH];exact⟨False.elim,λq=>h q.1⟩
section
variable{xss:List LI}{through goal:LI}{n:Int}{d:List (Option Int)}
end
inductive Rc(xss:List LI)(U:LI)(s:Int):Int->Prop
 |here:Rc xss U s s
 |on {t u:Int}:Rc xss U s t->u∈nxt xss t->u∈U->Rc xss U s u
def Fd(xss:List LI)(U:LI)(s:Int)(found:LI):Prop:=found.Pairwise (· < ·)/\∀t,t∈found↔Rc xss U s t
theorem Gx{C:Addr}{m:aD C}(g:Gr m n)(hU:eY n U)(hs:s∈U):W (SJ m U s) (Fd m.steps U s):=by
 unfold SJ
 have few:=g.few
 have hbd:∀x∈U,0<=x/\x<n:=hU.2
 rw[zC]
 refine(Zz g hU.2).imp λfl ⟨fll,hfl⟩=>?_
 rw[zC,aj,zC,aj,zC,aj,zC]
 have Mv:∀{row:LI},row.Nodup->(∀x∈row,x∈U)->row.length<=n.toNat:=λnd sub=>xD nd λx hx=>by have:=hbd x (sub x hx);omega
 refine zRn (λst=>∃(row:LI)(p:Nat),st=(dl row,row,(p:Int))/\row.Nodup/\(∀x∈row,x∈U/\Rc m.steps U s x)/\s∈row/\p<=row.length/\∀x∈row.take p,∀u∈nxt m.steps x,u∈U->u∈row) (λst=>(100-st.2.2).toNat)
  ⟨[s],0,rfl,by simp,λx hx=>by rw[mem_singleton.mp hx];exact⟨hs,.here⟩,by simp,by simp,λx hx=>by cases hx⟩ (show(100-(0:Int)).toNat<fuel by decide) λst hst=>?_
 obtain⟨row,p,rfl,nd,sub,sin,pl,cl⟩:=hst
 rw[aj]
 by_cases hp:p<row.length
 ·rw[decide_eq_true (show((dl row,row,(p:Int)):(List (Key×Bool))×LI×Int).2.2<((dl row,row,(p:Int)):(List (Key×Bool))×LI×Int).2.1.length by show(p:Int)<(row.length:Int);omega),if_pos rfl]
  have xr:=sub row[p] (getElem_mem hp)
  have xb:=hbd _ xr.1
  rw[zC,zC,zC,zC,fB (show(0:Int)<=(p:Int) by omega)]
  refine⟨row[p],by rw[Int.toNat_natCast];exact List.getElem?_eq_getElem hp,?_⟩
  rw[aj]
  refine(VG g xb.1 xb.2).imp λys ⟨_,hys⟩=>?_
  refine xE (λi z=>∃row2:LI,z=(dl row2,row2)/\row2.Nodup/\(∀x∈row2,x∈U/\Rc m.steps U s x)/\row <+: row2/\∀u∈ys.take i,u∈U->u∈row2) ⟨row,rfl,nd,sub,List.prefix_rfl,λu hu=>by simp at hu⟩ (λi u z hi hI=>?_) λz hI=>?_
  ·obtain⟨row2,rfl,pL,uy,pre2,cl2⟩:=hI
   have tk:ys.take (i+1)=ys.take i++[u]:=by rw[take_add_one,hi]<;>rfl
   have un:=(hys u).mp (mem_of_getElem? hi)
   have ub:0<=u/\u<n:=(g.row _ (mem_of_getElem? (Mq g.len xb.1 xb.2))).2.2 u un
   rw[zC,zC,zC,fB ub.1]
   have fu:=hfl u ub.1 ub.2
   have lu:u.toNat<fl.length:=by omega
   refine⟨fl[u.toNat],List.getElem?_eq_getElem lu,?_⟩
   have fu:fl[u.toNat]=decide (u∈U):=by
    rw[getD_eq_getElem?_getD,List.getElem?_eq_getElem lu] at fu
    exact fu
   rw[fu]
   have old:∀v∈ys.take i++[u],v∈U->v∈row2\/v=u:=λv hv vu=>by
    rcases mem_append.mp hv with a|a
    ·exact .inl (cl2 v a vu)
    ·exact .inr (mem_singleton.mp a)
   by_cases uU:u∈U
   ·rw[decide_eq_true uU,if_pos rfl,aj]
    show W (if(!(bU (dl row2) u).isSome)=true then _ else _) _
    rw[VH]
    by_cases ur:u∈row2
    ·rw[decide_eq_true ur,Bool.not_true,if_neg (by decide),aj,aj]
     exact⟨row2,rfl,pL,uy,pre2,λv hv vu=>by
      rw[tk] at hv
      exact(old v hv vu).elim id λe=>e▸ur⟩
    ·rw[decide_eq_false ur,Bool.not_false,if_pos rfl,zC,zU6,zUu ur,zUv]
     have l2:=Mv pL λx hx=>(uy x hx).1
     refine⟨yH (by omega),?_⟩
     rw[zC,Ca]
     refine⟨yH (show row2.length<=1000 by omega),?_⟩
     rw[aj,aj]
     refine⟨row2++[u],rfl,?_,λx hx=>?_,pre2.trans (List.prefix_append ..),λv hv vu=>?_⟩
     ·rw[nodup_append]
      exact⟨pL,by simp,λa ha b hb e=>ur (by rw[mem_singleton.mp hb] at e;exact e▸ha)⟩
     ·rcases mem_append.mp hx with a|a
      ·exact uy x a
      ·rw[mem_singleton.mp a];exact⟨uU,.on xr.2 un uU⟩
     ·rw[tk] at hv
      rw[mem_append,mem_singleton]
      exact old v hv vu
   ·rw[decide_eq_false uU,if_neg (by decide),aj,if_neg (by decide),aj,aj]
    exact⟨row2,rfl,pL,uy,pre2,λv hv vu=>by
     rw[tk] at hv
     exact(old v hv vu).elim id λe=>absurd (e▸vu) uU⟩
  ·obtain⟨row2,rfl,pL,uy,pre2,cl2⟩:=hI
   rw[take_length] at cl2
   rw[zC,aj,aj]
   obtain⟨tl,rfl⟩:=pre2
   have inr:∀{x:Int},x∈row->x∈row++tl:=λh=>mem_append.mpr (.inl h)
   refine⟨⟨row++tl,p+1,by show((dl (row++tl),row++tl,(p:Int)+1):(List (Key×Bool))×LI×Int)=_;rw[show(p:Int)+1=((p+1:Nat):Int) by omega],pL,uy,inr sin,by rw[length_append];omega,λx hx u hu uU=>?_⟩,?_⟩
   ·rw[List.take_append_of_le_length (by omega),take_add_one,List.getElem?_eq_getElem hp] at hx
    rcases mem_append.mp hx with a|a
    ·exact inr (cl x a u hu uU)
    ·have e:x=row[p]:=by simpa using a
     subst e
     exact cl2 u ((hys u).mpr hu) uU
   ·have:=Mv nd λx hx=>(sub x hx).1
    show(100-((p:Int)+1)).toNat<(100-(p:Int)).toNat
    omega
 ·rw[decide_eq_false (show¬((dl row,row,(p:Int)):(List (Key×Bool))×LI×Int).2.2<((dl row,row,(p:Int)):(List (Key×Bool))×LI×Int).2.1.length by show¬(p:Int)<(row.length:Int);omega),if_neg (by decide)]
  show W ((Ad (dl row)).bind qN) _
  rw[zQ3,zC,aj,Mu]
  have l2:=Mv nd λx hx=>(sub x hx).1
  have pe:p=row.length:=by omega
  subst pe
  rw[take_length] at cl
  have pm:=vX row
  refine⟨by omega,?_,λt=>?_⟩
  ·have h1:=Xx row
   have h2:(Ra row).Nodup:=pm.nodup_iff.mpr nd
   exact(h1.and h2).imp λ⟨a,b⟩=>by omega
  ·rw[pm.mem_iff]
   constructor
   ·intro h;exact(sub t h).2
   ·intro h
    induction h with
    |here=>exact sin
    |on _ a b ih=>exact cl _ ih _ a b
theorem zMr(h:eY n U):vN U=U:=Vf (N6 U) h.1 λ_=>bW
theorem Rc.trans(h:Rc xss U s t)(k:Rc xss U t u):Rc xss U s u:=by
 induction k with
 |here=>exact h
 |on _ a b ih=>exact .on ih a b
theorem Rc.pth(h:Rc xss U s t):t=s\/mV xss U s t:=by
 induction h with
 |here=>exact .inl rfl
 |@on t u _ a b ih =>
  rcases ih with rfl|ih
  ·exact .inr (.one a b)
  ·exact .inr (ih.trans (.one a b))
structure Bw(fair:List LI)(G:LI)(o:Option Int):Prop where
 no:o=none->xS fair G=true
 yes:∀i:Int,o=some i->0<=i/\i<(fair.length:Int)/\∀F,fair[i.toNat]?=some F->∀x∈G,x∉F
theorem zN0{C:Addr}{m:aD C}(g:Gr m n)(hf:Cm n m.fair){G:LI}(hG:G.length<64):W (yQ m G) (Bw m.fair G):=by
 obtain⟨o,e,q⟩:=zLa g hf hG
 refine⟨o,e,λh=>by rw[<-q,h];rfl,?_⟩
 have key:W (yQ m G) λo=>∀i:Int,o=some i->0<=i/\i<(m.fair.length:Int)/\∀F,m.fair[i.toNat]?=some F->∀x∈G,x∉F:=by
  unfold yQ
  have hl:=hf.1
  rw[zC,zC,xZ]
  refine⟨⟨by omega,by omega⟩,zRo (λ_ _=>True) trivial (λi x s hi _=>?_) λs _=>?_⟩
  ·obtain⟨rfl,hx⟩:=wz hi
   have il:i<m.fair.length:=by omega
   have hF:m.fair[i]?=some m.fair[i]:=List.getElem?_eq_getElem il
   rw[zC,zC,zC,zC,zC,zC]
   refine(ZR g hf hF).imp λys ⟨yl,ym⟩=>?_
   rw[aj,aj]
   show W (vE G ys) _
   rw[ZS hG (by omega),aj,aj,aj]
   by_cases e:G.filter (λz=>decide (z∈ys))=[]
   ·rw[decide_eq_true (show((vN (G.filter λz=>decide (z∈ys))).length:Int)=0 by have:=cZ.mpr e;omega),if_pos rfl,zC,aj,aj]
    refine .inr ⟨_,rfl,?_⟩
    show W (some (some (i:Int))) _
    rw[aj]
    intro j hj
    cases hj
    refine⟨by omega,by omega,λF hF' x hx xF=>?_⟩
    rw[Int.toNat_natCast,hF] at hF'
    cases hF'
    have:x∈G.filter (λz=>decide (z∈ys)):=mem_filter.mpr ⟨hx,decide_eq_true ((ym x).mpr xF)⟩
    rw[e] at this
    cases this
   ·rw[decide_eq_false (λz=>e (cZ.mp (by omega))),if_neg (by decide),aj]
    exact .inl ⟨(),rfl,trivial⟩
  ·rw[Ep,aj]
   intro j hj
   cases hj
 obtain⟨o',e',q'⟩:=key
 rw[e] at e'
 cases e'
 exact q'
def mo(m:aD C)(G:LI):Option Int:=(yQ m G).getD none
theorem Gy:W (dput kvs k v) Q↔kvs.length<cap/\Q (pK kvs (Sum.inl k) v):=by
 unfold dput
 split
 ·rename_i h;rw[aj];exact⟨λq=>⟨h,q⟩,λq=>q.2⟩
 ·rename_i h;rw[sH];exact⟨False.elim,λq=>h q.1⟩
theorem zQ5:bU (pK kvs (Sum.inl k) v) s=if s=k then some v else bU kvs s:=by
 show gK (pK kvs (Sum.inl k) v) (Sum.inl s)=_
 rw[Xz]
 by_cases e:s=k
 ·subst e;rw[if_pos rfl,if_pos rfl]
 ·rw[if_neg (λz=>e (Sum.inl.inj z)),if_neg e]
theorem Gz{C:Addr}{m:aD C}{told:List LI}(nd:told.flatten.Nodup)(hl:told.flatten.length<=60)(hm:∀G∈told,yQ m G=some (mo m G)) :
  W (xA (λ(s6:List (Key×(Option Int))) (x8:LI)=>((some (x8)).bind λxs=>xA (λ(s9:List (Key×(Option Int))) (x11:Int)=>((yQ m (x8)).bind λa13=>dput s9 (x11) (a13)).bind λgZ=>some (gZ)) xs (s6)).bind λjG=>some (jG)) told ([]:List (Key×(Option Int)))) λkvs=>(∀G∈told,∀s∈G,bU kvs s=some (mo m G))/\∀s,s∉told.flatten->bU kvs s=none:=by
 refine xE (λi kvs=>kvs.length<=(told.take i).flatten.length/\(∀G∈told.take i,∀s∈G,bU kvs s=some (mo m G))/\∀s,s∉(told.take i).flatten->bU kvs s=none) ⟨by simp,λG hG=>by simp at hG,λs _=>rfl⟩ (λi G kvs hi hI=>?_) λkvs hI=>?_
 ·obtain⟨h1,h2,h3⟩:=hI
  have Gm:=mem_of_getElem? hi
  have fl:(told.take (i+1)).flatten=(told.take i).flatten++G:=by rw[uE hi,flatten_append,flatten_singleton]
  have pre:((told.take i).flatten++G).Sublist told.flatten:=by
   rw[<-fl]
   have e2:told.flatten=(told.take (i+1)).flatten++(told.drop (i+1)).flatten:=by rw[<-flatten_append,take_append_drop]
   rw[e2]
   exact List.sublist_append_left ..
  have pL:=nd.sublist pre
  have dis:∀s∈G,s∉(told.take i).flatten:=λs hs q=>(nodup_append.mp pL).2.2 s q s hs rfl
  have ll:=pre.length_le
  rw[length_append] at ll
  rw[zC,zC,aj]
  refine xE (λk z=>z.length<=kvs.length+k/\∀s,bU z s=if s∈G.take k then some (mo m G) else bU kvs s) ⟨Nat.le_refl _,λs=>by simp⟩ (λk x z hk hz=>?_) λz hz=>?_
  ·have kl:=(List.getElem?_eq_some_iff.mp hk).1
   rw[zC,zC,hm G Gm,aj,Gy]
   refine⟨yH (by omega),?_⟩
   rw[aj]
   refine⟨by have:=XC z (Sum.inl x) (mo m G);omega,λs=>?_⟩
   rw[zQ5,hz.2 s]
   by_cases e:s=x
   ·subst e;rw[if_pos rfl,if_pos ((xJ hk).mpr (.inr rfl))]
   ·rw[if_neg e]
    by_cases q:s∈G.take k
    ·rw[if_pos q,if_pos ((xJ hk).mpr (.inl q))]
    ·rw[if_neg q,if_neg λz=>((xJ hk).mp z).elim q e]
  ·rw[aj]
   rw[take_length] at hz
   refine⟨by rw[fl,length_append];omega,λG' hG' s hs=>?_,λs hs=>?_⟩
   ·rw[uE hi,mem_append,mem_singleton] at hG'
    rw[hz.2 s]
    rcases hG' with q|q
    ·rw[if_neg λz=>dis s z (mem_flatten.mpr ⟨G',q,hs⟩)]
     exact h2 G' q s hs
    ·subst q;rw[if_pos hs]
   ·rw[fl,mem_append] at hs
    rw[hz.2 s,if_neg λz=>hs (.inr z)]
    exact h3 s λz=>hs (.inl z)
 ·rw[take_length] at hI
  exact hI.2
structure pG(xss fair:List LI)(n:Int)(U R:LI)(rk:List (Option (Int×Option Int))):Prop where
 len:(rk.length:Int)=n
 non:∀s:Int,0<=s->s<n->¬(s∈U/\s∉R)->rk.getD s.toNat none=none
 are:∀s:Int,s∈U->s∉R->∃(A:LI)(o:Option Int),rk.getD s.toNat none=some ((A.length:Int)-1,o)/\Fd xss U s A/\(∀i:Int,o=some i->0<=i/\i<(fair.length:Int)) /\
  ∀t∈nxt xss s,t∈U->Rc xss U t s->∃i:Int,o=some i/\(∀A',rk.getD t.toNat none=some A'->A'.2=some i)/\∀F,fair[i.toNat]?=some F->s∉F/\t∉F
theorem GC{C:Addr}{m:aD C}(g:Gr m n)(hf:Cm n m.fair)(hU:eY n U)(eR:FZ m U=some R):(∀s∈U,∀t∈nxt m.steps s,t∈R->s∈R)/\W (SM m U) (pG m.steps m.fair n U R):=by
 have few:=g.few
 have pos:=g.pos
 have Ul:U.length<=n.toNat:=xD hU.nodup λx hx=>by have:=hU.2 x hx;omega
 have h0:∀x∈U,0<=x:=λx hx=>(hU.2 x hx).1
 have us:=zMr hU
 obtain⟨told,et,rows,RO,T⟩:=zNz g hU.2 (by omega)
 rw[us] at RO T
 have sub:∀t∈told.flatten,t∈U:=λt ht=>by
  obtain⟨G,hG,tG⟩:=mem_flatten.mp ht
  obtain⟨s,_,_,rfl⟩:=T.are G hG
  exact(aF.mp tG).1
 have fl:told.flatten.length<=60:=by
  have:=xD (n:=n.toNat) T.nd λy hy=>by have:=hU.2 y (sub y hy);omega
  omega
 have gl:∀G∈told,G.length<64:=λG hG=>by
  obtain⟨s,_,_,rfl⟩:=T.are G hG
  have:=zLl (rows:=rows) (s:=s) Ul
  omega
 have hm:∀G∈told,yQ m G=some (mo m G)/\Bw m.fair G (mo m G):=λG hG=>by
  obtain⟨o,e,q⟩:=zN0 g hf (gl G hG)
  have:mo m G=o:=by unfold mo;rw[e];rfl
  rw[this]
  exact⟨e,q⟩
 obtain⟨goal,d,G,D,ZX⟩:∃goal d,pF m.steps m.fair U goal/\cU m.steps U goal n d/\R=pick n λs=>(dg d s).isSome:=by
  have q:W (FZ m U) λR'=>∃goal d,pF m.steps m.fair U goal/\cU m.steps U goal n d/\R'=pick n λs=>(dg d s).isSome:=by
   unfold FZ
   have q:=Mt g hf hU.2 (by omega)
   rw[us,zC] at q
   rw[zC,zC,zC,zC,zC,zC]
   refine q.imp λa qa=>?_
   rw[aj]
   refine qa.imp λgoal G=>?_
   rw[aj,aj,aj]
   show W (wC m U goal) _
   exact(Gu g hU.2 ⟨G.nd,λx h=>hU.2 x (G.sub x h)⟩).imp λR' ⟨d,D,e⟩=>⟨goal,d,G,D,e⟩
  obtain⟨R',e,z⟩:=q
  rw[eR] at e
  cases e
  exact z
 have near:∀s∈U,∀t∈nxt m.steps s,t∈R->s∈R:=λs hs t ht tR=>by
  rw[ZX] at tR ⊢
  obtain⟨t0,t1,q⟩:=dJ.mp tR
  obtain⟨k,e⟩:=Option.isSome_iff_exists.mp q
  have sb:=hU.2 s hs
  obtain⟨j,ej,_⟩:=D.near s t k sb.1 sb.2 t0 t1 hs ht e
  exact dJ.mpr ⟨sb.1,sb.2,by rw[ej];rfl⟩
 have inR:∀s∈goal,s∈R:=λs hs=>by
  rw[ZX]
  have sb:=hU.2 s (G.sub s hs)
  exact dJ.mpr ⟨sb.1,sb.2,by rw[(D.zero s sb.1 sb.2).mpr hs];rfl⟩
 have Rr:∀x∈R,0<=x/\x<n:=λx hx=>by rw[ZX] at hx;have:=dJ.mp hx;exact⟨this.1,this.2.1⟩
 refine⟨near,?_⟩
 unfold SM
 rw[eR,et]
 rw[zC,zC,zC,zC,aj,aj,aj]
 show W (IV m R) _
 refine(Zz g Rr).imp λbg ⟨bl,hbg⟩=>?_
 rw[zC,aj,zC,zC,aj]
 refine(Gz T.nd fl λG hG=>(hm G hG).1).imp λkvs ⟨k1,k2⟩=>?_
 rw[zC,zC,zC,Td g,aj,xZ]
 refine⟨⟨by omega,by omega⟩,?_⟩
 have rl:=wG (n:=n) (by omega)
 rw[HN (λ_=>(none:Option (Int×Option Int)))]
 refine⟨yH (by omega),?_⟩
 rw[zC,zC,aj]
 refine xE (λi rk=>(rk.length:Int)=n/\∀s:Int,0<=s->s<n->(¬(s∈U.take i/\s∉R)->rk.getD s.toNat none=none)/\(s∈U.take i->s∉R->∃A:LI,Fd m.steps U s A/\rk.getD s.toNat none=some ((A.length:Int)-1,(bU kvs s).getD none))) ⟨by rw[length_map];exact rl,λs _ _=>⟨λ_=>?_,λh=>by simp at h⟩⟩ (λi x rk hi hI=>?_) λrk hI=>?_
 ·rw[getD_eq_getElem?_getD,getElem?_map]
  cases(rng n)[s.toNat]?<;>rfl
 ·obtain⟨hl,hb⟩:=hI
  have xm:=mem_of_getElem? hi
  have xb:=hU.2 x xm
  have hx:bg[x.toNat]?=some (decide (x∈R)):=by
   have:=hbg x xb.1 xb.2
   rw[getD_eq_getElem?_getD,List.getElem?_eq_getElem (show x.toNat<bg.length by omega)] at this
   rw[List.getElem?_eq_getElem (show x.toNat<bg.length by omega)]
   exact congrArg some this
  rw[zC,zC,zC,fB xb.1]
  refine⟨_,hx,?_⟩
  rw[aj]
  by_cases c:x∈R
  ·rw[decide_eq_true c,Bool.not_true,if_neg (by decide),aj,aj]
   refine⟨hl,λs s0 s1=>⟨λh=>(hb s s0 s1).1 λq=>h ⟨(xJ hi).mpr (.inl q.1),q.2⟩,λh k=>?_⟩⟩
   rcases(xJ hi).mp h with q|q
   ·exact(hb s s0 s1).2 q k
   ·exact absurd (q▸c) k
  ·rw[decide_eq_false c,Bool.not_false,if_pos rfl,zC,zC,zC,zC,zC,zC]
   refine(Gx g hU xm).imp λA hA=>?_
   rw[aj,aj,aj,aj,Nx xb.1 (by omega),aj,aj]
   refine⟨by rw[length_set];exact hl,λs s0 s1=>?_⟩
   rw[Ow (by omega)]
   by_cases e:s=x
   ·subst e
    rw[if_pos rfl]
    exact⟨λh=>absurd ⟨(xJ hi).mpr (.inr rfl),c⟩ h,λ_ _=>⟨A,hA,rfl⟩⟩
   ·rw[if_neg (by omega)]
    refine⟨λh=>(hb s s0 s1).1 λq=>h ⟨(xJ hi).mpr (.inl q.1),q.2⟩,λh k=>?_⟩
    exact(hb s s0 s1).2 (((xJ hi).mp h).resolve_right e) k
 ·obtain⟨hl,hb⟩:=hI
  rw[take_length] at hb
  rw[aj]
  refine⟨hl,λs s0 s1 h=>(hb s s0 s1).1 h,λs sU sR=>?_⟩
  have sb:=hU.2 s sU
  obtain⟨A,hA,e⟩:=(hb s sb.1 sb.2).2 sU sR
  refine⟨A,_,e,hA,λi hi=>?_,λt tn tU ts=>?_⟩
  ·by_cases q:s∈told.flatten
   ·obtain⟨G',hG',sG⟩:=mem_flatten.mp q
    rw[k1 G' hG' s sG,Option.getD_some] at hi
    have:=(hm G' hG').2.yes i hi
    exact⟨this.1,this.2.1⟩
   ·rw[k2 s q] at hi
    cases hi
  ·have p1:mV m.steps U s t:=.one tn tU
   have p2:mV m.steps U t s:=by
    rcases ts.pth with q|q
    ·rw[q];rw[q] at tn;exact .one tn tU
    ·exact q
   have sf:=T.all s sU (RO.full h0 (p1.trans p2) sU)
   obtain⟨G',hG',sG⟩:=mem_flatten.mp sf
   obtain⟨o,oU,oo,eG⟩:=T.are G' hG'
   have tG:t∈G':=by
    rw[eG] at sG ⊢
    obtain⟨_,s1,s2⟩:=aF.mp sG
    exact aF.mpr ⟨tU,RO.trans o oU s sU t (h0 t tU) s1 (RO.full h0 p1 sU),RO.trans t tU s sU o (h0 o oU) (RO.full h0 p2 tU) s2⟩
   have nm:xS m.fair G'≠true:=λq=>sR (inR s (G.all s sU G' (λt=>by
    rw[eG,aF]
    rw[eG] at sG
    obtain⟨_,s1,s2⟩:=aF.mp sG
    constructor
    ·rintro⟨a,b,c⟩
     exact⟨a,RO.sound s sU t (h0 t a) (RO.trans s sU o oU t (h0 t a) s2 b),RO.sound t a s sb.1 (RO.trans t a o oU s sb.1 c s1)⟩
    ·rintro⟨a,b,c⟩
     exact⟨a,RO.trans o oU s sU t (h0 t a) s1 (RO.full h0 b sU),RO.trans t a s sU o (h0 o oU) (RO.full h0 c a) s2⟩) (p1.trans p2) q))
   obtain⟨i,ei⟩:∃i,mo m G'=some i:=by
    cases q:mo m G' with
    |none=>exact absurd ((hm G' hG').2.no q) nm
    |some i=>exact⟨i,rfl⟩
   refine⟨i,by rw[k1 G' hG' s sG,Option.getD_some];exact ei,λA' hA'=>?_,λF hF=>?_⟩
   ·have tR:t∉R:=λq=>sR (near s sU t tn q)
    have tb:=hU.2 t tU
    obtain⟨A2,_,e2⟩:=(hb t tb.1 tb.2).2 tU tR
    rw[e2] at hA'
    cases hA'
    show(bU kvs t).getD none=some i
    rw[k1 G' hG' t tG,Option.getD_some]
    exact ei
   ·have:=((hm G' hG').2.yes i ei).2.2 F hF
    exact⟨this s sG,this t tG⟩
def Ch(xss:List LI)(w:LI):Prop:=∀pre s t post,w=pre++s::t::post->t∈nxt xss s
section
variable{xss:List LI}{through goal:LI}{n:Int}{d:List (Option Int)}
theorem Ch.one(x:Int):Ch xss [x]:=λpre s t post h=>by
 have:=congrArg length h
 rw[length_append] at this
 simp at this
 omega
theorem Ch.cons(h:Ch xss (y::r))(q:y∈nxt xss x):Ch xss (x::y::r):=λpre s t post e=>by
 cases pre with
 |nil =>
  rw[nil_append] at e
  injection e with e1 e2
  injection e2 with e3 e4
  rw[<-e1,<-e3]
  exact q
 |cons z pre =>
  rw[List.cons_append] at e
  injection e with e1 e2
  exact h pre s t post e2
theorem Ch.pre(h:Ch xss (a++b)):Ch xss a:=λpre s t post e=>h pre s t (post++b) (by rw[e];simp)
theorem Ch.tail(h:Ch xss (x::r)):Ch xss r:=λpre s t post e=>h (x::pre) s t post (by rw[e];rfl)
theorem Ch.join:∀{a:LI}{x:Int}{b:LI},Ch xss (a++[x])->Ch xss (x::b)->Ch xss (a++x::b)
 |[],_,_,_,h=>h
 |[z],x,b,h1,h2=>Ch.cons h2 (h1 [] z x [] rfl)
 |z::y::a,x,b,h1,h2=>by
  have ih:=Ch.join (a:=y::a) (x:=x) (b:=b) h1.tail h2
  exact Ch.cons ih (h1 [] z y (a++[x]) rfl)
theorem Ch.at(h:Ch xss w)(h1:w[i]?=some s)(h2:w[i+1]?=some t):t∈nxt xss s:=by
 obtain⟨l1,e1⟩:=List.getElem?_eq_some_iff.mp h1
 obtain⟨l2,e2⟩:=List.getElem?_eq_some_iff.mp h2
 refine h (w.take i) s t (w.drop (i+2)) ?_
 rw[<-e1,<-e2,getElem_cons_drop,getElem_cons_drop,take_append_drop]
structure Wk(xss:List LI)(U goal:LI)(s:Int)(w:LI):Prop where
 hd:∃r,w=s::r
 ch:Ch xss w
 all:∀x∈w,x∈goal\/x∈U
 ls:∃pre t,w=pre++[t]/\t∈goal
theorem cw_ok(D:cU xss through goal n d)(hr:∀s t:Int,0<=s->s<n->t∈nxt xss s->0<=t/\t<n):∀(k:Nat)(s:Int),0<=s->s<n->dg d s=some (k:Int)->Wk xss through goal s (cw xss d k s)
 |0,s,s0,s1,h=>by
  have hg:=(D.zero s s0 s1).mp h
  exact⟨⟨[],rfl⟩,Ch.one s,λx hx=>by rw[mem_singleton.mp hx];exact .inl hg,⟨[],s,rfl,hg⟩⟩
 |k+1,s,s0,s1,h=>by
  have h':dg d s=some ((k:Int)+1):=by rw[h];rfl
  obtain⟨u1,u2⟩:=zO9 D s0 s1 h'
  have ub:=hr s _ s0 s1 u1
  obtain⟨⟨r,e⟩,c,al,⟨pre,t,e2,tg⟩⟩:=cw_ok D hr k _ ub.1 ub.2 u2
  have ec:cw xss d (k+1) s=s::cw xss d k (rK xss d k s):=rfl
  refine⟨⟨_,ec⟩,?_,λx hx=>?_,⟨s::pre,t,by rw[ec,e2];rfl,tg⟩⟩
  ·rw[ec,e]
   rw[e] at c
   exact c.cons u1
  ·rw[ec] at hx
   rcases mem_cons.mp hx with z|z
   ·rw[z];exact .inr (ZW D s0 s1 h').2
   ·exact al x z
theorem zO5(D:cU xss G goal n d)(hG:∀x∈G,0<=x/\x<n)(h:mV xss G s t):s∈G->(dg d t).isSome=true->(dg d s).isSome=true:=by
 have one:∀{s t:Int},s∈G->t∈nxt xss s->t∈G->(dg d t).isSome=true->(dg d s).isSome=true:=λ{s t} sG a b q=>by
  obtain⟨k,e⟩:=Option.isSome_iff_exists.mp q
  obtain⟨j,ej,_⟩:=D.near s t k (hG s sG).1 (hG s sG).2 (hG t b).1 (hG t b).2 sG a e
  rw[ej];rfl
 induction h with
 |one a b=>exactλsG q=>one sG a b q
 |step a b _ ih=>exactλsG q=>one sG a b (ih b q)
end
theorem zQ9(y:Int)(r:LI):ni (y::r) (some (1:Int)) none=r:=by
 have e1:HT.m5 (y::r).length 0 (some (1:Int))=1:=by
  rw[show(1:Int)=((1:Nat):Int) from rfl,HT.Dl]
  simp
 unfold ni
 rw[e1,HT.pQ]
 simp
theorem zRa(pre:LI)(t:Int):ni (pre++[t]) none (some (-(1:Int)))=pre:=by
 have e1:HT.m5 (pre++[t]).length (pre++[t]).length (some (-(1:Int)))=pre.length:=by
  show(if(-(1:Int))<0 then(-(1:Int)+((pre++[t]).length:Int)).toNat else min (-(1:Int)).toNat (pre++[t]).length)=_
  rw[if_pos (by decide),length_append]
  simp
  omega
 unfold ni
 rw[e1,HT.pQ]
 simp
theorem VJ{α:Type}{m:Option α}{a:α}{Q:α->Prop}(e:m=some a)(h:Q a):W m Q:=⟨a,e,h⟩
theorem zJc:∀{xs:LI}{y:Int},tZ d xs=some y->y∈xs
 |[],_,h=>by cases h
 |x::xs,y,h=>by
  unfold tZ at h
  split at h
  ·cases h;exact mem_cons_self
  ·rename_i z hz
   split at h
   ·cases h;exact mem_cons_self
   ·cases h;exact mem_cons_of_mem _ (zJc hz)
theorem Mw{away:List (Option Int)}(hl:(away.length:Int)=n)(ne:ns≠[])(h:∀m∈ns,0<=m/\m<n/\(dg away m).isSome=true):W (N_ away ns) λM=>M∈ns:=by
 unfold N_
 rw[if_pos]
 ·cases e:tZ (λm=>(N8 away m).getD 0) ns with
  |none=>exact absurd (zM8 e) ne
  |some M=>rw[aj];exact zJc e
 ·refine all_eq_true.mpr λm hm=>?_
  obtain⟨m0,m1,q⟩:=h m hm
  unfold N8
  rw[if_pos m0,Te hl m0 m1]
  exact q
section
variable{C:Addr}{m:aD C}{n:Int}
theorem VL(g:Gr m n):∀s t:Int,0<=s->s<n->t∈nxt m.steps s->0<=t/\t<n:=λs t s0 s1 ht=>ZP g s0 s1 t ht
theorem zNx(g:Gr m n){V G:LI}(RO:mX m.steps V G)(hG:∀x∈G,0<=x/\x<n){s st:Int}(hs:s∈G)(hst:st∈G):W (uV m G s st) λr=>Ch m.steps (s::(r++[st]))/\(∀x∈r,x∈G)/\r.length<=60:=by
 unfold uV
 have few:=g.few
 have sb:=hG s hs
 have Z0:=hG st hst
 rw[zC]
 refine(VF g hG (goal:=[st]) ⟨by simp,λx hx=>by rw[mem_singleton.mp hx];exact Z0⟩).imp λaway D=>?_
 rw[zC,zC,zC]
 refine(VG g sb.1 sb.2).imp λxs ⟨xl,xm⟩=>?_
 have xb:∀x∈xs,0<=x/\x<n:=λx hx=>VL g s x sb.1 sb.2 ((xm x).mp hx)
 rw[uB (p:=λx=>(dg away x).isSome) (g:=λx=>x) (yH (by omega)) (λx hx=>by rw[uP (xb x hx).1,Te D.len (xb x hx).1 (xb x hx).2];rfl) (λ_ _=>rfl),map_id',aj]
 have z0:(dg away st).isSome=true:=by rw[(D.zero st Z0.1 Z0.2).mpr (by simp)];rfl
 have ne:xs.filter (λx=>(dg away x).isSome)≠[]:=by
  have ex:∃u∈nxt m.steps s,(dg away u).isSome=true:=by
   cases RO.go s hs st hst with
   |one a b=>exact⟨_,a,z0⟩
   |step a b p=>exact⟨_,a,zO5 D hG p b z0⟩
  obtain⟨u,un,uq⟩:=ex
  intro e
  have:u∈xs.filter (λx=>(dg away x).isSome):=mem_filter.mpr ⟨(xm u).mpr un,uq⟩
  rw[e] at this
  cases this
 refine(Mw D.len ne λy hy=>?_).imp λM hM=>?_
 ·obtain⟨a,b⟩:=mem_filter.mp hy
  exact⟨(xb y a).1,(xb y a).2,b⟩
 obtain⟨M1,M2⟩:=mem_filter.mp hM
 have Mb:=xb M M1
 obtain⟨k,hk⟩:=Option.isSome_iff_exists.mp M2
 have kp:=D.pos M k Mb.1 Mb.2 hk
 rw[zC,zC]
 refine(zF4 g D Mb.1 Mb.2).imp λr e=>?_
 subst e
 rw[hk]
 show W (some (cw m.steps away k.toNat M)) _
 rw[aj,aj]
 obtain⟨⟨r,e⟩,c,al,⟨pre,t,e2,tg⟩⟩:=cw_ok D (VL g) k.toNat M Mb.1 Mb.2 (hk.trans (congrArg some (show k=(k.toNat:Int) by omega)))
 have te:t=st:=mem_singleton.mp tg
 subst te
 have cl:=cw_len (xss:=m.steps) (d:=away) k.toNat M
 rw[e2,zRa]
 refine⟨?_,λx hx=>?_,?_⟩
 ·rw[<-e2,e]
  rw[e] at c
  exact c.cons ((xm M).mp M1)
 ·rcases al x (by rw[e2];exact mem_append.mpr (.inl hx)) with z|z
  ·rw[mem_singleton.mp z];exact hst
  ·exact z
 ·rw[e2,length_append] at cl
  simp at cl
  omega
theorem zMo(g:Gr m n)(hf:Cm n m.fair){V G:LI}(RO:mX m.steps V G)(met:xS m.fair G=true)(hG:∀x∈G,0<=x/\x<n)(OD:m.fair.length<=10){st:Int}(hst:st∈G) :
  W (vV m G st) λl=>∃r,l=st::r/\Ch m.steps (l++[st])/\(∀x∈l,x∈G)/\(∀F∈m.fair,∃x∈l,x∈F)/\l.length<=61+60*m.fair.length:=by
 unfold vV
 have few:=g.few
 have Gl:G.length<=n.toNat:=xD RO.nd λx hx=>by have:=hG x hx;omega
 have lastOf:∀{l:LI},l≠[]->∃pre y,l=pre++[y]:=λh=>⟨_,_,(List.dropLast_concat_getLast h).symm⟩
 rw[zC,aj,zC,zC,xZ]
 refine⟨⟨by omega,by omega⟩,xE (λi told=>∃r,told=st::r/\Ch m.steps told/\(∀x∈told,x∈G)/\(∀F∈m.fair.take i,∃x∈told,x∈F)/\told.length<=1+60*i) ⟨[],rfl,Ch.one st,λx hx=>by rw[mem_singleton.mp hx];exact hst,λF hF=>by simp at hF,by simp⟩ (λi x told hi hI=>?_) λtold hI=>?_⟩
 ·obtain⟨rfl,hx⟩:=wz hi
  obtain⟨r,e0,c,OJ,mt,tl⟩:=hI
  have il:i<m.fair.length:=by omega
  have hF:m.fair[i]?=some m.fair[i]:=List.getElem?_eq_getElem il
  rw[zC,zC,zC,zC]
  refine(ZR g hf hF).imp λys ⟨yl,ym⟩=>?_
  rw[aj,aj]
  show W (vE G ys) _
  rw[ZS (by omega) (by omega),aj]
  generalize hw:vN (G.filter λz=>decide (z∈ys))=wanted
  have wm:∀x,x∈wanted↔x∈G/\x∈m.fair[i]:=λx=>by rw[<-hw,bW,mem_filter,decide_eq_true_iff,ym x]
  have wn:wanted.Nodup:=by rw[<-hw];exact(N6 _).imp λh=>Int.ne_of_lt h
  have wl:wanted.length<=n.toNat:=xD wn λx hx=>by have:=hG x ((wm x).mp hx).1;omega
  rw[zC,zC,zC,zC,zIh (.inr (by omega)) (by omega) (by omega),aj,aj,aj]
  by_cases e:told.filter (λz=>decide (z∈wanted))=[]
  ·rw[decide_eq_true (show((vN (told.filter λz=>decide (z∈wanted))).length:Int)=0 by have:=cZ.mpr e;omega),if_pos rfl]
   obtain⟨pre,y,ey⟩:=lastOf (l:=told) (by rw[e0];simp)
   have yG:y∈G:=OJ y (by rw[ey];simp)
   have yb:=hG y yG
   obtain⟨q,qG,qF⟩:=any_eq_true.mp (all_eq_true.mp met _ (getElem_mem il))
   have qF:=of_decide_eq_true qF
   obtain⟨d,ed,D⟩:=VF g hG (goal:=wanted) ⟨wn,λx hx=>hG x ((wm x).mp hx).1⟩
   have qb:=hG q qG
   have qd:(dg d q).isSome=true:=by rw[(D.zero q qb.1 qb.2).mpr ((wm q).mpr ⟨qG,qF⟩)];rfl
   obtain⟨k,hk⟩:=Option.isSome_iff_exists.mp (zO5 D hG (RO.go y yG q qG) yG qd)
   have kp:=D.pos y k yb.1 yb.2 hk
   rw[zC,zC,zC,zC,zC,zC,zC,zC,zC]
   refine VJ (show L2.aH told (-(1:Int))=some y by rw[ey];exact Oz) ?_
   rw[aj,aj,aj,aj]
   show W (xQ m G wanted y) _
   refine(zEe g ed D yb.1 yb.2).imp λrr er=>?_
   subst er
   rw[hk]
   show W (some (cw m.steps d k.toNat y)) _
   rw[aj,aj]
   obtain⟨⟨r2,e2⟩,c2,al,⟨pre2,t,e3,tg⟩⟩:=cw_ok D (VL g) k.toNat y yb.1 yb.2 (hk.trans (congrArg some (show k=(k.toNat:Int) by omega)))
   have cl:=cw_len (xss:=m.steps) (d:=d) k.toNat y
   rw[e2,zQ9]
   rw[e2,length_cons] at cl
   unfold qO
   rw[if_pos (yH (by omega)),aj,aj,aj]
   have tin:t∈told++r2:=by
    have:t∈y::r2:=by rw[<-e2,e3];simp
    rcases mem_cons.mp this with z|z
    ·rw[z,ey];simp
    ·exact mem_append.mpr (.inr z)
   have Z1:∀x∈told++r2,x∈G:=λx hx=>by
    rcases mem_append.mp hx with z|z
    ·exact OJ x z
    ·rcases al x (by rw[e2];exact mem_cons_of_mem _ z) with z2|z2
     ·exact((wm x).mp z2).1
     ·exact z2
   refine⟨r++r2,by rw[e0];rfl,?_,Z1,λF hF'=>?_,by rw[length_append];omega⟩
   ·rw[ey,append_assoc]
    rw[ey] at c
    rw[e2] at c2
    exact c.join c2
   ·rw[uE hF,mem_append,mem_singleton] at hF'
    rcases hF' with z|z
    ·obtain⟨x,a,b⟩:=mt F z
     exact⟨x,mem_append.mpr (.inl a),b⟩
    ·subst z
     exact⟨t,tin,((wm t).mp tg).2⟩
  ·rw[decide_eq_false (λz=>e (cZ.mp (by omega))),if_neg (by decide),aj,aj]
   refine⟨r,e0,c,OJ,λF hF'=>?_,by omega⟩
   rw[uE hF,mem_append,mem_singleton] at hF'
   rcases hF' with z|z
   ·exact mt F z
   ·subst z
    obtain⟨x,hx'⟩:=List.exists_mem_of_ne_nil _ e
    rw[mem_filter] at hx'
    exact⟨x,hx'.1,((wm x).mp (of_decide_eq_true hx'.2)).2⟩
 ·obtain⟨r,e0,c,OJ,mt,tl⟩:=hI
  have el:(rng (m.fair.length:Int)).length=m.fair.length:=by have:=wG (n:=(m.fair.length:Int)) (by omega);omega
  rw[el] at tl
  rw[el,take_length] at mt
  obtain⟨pre,y,ey⟩:=lastOf (l:=told) (by rw[e0];simp)
  have yG:y∈G:=OJ y (by rw[ey];simp)
  rw[zC,zC,zC,zC,zC]
  refine VJ (show L2.aH told (-(1:Int))=some y by rw[ey];exact Oz) ?_
  rw[aj,aj,aj]
  show W (uV m G y st) _
  refine(zNx g RO hG yG hst).imp λb ⟨cb,bG,bl⟩=>?_
  unfold t_
  rw[if_pos (Nat.le_of_lt (yH (by omega))),aj]
  refine⟨r++b,by rw[e0];rfl,?_,λx hx=>(mem_append.mp hx).elim (OJ x) (bG x),λF hF=>?_,by rw[length_append];omega⟩
  ·rw[ey,append_assoc,append_assoc]
   rw[ey] at c
   exact c.join cb
  ·obtain⟨x,a,q⟩:=mt F hF
   exact⟨x,mem_append.mpr (.inl a),q⟩
structure rN(xss fair:List LI)(U:LI)(s:Int)(w l:LI):Prop where
 hd:∃r,w=s::r
 wch:Ch xss w
 wU:∀x∈w,x∈U
 wl:w.length<=60
 jn:∃pre t r,w=pre++[t]/\l=t::r/\Ch xss (l++[t])
 lU:∀x∈l,x∈U
 met:∀F∈fair,∃x∈l,x∈F
 ll:l.length<=61+60*fair.length
theorem zRx(g:Gr m n)(ed:xV m through goal=some d)(D:cU m.steps through goal n d):wC m through goal=some (pick n λs=>(dg d s).isSome):=by
 have few:=g.few
 have pos:=g.pos
 have rl:=wG (n:=n) (by omega)
 have q:W (wC m through goal) (· = pick n λs=>(dg d s).isSome):=by
  unfold wC
  rw[zC]
  refine VJ ed ?_
  rw[zC,aj,zL8 D.len]
  have e:yU (λx:Int×Option Int=>some x.2.isSome) (λx:Int×Option Int=>some x.1) ((rng n).map λs=>(s,dg d s))=some (pick n λs=>(dg d s).isSome):=by
   rw[uB (p:=λx:Int×Option Int=>x.2.isSome) (g:=λx:Int×Option Int=>x.1) (yH (by rw[length_map];omega)) (λ_ _=>rfl) (λ_ _=>rfl)]
   refine congrArg some ?_
   rw[List.filter_map,map_map]
   exact map_id' _
  rw[e,aj]
 obtain⟨b,eb,rfl⟩:=q
 exact eb
theorem zRv(g:Gr m n)(hf:Cm n m.fair)(OD:m.fair.length<=10)(hU:eY n U) :
  ∃R,FZ m U=some R/\(∀s∈R,s∈U)/\∀s:Int,0<=s->s<n->W (Sw m U s) λr=>(s∉R/\r=none)\/(s∈R/\∃w l,r=some (w6.mk w l)/\rN m.steps m.fair U s w l):=by
 have few:=g.few
 have Ul:U.length<=n.toNat:=xD hU.nodup λx hx=>by have:=hU.2 x hx;omega
 obtain⟨a,ea,al,ro,goal,eg,hgo,GO⟩:=zN4 g hf hU.2 (by omega)
 have us:∀x,x∈vN U↔x∈U:=λx=>bW
 have gU:∀x∈goal,x∈U:=λx hx=>(us x).mp (GO.sub x hx)
 obtain⟨d,ed,D⟩:=VF g hU.2 (goal:=goal) ⟨GO.nd,λx hx=>hU.2 x (gU x hx)⟩
 refine⟨pick n λs=>(dg d s).isSome,?_,λs hs=>?_,λs s0 s1=>?_⟩
 ·have q:W (FZ m U) (· = pick n λs=>(dg d s).isSome):=by
   unfold FZ
   rw[zC,zC,zC,zC,zC,zC]
   refine(show W (xC m U) (λx=>x=a) from⟨a,ea,rfl⟩).imp λa' ha=>?_
   subst ha
   rw[aj]
   refine(show W (uA a') (λx=>x=goal) from⟨goal,eg,rfl⟩).imp λg' hg'=>?_
   subst hg'
   rw[aj,aj,aj]
   show W (wC m U g') _
   rw[zRx g ed D,aj]
  obtain⟨b,eb,rfl⟩:=q
  exact eb
 ·obtain⟨s0,s1,q⟩:=dJ.mp hs
  by_cases hg:s∈goal
  ·exact gU s hg
  ·obtain⟨k,e⟩:=Option.isSome_iff_exists.mp q
   exact(D.via s k s0 s1 e hg).1
 ·unfold Sw
  rw[zC]
  refine(show W (xC m U) (λx=>x=a) from⟨a,ea,rfl⟩).imp λa' ha=>?_
  subst ha
  rw[zC,zC,zC,zC,zC]
  refine(show W (uA a') (λx=>x=goal) from⟨goal,eg,rfl⟩).imp λg' hg'=>?_
  subst hg'
  rw[aj,aj,aj]
  show W (xQ m U g' s) _
  refine(zEe g ed D s0 s1).imp λr er=>?_
  subst er
  cases hk:dg d s with
  |none =>
   rw[show(Option.map (λk:Int=>cw m.steps d k.toNat s) none).isNone=true from rfl,if_pos rfl,aj]
   exact .inl ⟨λz=>(by have:=(dJ.mp z).2.2;rw[hk] at this;cases this),rfl⟩
  |some k =>
   have kp:=D.pos s k s0 s1 hk
   obtain⟨hd',c,all,⟨pre,t,e2,tg⟩⟩:=cw_ok D (VL g) k.toNat s s0 s1 (hk.trans (congrArg some (show k=(k.toNat:Int) by omega)))
   have cl:=cw_len (xss:=m.steps) (d:=d) k.toNat s
   have hmap:Option.map (λk:Int=>cw m.steps d k.toNat s) (some k)=some (cw m.steps d k.toNat s):=rfl
   rw[hmap,show(some (cw m.steps d k.toNat s)).isNone=false from rfl,if_neg (by decide)]
   generalize cw m.steps d k.toNat s=w at hd' c all e2 cl
   rw[zC,zC,aj]
   refine VJ (show L2.aH w (-(1:Int))=some t by rw[e2];exact Oz) ?_
   rw[zC,zC,aj,uB (p:=λx=>decide (t∈x)) (g:=λx=>x) (yH (by omega)) (λ_ _=>rfl) (λ_ _=>rfl),map_id',aj]
   have ne:a'.filter (λx=>decide (t∈x))≠[]:=by
    rw[hgo] at tg
    obtain⟨G,Ga,tG⟩:=mem_flatten.mp tg
    intro e
    have:G∈a'.filter (λx=>decide (t∈x)):=mem_filter.mpr ⟨Ga,decide_eq_true tG⟩
    rw[e] at this
    cases this
   obtain⟨G0,rest,eG⟩:∃G0 rest,a'.filter (λx=>decide (t∈x))=G0::rest:=by
    cases q:a'.filter (λx=>decide (t∈x)) with
    |nil=>exact absurd q ne
    |cons x y=>exact⟨x,y,rfl⟩
   have G0m:=mem_filter.mp (show G0∈a'.filter (λx=>decide (t∈x)) by rw[eG];exact mem_cons_self)
   obtain⟨RO,met⟩:=ro G0 G0m.1
   have G0U:∀x∈G0,x∈U:=λx hx=>(us x).mp (RO.sub x hx)
   rw[eG,zC,aj,zC,zC,zC,zC,fB (by decide)]
   refine⟨G0,rfl,?_⟩
   rw[aj,aj]
   show W (vV m G0 t) _
   refine(zMo g hf RO met (λx hx=>hU.2 x (G0U x hx)) OD (of_decide_eq_true G0m.2)).imp λl ⟨r,e3,c3,lG,lm,ll⟩=>?_
   rw[aj]
   exact .inr ⟨dJ.mpr ⟨s0,s1,by rw[hk];rfl⟩,w,l,rfl,hd',c,λx hx=>(all x hx).elim (gU x) id,by omega,⟨pre,t,r,e2,e3,c3⟩,λx hx=>G0U x (lG x hx),lm,ll⟩
end
theorem uz{α:Type}{m:Option α}{a:α}(h:W m (· = a)):m=some a:=by obtain⟨b,e,rfl⟩:=h;exact e
open PySem L2 Sy
def resv:List Str:=["all","not","both","either","somenext","eachnext","sometill","eachtill","someever","eachever"]
def O6(w:Str):Str:=⟨#[w.cps.getD 0 0,113]⟩
theorem zSe:∀w∈resv,((Ah w (1:Int)).bind λa22=>p8 a22 ("q":Str))=some (O6 w):=by decide +kernel
theorem zMw:∀w∈resv,uX (O6 w)=some true:=by decide +kernel
theorem zLm:∀w∈resv,3<=w.cps.size:=by decide +kernel
def ham(w v:Str):Nat:=((List.range 8).filter λj=>decide (w.cps[j]?≠v.cps[j]?)).length
theorem zSl:∀w∈resv,∀v∈resv,w=v\/w.cps.size≠v.cps.size\/2<=ham w v:=by decide +kernel
theorem GD:∀i,i<26->(("abcdefghijklmnopqrstuvwxyz":Str).cps)[i]?=some (97+i):=by decide +kernel
theorem GF:∀i,i<26->U6 ⟨#[97+i]⟩ ("abcdefghijklmnopqrstuvwxyz":Str)=true:=by decide +kernel
theorem zTz:("abcdefghijklmnopqrstuvwxyz":Str).length=26:=by decide +kernel
theorem zTc(x:Int):Oe ("abcdefghijklmnopqrstuvwxyz":Str) (x%26)=some ⟨#[97+(x%26).toNat]⟩:=by
 have h0:0<=x%26/\x%26<26:=by omega
 unfold Oe
 rw[if_pos ⟨h0.1,by omega,by rw[zTz];exact h0.2⟩,GD _ (by omega)]
 rfl
def idx(c k size:Int)(j:Nat):Nat:=97+((if(j:Int)=c/8%size then c/64+(j:Int)*(j:Int)+k else c/64+(j:Int)*(j:Int))%26).toNat
def wZ(c k size:Int):Str:=⟨((List.range size.toNat).map (idx c k size)).toArray⟩
theorem GJ(a b:Str):(a++b).cps=a.cps++b.cps:=by
 first
  |rfl
  | (show(Str.append a b).cps=_;unfold Str.append;rfl)
theorem Mx(c k size:Int)(j:Nat):∃i,i<26/\idx c k size j=97+i:=⟨_,by
 have:∀x:Int,(x%26).toNat<26:=λx=>by omega
 exact this _,rfl⟩
theorem Mz(c:Int):W (wT c k) λs=>s=(if wZ c k (1+c%8)∈resv then O6 (wZ c k (1+c%8)) else wZ c k (1+c%8)):=by
 have h8:0<=c%8/\c%8<8:=by omega
 unfold wT
 rw[zC,aj,zC,zC,pZ]
 refine⟨by decide,?_⟩
 rw[aj]
 generalize hsz:1+c%8=size
 have s1:1<=size/\size<=8:=by omega
 rw[zC,aj,zC,zC,xZ]
 refine⟨⟨by omega,by omega⟩,?_⟩
 have rl:=wG (n:=size) (by omega)
 refine xE (λi s=>s=⟨((List.range i).map (idx c k size)).toArray⟩) rfl (λi x s hi hI=>?_) λs hI=>?_
 ·subst hI
  obtain⟨rfl,hx⟩:=wz hi
  rw[zC,zC,Ac]
  refine⟨⟨by decide,by decide⟩,?_⟩
  rw[zC,UW]
  refine⟨.inl ⟨by omega,by omega⟩,?_⟩
  rw[aj,zC,zC,zC,zC,Ac]
  refine⟨⟨by decide,by decide⟩,?_⟩
  rw[pZ]
  refine⟨by omega,?_⟩
  rw[aj]
  have fin:∀z:Int,97+(z%26).toNat=idx c k size i->W ((((bT z (26:Int)).bind λGd=>Oe ("abcdefghijklmnopqrstuvwxyz":Str) Gd).bind λBc=>p8 ⟨((List.range i).map (idx c k size)).toArray⟩ Bc).bind λmL=>some mL) λs=>s=⟨((List.range (i+1)).map (idx c k size)).toArray⟩:=λz hz=>by
   rw[zC,zC,zC,pZ]
   refine⟨by decide,?_⟩
   rw[zTc,aj]
   unfold p8
   have la:(⟨((List.range i).map (idx c k size)).toArray⟩:Str).length=i:=by
    show((List.range i).map (idx c k size)).toArray.size=i
    rw[size_toArray,length_map,length_range]
   have lb:(⟨#[97+(z%26).toNat]⟩:Str).length=1:=rfl
   rw[if_pos (by rw[la,lb];omega),aj,aj]
   have e:((⟨((List.range i).map (idx c k size)).toArray⟩:Str)++(⟨#[97+(z%26).toNat]⟩:Str)).cps=((List.range (i+1)).map (idx c k size)).toArray:=by
    rw[GJ,range_succ,map_append,hz]
    simp
   generalize((⟨((List.range i).map (idx c k size)).toArray⟩:Str)++(⟨#[97+(z%26).toNat]⟩:Str))=y at e ⊢
   obtain⟨cps⟩:=y
   dsimp only at e
   rw[e]
  by_cases cc:(i:Int)=c/8%size
  ·rw[decide_eq_true cc,if_pos rfl,zC,aj,aj]
   exact fin _ (by unfold idx;rw[if_pos cc])
  ·rw[decide_eq_false cc,if_neg (by decide),aj]
   exact fin _ (by unfold idx;rw[if_neg cc])
 ·subst hI
  have el:(rng size).length=size.toNat:=by omega
  rw[el]
  show W (((if(decide (wZ c k size∈resv))=true then((Ah (wZ c k size) (1:Int)).bind λa22=>p8 a22 ("q":Str)).bind λmO=>some mO else some (wZ c k size))).bind λoZ=>some oZ) _
  rw[zC]
  by_cases cc:wZ c k size∈resv
  ·rw[decide_eq_true cc,if_pos rfl,zC,zSe _ cc,aj,aj,aj,if_pos cc]
  ·rw[decide_eq_false cc,if_neg (by decide),aj,aj,if_neg cc]
theorem vZ:(wZ c k size).cps.size=size.toNat:=by
 show((List.range size.toNat).map (idx c k size)).toArray.size=_
 rw[size_toArray,length_map,length_range]
theorem VN{size:Int}(h:j<size.toNat):(wZ c k size).cps[j]?=some (idx c k size j):=by
 show((List.range size.toNat).map (idx c k size)).toArray[j]?=_
 rw[getElem?_toArray,getElem?_map,getElem?_range h]
 rfl
def sZ(c k:Int):Str:=if wZ c k (1+c%8)∈resv then O6 (wZ c k (1+c%8)) else wZ c k (1+c%8)
theorem VP(c k:Int):uX (sZ c k)=some true/\(sZ c k).length<=1000:=by
 have h8:0<=c%8/\c%8<8:=by omega
 unfold sZ
 by_cases cc:wZ c k (1+c%8)∈resv
 ·rw[if_pos cc]
  exact⟨zMw _ cc,by show 2<=1000;decide⟩
 ·rw[if_neg cc]
  have ln:(wZ c k (1+c%8)).length=(1+c%8).toNat:=vZ
  refine⟨?_,by rw[ln];omega⟩
  have cc':=cc
  unfold resv at cc'
  apply uz
  unfold uX
  rw[zC,if_neg (by decide),aj,if_neg (λz=>cc' (of_decide_eq_true z)),zC,zC]
  unfold Ae
  rw[if_pos (yH (by rw[ln];omega)),aj,decide_eq_true (by rw[ln];omega),if_pos rfl,aj,decide_eq_true (by rw[ln];omega),if_pos rfl,zC,zC,aj]
  have lsg:(H_ (wZ c k (1+c%8))).length<=1000:=by
   unfold H_
   rw[length_map,length_toList,vZ]
   omega
  rw[uB (p:=λ_=>true) (g:=λ_=>true) (yH lsg) (λ_ _=>rfl) (λx hx=>?_),aj,aj]
  ·rw[all_eq_true]
   intro x hx
   obtain⟨y,_,rfl⟩:=mem_map.mp hx
   rfl
  ·unfold H_ at hx
   obtain⟨y,hy,rfl⟩:=mem_map.mp hx
   have hy':y∈(List.range (1+c%8).toNat).map (idx c k (1+c%8)):=hy
   obtain⟨j,_,rfl⟩:=mem_map.mp hy'
   obtain⟨i,hi,e⟩:=Mx c k (1+c%8) j
   rw[e,GF i hi]
theorem GK(c:Int)(h0:0<=k)(h2:k<=2)(h0':0<=k')(h2':k'<=2)(hk:k≠k'):sZ c k≠sZ c k':=by
 have h8:0<=c%8/\c%8<8:=by omega
 unfold sZ
 generalize hsz:1+c%8=size
 have s1:1<=size/\size<=8:=by omega
 have j0:0<=c/8%size/\c/8%size<size:=⟨Int.emod_nonneg _ (by omega),Int.emod_lt_of_pos _ (by omega)⟩
 have same:∀j:Nat,(j:Int)≠c/8%size->idx c k size j=idx c k' size j:=λj hj=>by unfold idx;rw[if_neg hj,if_neg hj]
 have diff:idx c k size (c/8%size).toNat≠idx c k' size (c/8%size).toNat:=λe=>by
  unfold idx at e
  have ej:(((c/8%size).toNat:Nat):Int)=c/8%size:=by omega
  rw[if_pos ej,if_pos ej,ej] at e
  generalize c/64+c/8%size*(c/8%size)=z at e
  omega
 have ne:wZ c k size≠wZ c k' size:=λe=>by
  have a:=VN (c:=c) (k:=k) (size:=size) (j:=(c/8%size).toNat) (by omega)
  rw[e,VN (by omega)] at a
  exact diff (Option.some.inj a).symm
 by_cases a:wZ c k size∈resv
 ·rw[if_pos a]
  by_cases b:wZ c k' size∈resv
  ·rw[if_pos b]
   exfalso
   rcases zSl _ a _ b with q|q|q
   ·exact ne q
   ·exact q (by rw[vZ,vZ])
   ·have:ham (wZ c k size) (wZ c k' size)<=1:=by
     unfold ham
     have sub:∀j∈(List.range 8).filter λj=>decide ((wZ c k size).cps[j]?≠(wZ c k' size).cps[j]?),j=(c/8%size).toNat:=λj hj=>by
      obtain⟨_,h⟩:=mem_filter.mp hj
      have h':=of_decide_eq_true h
      refine Classical.byContradiction λz=>h' ?_
      by_cases jl:j<size.toNat
      ·rw[VN jl,VN jl,same j (by omega)]
      ·rw[Array.getElem?_eq_none (by rw[vZ];omega),Array.getElem?_eq_none (by rw[vZ];omega)]
     have nd:((List.range 8).filter λj=>decide ((wZ c k size).cps[j]?≠(wZ c k' size).cps[j]?)).Nodup:=List.nodup_range.filter _
     generalize(List.range 8).filter (λj=>decide ((wZ c k size).cps[j]?≠(wZ c k' size).cps[j]?))=l at sub nd ⊢
     match l,sub,nd with
     |[],_,_=>exact Nat.zero_le _
     |[_],_,_=>exact Nat.le_refl _
     |x::y::l,sub,nd =>
      have e1:=sub x (by simp)
      have e2:=sub y (by simp)
      rw[nodup_cons] at nd
      exact absurd (by rw[e1,<-e2];simp) nd.1
    omega
  ·rw[if_neg b]
   intro e
   have l1:(O6 (wZ c k size)).cps.size=2:=rfl
   rw[e,vZ] at l1
   have:=zLm _ a
   rw[vZ] at this
   omega
 ·rw[if_neg a]
  by_cases b:wZ c k' size∈resv
  ·rw[if_pos b]
   intro e
   have l1:(O6 (wZ c k' size)).cps.size=2:=rfl
   rw[<-e,vZ] at l1
   have:=zLm _ b
   rw[vZ] at this
   omega
  ·rw[if_neg b]
   exact ne
theorem zFk{α β:Type}{c:α->Option Bool}{f f':α->Option β}:∀{xs:List α},(∀x∈xs,c x=some true->f x=f' x)->wB c f xs=wB c f' xs
 |[],_=>rfl
 |x::xs,h=>by
  have ih:=zFk (c:=c) (f:=f) (f':=f') (xs:=xs) λy hy=>h y (mem_cons_of_mem _ hy)
  show(c x).bind _=(c x).bind _
  cases e:c x with
  |none=>rfl
  |some b =>
   cases b with
   |false=>exact ih
   |true =>
    show(f x).bind _=(f' x).bind _
    rw[h x mem_cons_self e,ih]
theorem zJ3{α β:Type}{f:α->Option β}{P:α->β->Prop}{xs:List α}(hl:xs.length<=1000)(h:∀x∈xs,W (f x) (P x)):W (yU (λ_=>some true) f xs) λys=>ys.length=xs.length/\∀(i:Nat)(x:α),xs[i]?=some x->∃y,ys[i]?=some y/\P x y:=by
 unfold yU
 rw[if_pos (yH hl)]
 clear hl
 induction xs with
 |nil=>exact⟨[],rfl,rfl,λi x e=>by simp at e⟩
 |cons x xs ih =>
  obtain⟨y,ey,py⟩:=h x mem_cons_self
  obtain⟨ys,es,l,at_⟩:=ih λz hz=>h z (mem_cons_of_mem _ hz)
  refine⟨y::ys,?_,by rw[length_cons,length_cons,l],λi z e=>?_⟩
  ·show(f x).bind _=_
   rw[ey]
   show(wB _ f xs).bind _=_
   rw[es];rfl
  ·cases i with
   |zero=>cases(Option.some.inj (show some x=some z from e));exact⟨y,rfl,py⟩
   |succ i=>exact at_ i z (by simpa using e)
section
variable{C:Addr}{m:aD C}{n:Int}{xss fair:List LI}{R:LI}{rk:List (Option (Int×Option Int))}{xs:List Lv}
theorem zOz(n:Int):eY n (rng n):=⟨Mr n,λx hx=>cO.mp hx⟩
theorem zLb(g:Gr m n):wX m=some (rng n):=by
 have p0:=g.pos;have p1:=g.few
 unfold wX
 rw[Td g]
 show Fo n=_
 unfold Fo
 rw[if_pos ⟨by omega,by omega⟩]
 rfl
theorem Z2(hl:(rk.length:Int)=n)(h0:0<=s)(h1:s<n):L2.aH rk s=some (rk.getD s.toNat none):=by
 rw[uP h0,getD_eq_getElem?_getD,List.getElem?_eq_getElem (by omega)]
 rfl
def Cp(xss fair:List LI)(n:Int)(R:LI)(rk:List (Option (Int×Option Int)))(xs:List Lv)(s:Int):Prop :=
 (s∈R/\∃w l,xs[s.toNat]?=some (.loop w l)/\rN xss fair (rng n) s w l)\/(s∉R/\∃r o,rk.getD s.toNat none=some (r,o)/\xs[s.toNat]?=some (.rank r o))
theorem Cp.snoc(h:Cp xss fair n R rk xs s)(hs:s.toNat<xs.length):Cp xss fair n R rk (xs++[y]) s:=by
 rcases h with⟨a,w,l,e,k⟩|⟨a,r,o,e1,e2⟩
 ·exact .inl ⟨a,w,l,by rw[getElem?_append_left hs];exact e,k⟩
 ·exact .inr ⟨a,r,o,e1,by rw[getElem?_append_left hs];exact e2⟩
theorem GP(g:Gr m n)(hf:Cm n m.fair)(OD:m.fair.length<=10):∃R rk,(∀s∈rng n,∀t∈nxt m.steps s,t∈R->s∈R)/\pG m.steps m.fair n (rng n) R rk/\W (SN m) λL=>(L.xs.length:Int)=n/\∀s,0<=s->s<n->Cp m.steps m.fair n R rk L.xs s:=by
 have p0:=g.pos;have p1:=g.few
 obtain⟨R,eR,_,lo⟩:=zRv g hf OD (zOz n)
 obtain⟨near,rk,erk,K⟩:=GC g hf (zOz n) eR
 refine⟨R,rk,near,K,?_⟩
 have rl:=wG (n:=n) (by omega)
 unfold SN
 rw[zLb g,zC,zC,zC,aj,aj,aj]
 show W (xK m (rng n)) _
 unfold xK
 rw[erk,zC,aj,zC,aj,zC,zC,zLb g,aj]
 refine xE (λi s=>s.xs.length=i/\∀t:Int,0<=t->t<(i:Int)->Cp m.steps m.fair n R rk s.xs t) ⟨rfl,λt h0 h1=>by omega⟩ (λi x s hi hI=>?_) λs hI=>?_
 ·obtain⟨rfl,il⟩:=wz hi
  obtain⟨sl,sm⟩:=hI
  have xr:(i:Int)∈rng n:=mem_of_getElem? hi
  have add:∀y:Lv,Cp m.steps m.fair n R rk (s.xs++[y]) (i:Int)->W (Lf s (Fz.mk y)) λs'=>s'.xs.length=i+1/\∀t:Int,0<=t->t<((i+1:Nat):Int)->Cp m.steps m.fair n R rk s'.xs t:=λy hy=>by
   unfold Lf
   rw[if_pos (yH (by omega)),aj]
   refine⟨by show(s.xs++[y]).length=_;rw[length_append,sl];rfl,λt h0 h1=>?_⟩
   by_cases e:t=(i:Int)
   ·rw[e];exact hy
   ·exact(sm t h0 (by omega)).snoc (by omega)
  have last:∀y:Lv,(s.xs++[y])[((i:Int)).toNat]?=some y:=λy=>by
   rw[Int.toNat_natCast,getElem?_append_right (by omega),sl,Nat.sub_self];rfl
  rw[zC,if_neg (by simp[xr]),zC,zC,zC,Z2 K.len (by omega) il,aj,aj]
  by_cases q:(i:Int)∈R
  ·rw[K.non (i:Int) (by omega) il λz=>z.2 q,Option.isNone_none,if_pos rfl,zC,zC,zC,zC]
   refine(lo (i:Int) (by omega) il).imp λr hr=>?_
   rcases hr with⟨z,_⟩|⟨_,w,l,rfl,ok⟩
   ·exact absurd q z
   ·rw[aj,aj]
    refine(add (.loop w l) (.inl ⟨q,w,l,last _,ok⟩)).imp λs' h'=>?_
    rw[aj,aj,aj]
    exact h'
  ·obtain⟨A,o,e,_⟩:=K.are (i:Int) xr q
   rw[e,Option.isNone_some,if_neg (by decide),zC,zC,zC,zC,zC,aj,aj,aj]
   show W (vG ((A.length:Int)-1,o)) _
   unfold vG
   rw[aj]
   refine(add (.rank ((A.length:Int)-1) o) (.inr ⟨q,_,o,e,last _⟩)).imp λs' h'=>?_
   rw[aj,aj,aj]
   exact h'
 ·rw[rl] at hI
  rw[aj]
  exact⟨by omega,λt h0 h1=>hI.2 t h0 (by omega)⟩
theorem zN1(hl:(xss.length:Int)=n)(hd:∃r,row=st::r)(h6:row.length<=600)(all:∀x∈row,0<=x/\x<n)(c:Ch xss row):IW row xss st=some true:=by
 obtain⟨r0,e0⟩:=hd
 have ne:row≠[]:=by rw[e0];simp
 have a0:L2.aH row (0:Int)=some st:=by rw[uP (by decide),e0];rfl
 refine uz ?_
 unfold IW
 rw[zC,Bool.not_true,if_neg (by decide),decide_eq_false ne,if_neg (by decide),aj,decide_eq_false (show¬(600:Int)<(row.length:Int) by omega),if_neg (by decide),zC,zC,xZ]
 refine⟨⟨by omega,by omega⟩,Kr (λ_ _=>True) trivial (λi x _ hi _=>?_) λ_ _=>by rw[Ep,a0,zC,aj,aj];exact decide_eq_true rfl⟩
 obtain⟨rfl,hx⟩:=wz hi
 have il:i<row.length:=by omega
 have at_:L2.aH row (i:Int)=some row[i]:=by rw[uP (by omega),Int.toNat_natCast];exact List.getElem?_eq_getElem il
 have wh:uF row[i]=some true:=rfl
 have rg:=all _ (getElem_mem il)
 rw[zC,zC,zC,zC,zC,at_,aj,aj,wh,aj,aj,Bool.not_true,if_neg (by decide),zC,zC,aj,if_pos (decide_eq_true rg.1),aj,aj,hl,decide_eq_true rg.2,Bool.not_true,if_neg (by decide),zC]
 have fin:W (if decide ((0:Int)<(i:Int))=true then(some row[i]).bind λa10=>((L2.aH row ((i:Int)-1)).bind λb9=>L2.aH xss b9).bind λZv=>some (!decide (a10∈Zv)) else some false) (· = false):=by
  by_cases z:0<i
  ·rw[decide_eq_true (show(0:Int)<(i:Int) by omega),if_pos rfl,zC,aj,zC,zC]
   have jl:i-1<row.length:=by omega
   have at2:L2.aH row ((i:Int)-1)=some row[i-1]:=by rw[uP (by omega),show((i:Int)-1).toNat=i-1 by omega];exact List.getElem?_eq_getElem jl
   have b:=all _ (getElem_mem jl)
   rw[at2,aj,fB b.1]
   refine⟨_,Mq hl b.1 b.2,?_⟩
   rw[aj,decide_eq_true (c.at (List.getElem?_eq_getElem jl) (by rw[show i-1+1=i by omega];exact List.getElem?_eq_getElem il))]
   rfl
  ·rw[decide_eq_false (by omega),if_neg (by decide),aj]
 refine fin.imp λb hb=>?_
 rw[hb,if_neg (by decide),aj]
 exact⟨(),rfl,trivial⟩
theorem GQ(hl:(xss.length:Int)=n)(hf:fair.length<=4)(L:rN xss fair (rng n) s w l):Ot (.loop w l) xss fair (rng n) s=some true:=by
 obtain⟨hd,wch,wU,wl,⟨pre,t,r,e1,e2,lch⟩,lU,met,ll⟩:=L
 have lne:l≠[]:=by rw[e2];simp
 obtain⟨pl,y,e3⟩:∃pl y,l=pl++[y]:=⟨_,_,(List.dropLast_concat_getLast lne).symm⟩
 have a2:L2.aH w (-(1:Int))=some t:=by rw[e1];exact Oz
 have a3:L2.aH l (0:Int)=some t:=by rw[uP (by decide),e2];rfl
 have a4:L2.aH l (-(1:Int))=some y:=by rw[e3];exact Oz
 have yb:=cO.mp (lU y (by rw[e3];simp))
 have a5:L2.aH xss y=some (nxt xss y):=by rw[uP yb.1];exact Mq hl yb.1 yb.2
 have ty:t∈nxt xss y:=lch pl y t [] (by rw[e3];simp)
 have w1:=zN1 hl (st:=s) hd (by omega) (λx hx=>cO.mp (wU x hx)) wch
 have w2:=zN1 hl (st:=t) ⟨r,e2⟩ (by omega) (λx hx=>cO.mp (lU x hx)) lch.pre
 refine uz ?_
 unfold Ot
 dsimp only[Cj,jz,iH]
 rw[zC,zC,zC,aj,aj,if_neg (by decide),if_neg (by decide),zC,zC,zC,aj,aj]
 show W (IW w xss s) _
 rw[w1,aj,aj,if_neg (by decide),zC,zC,zC,zC,zC,aj,zC,zC,zC,zC,aj,a2,aj,aj,aj,aj]
 show W (IW l xss t) _
 rw[w2,aj,aj,if_neg (by decide),zC,zC,aj,a3,aj,zC,zC,zC,aj,a4,aj,a5,aj,aj,decide_eq_true ty,if_neg (by decide),zC,zC,zC,aj,zC,aj]
 unfold t_
 rw[if_pos (Nat.le_of_lt (yH (by omega))),aj]
 refine Kr (λ_ _=>True) trivial (λi x _ hi _=>?_) λ_ _=>?_
 ·have xm:x∈rng n:=(mem_append.mp (mem_of_getElem? hi)).elim (wU x) (lU x)
  rw[decide_eq_true xm,if_neg (by decide),aj]
  exact⟨(),rfl,trivial⟩
 rw[Ep,zC,zC,aj]
 refine Kr (λ_ _=>True) trivial (λi F _ hi _=>?_) λ_ _=>?_
 ·have Fm:=mem_of_getElem? hi
  obtain⟨x,xl,xF⟩:=met F Fm
  rw[zC,zC,zC,zC,aj,uB (p:=λx=>decide (x∈F)) (g:=λx=>x) (yH (by omega)) (λ_ _=>rfl) (λ_ _=>rfl),map_id',aj,aj,aj]
  have ne:x∈l.filter λx=>decide (x∈F):=mem_filter.mpr ⟨xl,decide_eq_true xF⟩
  have:=length_pos_of_mem ne
  rw[decide_eq_false (by omega),if_neg (by decide),aj]
  exact⟨(),rfl,trivial⟩
 ·rw[Ep,aj]
theorem Tq(h0:0<=r)(ho:∀i,o=some i->0<=i/\i<(fair.length:Int)):xU (.rank r o) fair=some true:=by
 have h1:decide (r<0)=false:=decide_eq_false (by omega)
 cases o with
 |none=>simp[xU,uF,Cj,lQ,jT,h1]
 |some i =>
  obtain⟨i0,i1⟩:=ho i rfl
  simp[xU,uF,Cj,lQ,jT,h1,i0,i1]
theorem GR(ha:0<=a)(hb:0<=b)(ho:∀i,o=some i->0<=i/\i<(fair.length:Int))(ho':∀i,o'=some i->0<=i/\i<(fair.length:Int))(hab:b<=a)(h:b=a->∃(i:Int) (F:LI),o=some i/\o'=some i/\L2.aH fair i=some F/\s∉F/\t∉F):uI (.rank a o) (.rank b o') fair s t=some true:=by
 by_cases c:b<a
 ·simp[uI,Tq ha ho,Tq hb ho',lQ,jT,c]
 ·have e:b=a:=by omega
  subst e
  obtain⟨i,F,rfl,rfl,hF,q1,q2⟩:=h rfl
  simp[uI,Tq ha ho,Tq hb ho',lQ,jT,hF,q1,q2]
theorem GX(h0:0<=s)(e:xs[s.toNat]?=some x):L2.aH xs s=some x:=by rw[uP h0];exact e
theorem zN2(hl:(xss.length:Int)=n)(rg:∀s,0<=s->s<n->∀t∈nxt xss s,0<=t/\t<n)(near:∀s∈rng n,∀t∈nxt xss s,t∈R->s∈R)(K:pG xss fair n (rng n) R rk)(lv:∀s,0<=s->s<n->Cp xss fair n R rk xs s)(s0:0<=s)(s1:s<n)(sR:s∉R):S7 xs xss fair s=some true:=by
 have sU:s∈rng n:=cO.mpr ⟨s0,s1⟩
 obtain⟨A,o,e,hA,ho,fall⟩:=K.are s sU sR
 have sA:s∈A:=(hA.2 _).mpr .here
 have Ap:=length_pos_of_mem sA
 have xs_:xs[s.toNat]?=some (.rank ((A.length:Int)-1) o):=by
  rcases lv s s0 s1 with⟨z,_⟩|⟨_,r,o2,e2,e3⟩
  ·exact absurd z sR
  ·rw[e] at e2;cases e2;exact e3
 refine uz ?_
 unfold S7
 rw[GX s0 xs_,zC,zC,zC,zC,aj,aj]
 show W (xU (.rank ((A.length:Int)-1) o) fair) _
 rw[Tq (by omega) ho,aj,aj,if_neg (by decide),zC,zC,fB s0]
 refine⟨_,Mq hl s0 s1,Kr (λ_ _=>True) trivial (λj t _ hj _=>?_) λ_ _=>by rw[Ep,aj]⟩
 have tn:=mem_of_getElem? hj
 obtain⟨t0,t1⟩:=rg s s0 s1 t tn
 have tU:t∈rng n:=cO.mpr ⟨t0,t1⟩
 have tR:t∉R:=λq=>sR (near s sU t tn q)
 obtain⟨A',o',e',hA',ho',_⟩:=K.are t tU tR
 have tA:t∈A':=(hA'.2 _).mpr .here
 have A'p:=length_pos_of_mem tA
 have xt_:xs[t.toNat]?=some (.rank ((A'.length:Int)-1) o'):=by
  rcases lv t t0 t1 with⟨z,_⟩|⟨_,r,o2,e2,e3⟩
  ·exact absurd z tR
  ·rw[e'] at e2;cases e2;exact e3
 have st:Rc xss (rng n) s t:=.on .here tn tU
 have nA':A'.Nodup:=hA'.1.imp λh=>Int.ne_of_lt h
 have sub:∀z∈A',z∈A:=λz hz=>(hA.2 z).mpr (st.trans ((hA'.2 z).mp hz))
 have le:=N7 nA' sub
 have fl:uI (.rank ((A.length:Int)-1) o) (.rank ((A'.length:Int)-1) o') fair s t=some true:=by
  refine GR (by omega) (by omega) ho ho' (by omega) λq=>?_
  have back:Rc xss (rng n) t s:=by
   refine(hA'.2 _).mp (Classical.byContradiction λz=>?_)
   have:=N7 (ks:=s::A') (ns:=A) (nodup_cons.mpr ⟨z,nA'⟩) λy hy=>(mem_cons.mp hy).elim (λq=>q▸sA) (sub y)
   rw[length_cons] at this
   omega
  obtain⟨ix,eo,hx',hF⟩:=fall t tn tU back
  obtain⟨i0,i1⟩:=ho ix eo
  have eF:fair[ix.toNat]?=some fair[ix.toNat]:=List.getElem?_eq_getElem (by omega)
  exact⟨ix,_,eo,hx' _ e',by rw[uP i0];exact eF,hF _ eF⟩
 rw[GX t0 xt_,zC,zC,zC,zC,aj,zC,zC,aj,aj,aj]
 show W (uI (.rank ((A.length:Int)-1) o) (.rank ((A'.length:Int)-1) o') fair s t) _
 rw[fl,aj,aj,if_neg (by decide),aj]
 exact⟨(),rfl,trivial⟩
theorem GZ(hl:(xss.length:Int)=n)(n0:0<=n)(n60:n<=60)(f4:fair.length<=4)(rg:∀s,0<=s->s<n->∀t∈nxt xss s,0<=t/\t<n)(near:∀s∈rng n,∀t∈nxt xss s,t∈R->s∈R)(K:pG xss fair n (rng n) R rk)(xl:(xs.length:Int)=n)(lv:∀s,0<=s->s<n->Cp xss fair n R rk xs s):Ou xs xss fair=some true:=by
 refine uz ?_
 unfold Ou
 rw[zC,if_neg (by decide),aj,xl,hl,if_neg (by simp),zC,zC,aj]
 refine Kr (λ_ _=>True) trivial (λi x _ _ _=>?_) λ_ _=>?_
 ·cases x with
  |loop w l=>exact⟨_,rfl,(),rfl,trivial⟩
  |rank r o=>exact⟨_,rfl,(),rfl,trivial⟩
 rw[Ep,zC,show Fo n=some (rng n) by unfold Fo;rw[if_pos ⟨by omega,by omega⟩];rfl,aj,zC,zC,aj]
 refine Kr (λ_ _=>True) trivial (λi s _ hi _=>?_) λ_ _=>by rw[Ep,aj]
 obtain⟨s0,s1⟩:=cO.mp (mem_of_getElem? hi)
 rcases lv s s0 s1 with⟨sR,w,l,e,ok⟩|⟨sR,r,o,_,e⟩
 ·rw[GX s0 e,zC,zC,zC,zC,aj]
  show W (some (("loop":Str))) _
  rw[aj,aj,if_pos (decide_eq_true rfl),zC,zC,zC,zC,aj,aj]
  show W (Ot (.loop w l) xss fair (rng n) s) _
  rw[GQ hl f4 ok,aj,aj,if_neg (by decide),aj,Ab,aj]
  exact⟨(),rfl,trivial⟩
 ·rw[GX s0 e,zC,zC,zC,zC,aj]
  show W (some (("rank":Str))) _
  rw[aj,aj,if_neg (by decide),zN2 hl rg near K lv s0 s1 sR,zC,zC,aj,aj,if_neg (by decide),aj,Ab,aj]
  exact⟨(),rfl,trivial⟩
theorem zN6(n60:n<=60)(xl:(xs.length:Int)=n)(many:Int)(c8:Int)(ne:loops≠[])(ll:loops.length<=60)(rO:∀k∈loops,0<=k/\k<n/\∃w l,xs[k.toNat]?=some (.loop w l)/\l.length<=1000) :
  W (((bT c8 (loops.length:Int)).bind λS8=>aH loops S8).bind λh_=>((some loops).bind λys=>yU (λ(x47:Int)=>some (!decide (x47=h_))) (λ(x47:Int)=>((aH xs x47).bind λa48=>jz a48).bind λa50=>((aH xs x47).bind λa49=>iH a49).bind λGg=>some (a50,Gg)) ys).bind λj7=>(Iw (b_.mk xs) h_).bind λOv=>(Iz Ov h_ many).bind λsW=>(((some loops).bind λys=>yU (λ(x54:Int)=>some (!decide (x54=h_))) (λ(x54:Int)=>((aH sW.xs x54).bind λa55=>jz a55).bind λa57=>((aH sW.xs x54).bind λa56=>iH a56).bind λMl=>some (a57,Ml)) ys).bind λS9=>some (!decide (j7=S9))).bind λb=>if b=true then(some false).bind λb=>some (Out.rt b) else some (Out.nx sW)) λ(o:Out b_ Bool)=>∃u,o=.nx u:=by
 have lp:=List.length_pos_iff.mpr ne
 have b0:=Int.emod_nonneg c8 (show(loops.length:Int)≠0 by omega)
 have b1:=Int.emod_lt_of_pos c8 (show 0<(loops.length:Int) by omega)
 rw[zC,zC,pZ]
 refine⟨by omega,?_⟩
 rw[fB b0]
 refine⟨_,List.getElem?_eq_getElem (by omega),?_⟩
 have hat:=rO _ (getElem_mem (show(c8%(loops.length:Int)).toNat<loops.length by omega))
 generalize loops[(c8%(loops.length:Int)).toNat]=at_ at hat
 obtain⟨a0,a1,w,l,ea,l9⟩:=hat
 let f:Int->LI×LI:=λk=>match xs[k.toNat]? with
  |some (.loop w l)=>(w,l)
  |_=>([],[])
 have hf:∀k∈loops,(((aH xs k).bind λa48=>jz a48).bind λa50=>((aH xs k).bind λa49=>iH a49).bind λGg=>some (a50,Gg))=some (f k):=λk hk=>by
  obtain⟨k0,_,w',l',e,_⟩:=rO k hk
  show _=some (match xs[k.toNat]? with|some (.loop w l)=>(w,l)|_=>([],[]))
  rw[GX k0 e,e]
  rfl
 have ec:yU (λ(x47:Int)=>some (!decide (x47=at_))) (λ(x47:Int)=>((aH xs x47).bind λa48=>jz a48).bind λa50=>((aH xs x47).bind λa49=>iH a49).bind λGg=>some (a50,Gg)) loops=some ((loops.filter λx=>!decide (x=at_)).map f):=uB (p:=λx=>!decide (x=at_)) (g:=f) (yH (by omega)) (λ_ _=>rfl) hf
 have al:at_.toNat<xs.length:=yV ea
 have e1:Iw (b_.mk xs) at_=some (b_.mk (xs.set at_.toNat (.loop [] l))):=by
  unfold Iw
  rw[if_pos a0]
  show(match xs[at_.toNat]? with|some (.loop _ l)=>some (b_.mk (xs.set at_.toNat (.loop [] l)))|_=>none)=_
  rw[ea]
 have e2:Iz (b_.mk (xs.set at_.toNat (.loop [] l))) at_ many=some (b_.mk ((xs.set at_.toNat (.loop [] l)).set at_.toNat (.loop [] (l++[many])))):=by
  unfold Iz
  rw[if_pos a0]
  show(match(xs.set at_.toNat (.loop [] l))[at_.toNat]? with|some (.loop w l)=>if l.length<cap then some (b_.mk ((xs.set at_.toNat (.loop [] _)).set at_.toNat (.loop w (l++[many])))) else none|_=>none)=_
  rw[List.getElem?_set,if_pos rfl,if_pos al]
  show(if l.length<cap then _ else _)=_
  rw[if_pos (yH l9)]
 rw[zC,zC,aj,ec,aj,e1,zC,aj,e2,zC,aj,set_set]
 have ec2:yU (λ(x54:Int)=>some (!decide (x54=at_))) (λ(x54:Int)=>((aH (xs.set at_.toNat (.loop [] (l++[many]))) x54).bind λa55=>jz a55).bind λa57=>((aH (xs.set at_.toNat (.loop [] (l++[many]))) x54).bind λa56=>iH a56).bind λMl=>some (a57,Ml)) loops=some ((loops.filter λx=>!decide (x=at_)).map f):=by
  rw[<-ec]
  unfold yU
  rw[if_pos (yH (by omega)),if_pos (yH (by omega))]
  refine zFk λk hk hc=>?_
  have kn:k≠at_:=λq=>by rw[q] at hc;simp at hc
  obtain⟨k0,_,w',l',e,_⟩:=rO k hk
  rw[GX k0 e,GX k0 (show(xs.set at_.toNat (.loop [] (l++[many])))[k.toNat]?=some (.loop w' l') by rw[List.getElem?_set,if_neg (by omega)];exact e)]
 rw[zC,zC,zC,aj]
 show W (yU _ _ loops) _
 rw[ec2,aj,aj,decide_eq_true rfl,if_neg (by decide),aj]
 exact⟨_,rfl⟩
end
theorem G3(c:Int)(k:Int):wT c k=some (sZ c k):=uz (Mz c)
theorem zS9(C:Addr)(xg:tQ):W (Vy C xg) (· = true):=by
 unfold Vy
 rw[zC,zC,zC]
 refine(VD xg (by decide)).imp λc0 _=>?_
 rw[aj]
 refine(Gv _).imp λn ⟨n1,n12⟩=>?_
 rw[zC]
 refine(Gj xg n1 (by omega)).imp λxss ⟨hl,hr⟩=>?_
 rw[zC,zC,zC]
 refine(VD xg (by decide)).imp λc1 _=>?_
 rw[aj]
 show W (vT c1 n) _
 refine(zRw c1 n1 (by omega)).imp λfair ⟨hf,f4⟩=>?_
 rw[zC]
 refine(VD xg (by decide)).imp λc2 _=>?_
 have rl:=wG (n:=n) (by omega)
 have r3:rng 3=[0,1,2]:=by decide
 have r2:rng 2=[0,1]:=by decide
 rw[zC,zC,xZ,r3]
 refine⟨⟨by decide,by decide⟩,?_⟩
 refine(zJ3 (P:=λk s=>s=sZ (c2/36) k) (by decide) (λk _=>?_)).imp λnames ⟨nl,Tt⟩=>?_
 ·rw[zC,zC,Ac]
  refine⟨⟨by decide,by decide⟩,?_⟩
  rw[aj]
  show W (wT (c2/36) k) _
  rw[G3,aj]
 rw[zC,zC,xZ,r2]
 refine⟨⟨by decide,by decide⟩,?_⟩
 refine(zJ3 (P:=λ_ s=>eY n s) (by decide) (λk hk=>?_)).imp λsets ⟨sl,sat⟩=>?_
 ·have d0:=Int.emod_nonneg (c2/6+k) (show(6:Int)≠0 by decide)
  have d1:=Int.emod_lt_of_pos (c2/6+k) (show(0:Int)<6 by decide)
  rw[zC,zC,zC,zC,zC,zC,zC,Ac]
  refine⟨⟨by decide,by decide⟩,?_⟩
  rw[aj,pZ]
  refine⟨by decide,?_⟩
  rw[fB d0]
  refine⟨_,List.getElem?_eq_getElem (by show _<6;omega),?_⟩
  rw[aj,aj,aj]
  exact Tc _ _ (by show 0<=n;omega) (by show n<=60;omega)
 rw[zC,zC,xZ,r2]
 refine⟨⟨by decide,by decide⟩,?_⟩
 obtain⟨y0,ey0,e0⟩:=Tt 0 0 rfl
 obtain⟨y1,ey1,e1⟩:=Tt 1 1 rfl
 obtain⟨s0,es0,h0⟩:=sat 0 0 rfl
 obtain⟨s1,es1,h1⟩:=sat 1 1 rfl
 subst e0 e1
 have em:yU (λ(x25:Int)=>some true) (λ(x25:Int)=>(aH names x25).bind λa26=>(aH sets x25).bind λMj=>some (a26,Mj)) [0,1]=some [(sZ (c2/36) 0,s0),(sZ (c2/36) 1,s1)]:=by
  unfold yU
  rw[if_pos (by decide)]
  show((aH names 0).bind λa26=>(aH sets 0).bind λMj=>some (a26,Mj)).bind _=_
  rw[uP (by decide),uP (by decide),show names[(0:Int).toNat]?=_ from ey0,show sets[(0:Int).toNat]?=_ from es0]
  show(((aH names 1).bind λa26=>(aH sets 1).bind λMj=>some (a26,Mj)).bind _).bind _=_
  rw[uP (by decide),uP (by decide),show names[(1:Int).toNat]?=_ from ey1,show sets[(1:Int).toNat]?=_ from es1]
  rfl
 rw[em,aj,zC,zC,zC,aj,HN (λx:LI=>x)]
 refine⟨yH (by omega),?_⟩
 rw[map_id',zC,zC,aj,HN (λx:LI=>x)]
 refine⟨yH (by omega),?_⟩
 rw[map_id']
 have mo:ZG n [(sZ (c2/36) 0,s0),(sZ (c2/36) 1,s1)]:=by
  refine⟨?_,by show 2<=100;decide,λp hp=>?_⟩
  ·exact nodup_cons.mpr ⟨λz=>GK (c2/36) (k:=0) (k':=1) (by decide) (by decide) (by decide) (by decide) (by decide) (mem_singleton.mp z),by simp⟩
  ·rcases mem_cons.mp hp with e|hp
   ·rw[e];exact⟨(VP _ _).1,(VP _ _).2,ZJ h0 (by omega)⟩
   ·rw[mem_singleton.mp hp];exact⟨(VP _ _).1,(VP _ _).2,ZJ h1 (by omega)⟩
 refine(Tf C (mo:=some [(sZ (c2/36) 0,s0),(sZ (c2/36) 1,s1)]) (fo:=some fair) hl n1 (by omega) (λxs hx=>by obtain⟨a,b,c,d⟩:=hr xs hx;exact⟨a,b,by omega,d⟩) mo hf).imp λm ⟨g,em1,_,Z4⟩=>?_
 have Z4:m.fair=fair:=Z4
 subst em1 Z4
 have rg:∀s:Int,0<=s->s<n->∀t∈nxt m.steps s,0<=t/\t<n:=λs a b t ht=>ZP g a b t ht
 rw[zC,zC,xZ,r2]
 refine⟨⟨by decide,by decide⟩,?_⟩
 refine Kr (λ_ _=>True) trivial (λi x s _ _=>?_) λs _=>by rw[Ep,aj]
 obtain⟨R,rk,near,K,wl⟩:=GP g hf (by omega)
 rw[zC]
 refine wl.imp λL ⟨xl,lv⟩=>?_
 obtain⟨xs⟩:=L
 have xl:(xs.length:Int)=n:=xl
 have lv:∀s,0<=s->s<n->Cp m.steps m.fair n R rk xs s:=lv
 show W (((Ou xs m.steps m.fair).bind _).bind _) _
 rw[GZ hl (by omega) (by omega) f4 rg near K xl lv,zC,zC,aj,aj,if_neg (by decide),zC,zC,xZ]
 refine⟨⟨by omega,by omega⟩,?_⟩
 have el:yU (λ(x39:Int)=>((aH xs x39).bind λa40=>Cj a40).bind λa41=>some (decide (a41=("loop":Str)))) (λ(x39:Int)=>some x39) (rng n)=some ((rng n).filter λx=>decide (x∈R)):=by
  rw[uB (p:=λx=>decide (x∈R)) (g:=λx=>x) (yH (by omega)) (λx hx=>?_) (λ_ _=>rfl),map_id']
  obtain⟨x0,x1⟩:=cO.mp hx
  rcases lv x x0 x1 with⟨xR,w,l,e,_⟩|⟨xR,r,o,_,e⟩
  ·rw[GX x0 e,decide_eq_true xR];rfl
  ·rw[GX x0 e,decide_eq_false xR];rfl
 show W (yU _ _ (rng n)) _
 rw[el,aj,zC]
 have ll:((rng n).filter λx=>decide (x∈R)).length<=60:=Nat.le_trans (length_filter_le _ _) (by omega)
 have hlp:∀k∈(rng n).filter λx=>decide (x∈R),0<=k/\k<n/\∃w l,xs[k.toNat]?=some (.loop w l)/\l.length<=1000:=λk hk=>by
  obtain⟨a,b⟩:=mem_filter.mp hk
  obtain⟨k0,k1⟩:=cO.mp a
  refine⟨k0,k1,?_⟩
  rcases lv k k0 k1 with⟨_,w,l,e,ok⟩|⟨kR,_⟩
  ·exact⟨w,l,e,by have:=ok.ll;omega⟩
  ·exact absurd (of_decide_eq_true b) kR
 generalize((rng n).filter λx=>decide (x∈R))=loops at ll hlp
 have key:W (if(!decide (loops=([]:LI)))=true then(((bT c2 (loops.length:Int)).bind λS8=>aH loops S8).bind λh_=>((some loops).bind λys=>yU (λ(x47:Int)=>some (!decide (x47=h_))) (λ(x47:Int)=>((aH xs x47).bind λa48=>jz a48).bind λa50=>((aH xs x47).bind λa49=>iH a49).bind λGg=>some (a50,Gg)) ys).bind λj7=>(Iw (b_.mk xs) h_).bind λOv=>(Iz Ov h_ n).bind λsW=>(((some loops).bind λys=>yU (λ(x54:Int)=>some (!decide (x54=h_))) (λ(x54:Int)=>((aH sW.xs x54).bind λa55=>jz a55).bind λa57=>((aH sW.xs x54).bind λa56=>iH a56).bind λMl=>some (a57,Ml)) ys).bind λS9=>some (!decide (j7=S9))).bind λb=>if b=true then(some false).bind λb=>some (Out.rt b) else some (Out.nx sW)) else some (.nx (b_.mk xs))) λ(o:Out b_ Bool)=>∃u,o=.nx u:=by
  by_cases ne:loops=[]
  ·rw[decide_eq_true ne,if_neg (by decide),aj]
   exact⟨_,rfl⟩
  ·rw[decide_eq_false ne,Bool.not_false,if_pos rfl]
   exact zN6 (by omega) xl n c2 ne ll hlp
 refine key.imp λo ⟨u,e⟩=>?_
 subst e
 rw[Ab,zC,aj,aj]
 exact⟨(),rfl,trivial⟩
def Bx(tP:Addr)(K:PySem.W.Frag):Sp:=λvs H Q _=>H tP=some jU/\∃(a:Addr)(ns:LI),vs=[.ref a]/\aV K H a (ns.map V.int)/\ns.length<=63/\∀H',Same H H'->Q (.bl true) H'
section
variable{P:Program}{w:World}{K:PySem.W.Frag}{mg:Str->Option Value}{base h:Heap}{j k:Nat}{f C:Addr}{fd:FuncData}{ps:List Str}{sp:Sp}{x y:Str}{st:Stmt}
abbrev FP(K:PySem.W.Frag)(x:Str)(st:Stmt):Prop:=∃f fd,nsIn K mainGlobals x=some (some (.ref f))/\bH K x x st f fd
abbrev MP(K:PySem.W.Frag)(C:Addr)(x y:Str)(st:Stmt):Prop:=∃f fd,Meth K C x f/\bH K x y st f fd
abbrev FPW(K:PySem.W.Frag)(tP:Addr)(x:Str)(st:Stmt):Prop:=∃(f:Addr)(fd:FuncData)(c:Addr),nsIn K mainGlobals x=some (some (.ref f))/\bH K x x st f fd/\fd.code=.ref c/\codeHdIn K c tP=true
theorem MF{oc kV doc pm cdv ct:Value}{od an:Option Addr}{osl:Array (Option Value)}{tP c:Addr}(a:nsIn K mainGlobals x=some (some (.ref f)))(l:K.lookup f=some ⟨oc,od,.func (fnOf x x (vL st) (xX st) (zK st) .none kV doc pm an cdv ct),osl⟩)(ck:codeIn K cdv x=true)(kp:keepIn K (.ref f)=true)(eW:cdv=.ref c)(hW:codeHdIn K c tP=true):FPW K tP x st:=⟨f,_,c,a,oE l ck kp,eW,hW⟩
def Jd(K:PySem.W.Frag):List Str->Prop
 |[]=>True
 |x::r=>nsIn K mainGlobals x=some none/\Jd K r
theorem Tv(a:nsIn K mainGlobals x=some (some (.ref f)))(F:bH K x x st f fd):FP K x st:=⟨f,fd,a,F⟩
theorem Tw(a:Meth K C x f)(F:bH K x y st f fd):MP K C x y st:=⟨f,fd,a,F⟩
theorem G4{dV oc kV doc pm cdv ct:Value}{od an:Option Addr}{osl:Array (Option Value)}(l:K.lookup f=some ⟨oc,od,.func (fnOf x y (vL st) (xX st) (zK st) dV kV doc pm an cdv ct),osl⟩)(c:codeIn K cdv y=true)(k:keepIn K (.ref f)=true):Aq K x y st dV f (fnOf x y (vL st) (xX st) (zK st) dV kV doc pm an cdv ct):=⟨⟨oc,od,kV,doc,pm,an,cdv,ct,osl,rfl,l,c⟩,k⟩
theorem MJ(X:K.In h)(G:h.Ns mainGlobals mg)(p:FP K x st)(t:∀f fd,bH K x x st f fd->aB P w K mg base aZ k f fd ps sp/\Binds K fd ps []):bC P w K mg base k x ps sp:=by
 obtain⟨f,fd,a,F⟩:=p
 exact⟨f,fd,(t f fd F).1,(t f fd F).2,F.kp,mg_of X G a⟩
theorem G5(c:Cls K C)(p:MP K C x y st)(t:∀f fd,bH K x y st f fd->aB P w K mg base aZ k f fd ps sp/\Binds K fd ps []):dM P w K mg base k C x ps sp:=by
 obtain⟨f,fd,a,F⟩:=p
 exact⟨⟨f,fd,(t f fd F).1,(t f fd F).2,a⟩,c⟩
theorem bC.m(c:bC P w K mg base j x ps sp)(h:j<=k:=by decide):bC P w K mg base k x ps sp:=c.mono h
theorem dM.m(c:dM P w K mg base j C x ps sp)(h:j<=k:=by decide):dM P w K mg base k C x ps sp:=c.mono h
end
set_option maxHeartbeats 8000000 in
theorem all_mk{l:PySem.W.OpenLaw}{K:PySem.W.Frag}(X:K.In h)(G:h.Ns mainGlobals mg)(hfa:mg "law" = some (.ref fa))(h1:FP K "sources_of" Vp)(h2:FP K "is_stand" je)(h3:FP K "check_stands" dj)(h4:FP K "check_steps" d7)(h5:FP K "is_name" jX)(h6:FP K "check_marks" d8)(h7:FP K "check_fair" fJ)(h8:FP K "copied" lW)(h9:FP K "everywhere" fD)(h10:FP K "flags" oK)(h11:FP K "shared" lR)(h12:FP K "distances" gD)(h13:FP K "comes_to" i_)(h14:FP K "walk_down" gF)(h15:FP K "short_walk" fG)(h16:FP K "bits_of" jV)(h17:FP K "onward_bits" dX)(h18:FP K "rings" oO)(h19:FP K "missed_by" gG)(OD:FP K "fair_rings" fH)(h21:FP K "joined" lV)(h22:FP K "core" qP)(h23:FPW K tP "way_back" jc)(h24:FP K "fair_loop" gH)(h25:FP K "loop_of" jW)(h26:FP K "reach" oM)(h27:FP K "ranks" oR)(h28:FP K "loop_reason" dY)(h29:FP K "rank_reason" dZ)(h30:FP K "staying_reasons" cg)(h31:FP K "lives" oV)(h32:FP K "_law_cell_at" gJ)(h33:FP K "_law_whole" jY)(h34:FP K "_law_mix" oW)(h35:FP K "_law_steps_by" fK)(h36:FP K "_law_set_by" jf)(h37:FP K "_law_fair_by" gM)(h38:FP K "_law_small_by" fL)(h39:FP K "_law_word_by" gO)(h40:FP K "_law_walk" lX)(h41:FP K "_law_loop" lY)(h42:FP K "_law_is_rank" gP)(h43:FP K "_law_falls" jZ)(h44:FP K "_law_ranked" jg)(h45:FP K "_law_told" lZ)(h46:FP K "law" nQ)(nP:K.lookup tP=none)(aC:nsIn K mainGlobals "Machine" = some (some (.ref C)))(mk:Mk K C fI)(FI:Aq K "__init__" "Machine.__init__" Am (.ref TD) fI VB)(lT:K.lookup TD=some ⟨ocT,odT,.seq #[.none,.none] nT,slT⟩)(m0:MP K C "many" "Machine.many" dw)(m1:MP K C "next_of" "Machine.next_of" cj)(m2:MP K C "before" "Machine.before" cI)(m3:MP K C "fair_at" "Machine.fair_at" cu)(cC:Cls K C)(nC:findIn K (.ref C) "steps" = some none/\findIn K (.ref C) "marks" = some none/\findIn K (.ref C) "fair" = some none/\findIn K (.ref C) "sources" = some none)(mY:nsIn K mainGlobals "LETTERS" = some (some (.str "abcdefghijklmnopqrstuvwxyz" ug)))(eU:nsIn K mainGlobals "LONGEST_NAME" = some (some (.int 8 mz)))(fY:nsIn K mainGlobals "MOST_STANDS" = some (some (.int 60 nD)))(eV:nsIn K mainGlobals "SAYING_WORDS" = some (some (.ref bL)))(nG:K.lookup bL=some ⟨.type "tuple",none,.seq #[.str "all" u5,.str "not" u_,.str "both" vd,.str "either" vf,.str "somenext" vg,.str "eachnext" vh,.str "sometill" vm,.str "eachtill" vo,.str "someever" vp,.str "eachever" vq] BJ,xq⟩)(z:Jd K ["len","range","isinstance","int","bool","list","enumerate","max","min","all","sorted","str","set","tuple"]) :
  ∃(fd:FuncData)(c:Addr),(∀(s:Shared)(v:Value),BindsTo s fd ⟨[v],[]⟩ [("_law_script",v)])/\codeHdIn K c tP=true/\K.lookup tP=none/\∀base:Heap,K.In base->base.Ns mainGlobals mg->Im mg base->aB l.prog w K mg base aZ 9 fa fd ["_law_script"] (Bx tP K):=by
 obtain⟨f,fd,a,⟨oc,od,kV,dc,pm,an,cd,ct,sl,rfl,lk,ck⟩,kp⟩:=h46
 have e:=hfa.symm.trans (mg_of X G a)
 cases e
 obtain⟨Z5,MN,qw,Z6,Tz,TF,rP,Mg,A_,Ls,cA,Av,uh,rJ,_⟩:=z
 obtain⟨fW,fdW,cW,aW,FW,eW,hW⟩:=h23
 obtain⟨nS,nM,nF,nB⟩:=nC
 have N:∀{x:Str},nsIn K mainGlobals x=some none->mg x=none:=λe=>PySem.W.mg_none_of X G e
 have B:Bl K mg:=⟨N Z5,N MN,N qw,N Z6,N Tz,N TF,N rP,Q0,Q6,Q5⟩
 have Z7:=N Mg
 have TJ:=N A_
 have Z8:=N Ls
 have jP:=N cA
 have TQ:=N Av
 have TV:=N uh
 have M4:=N rJ
 have mY:=mg_of X G mY
 have eU:=mg_of X G eU
 have fY:=mg_of X G fY
 have eV:=mg_of X G eV
 have T:Cl K mg C:=⟨cC,nS,nM,nF,nB,mg_of X G aC⟩
 have Zx:Binds K VB ["self","steps","marks","fair"] []:=λs us KX hl=>by
  obtain⟨_,_,_,_,_,_,_,_,_,rfl,_⟩:=FI.ex
  have h2:us.length=4:=by
   rw[length_append] at hl
   have:([]:List Value).length=0:=rfl
   have h4:(["self","steps","marks","fair"]:List Str).length=4:=rfl
   omega
  match us,h2 with
  |[u0,u1,u2,u3],_=>exact BindsTo.of_defaults rfl (KX _ _ lT) rfl rfl rfl
 refine⟨fnOf "law" "law" (vL nQ) (xX nQ) (zK nQ) .none kV dc pm an cd ct,cW,λs v=>.of_eq rfl,hW,nP,λbase kb _ BM=>?_⟩
 have cal:∀{k:Nat}{x:Str}{st:Stmt}{ps:List Str}{sp:Sp},FP K x st->(∀f fd,bH K x x st f fd->aB l.prog w K mg base aZ k f fd ps sp/\Binds K fd ps [])->bC l.prog w K mg base k x ps sp:=λh t=>MJ X G h t
 have G6:∀{k:Nat}{x y:Str}{st:Stmt}{ps:List Str}{sp:Sp},MP K C x y st->(∀f fd,bH K x y st f fd->aB l.prog w K mg base aZ k f fd ps sp/\Binds K fd ps [])->dM l.prog w K mg base k C x ps sp:=λh t=>G5 cC h t
 have dz:∀H:Hp,ou K H bL ((["all","not","both","either","somenext","eachnext","sometill","eachtill","someever","eachever"]:List Str).map V.str):=λH=>.inr ⟨_,_,_,nG,rfl,rfl,(by show 10<=sizeLine;decide),by repeat(first|exact Paired.nil|refine Paired.cons ⟨_,rfl⟩ ?_)⟩
 have jh:=cal h2 λ_ _ F=>⟨zKq (k:=0) F B,nj F⟩
 have aK:=cal h3 λ_ _ F=>⟨zEv (k:=1) F B jh.m,Ci F⟩
 have nH:=cal h4 λ_ _ F=>⟨zF1 (k:=2) F B fY aK.m,uc F⟩
 have j4:=cal h5 λ_ _ F=>⟨zM4 (k:=0) F B mY eU eV dz Z8 TQ,uc F⟩
 have nJ:=cal h6 λ_ _ F=>⟨zF2 (k:=2) F B aK.m j4.m,nj F⟩
 have pH:=cal h7 λ_ _ F=>⟨zHp (k:=2) F B aK.m,nj F⟩
 have BK:=cal h8 λ_ _ F=>⟨zPp (k:=0) F B,uc F⟩
 have Z9:=cal h1 λ_ _ F=>⟨Lq F B,uc F⟩
 have OI:aB l.prog w K mg base aZ 4 fI VB ["self","steps","marks","fair"] (Rj K C (Sq C)):=Lr (k:=3) FI T B nH.m nJ.m pH.m BK.m Z9.m
 have au:=G6 m0 λ_ _ F=>⟨zEw (k:=0) (C:=C) F B T,uc F⟩
 have aq:=G6 m1 λ_ _ F=>⟨zCz (k:=0) (C:=C) F B T jP,nj F⟩
 have cJ:=G6 m2 λ_ _ F=>⟨zDm (k:=0) (C:=C) F B T,nj F⟩
 have aM:=G6 m3 λ_ _ F=>⟨zC0 (k:=0) (C:=C) F B T jP,nj F⟩
 have bR:=cal h9 λ_ _ F=>⟨zHo (k:=1) (C:=C) F B au.m,uc F⟩
 have cY:=cal h10 λ_ _ F=>⟨zS3 (k:=1) (C:=C) F B au.m,nj F⟩
 have dH:=cal h11 λ_ _ F=>⟨zPk (k:=0) F B jP TV,nj F⟩
 have aQ:=cal h12 λ_ _ F=>⟨zI9 (k:=2) (C:=C) F B cJ.m au.m cY.m,Ci F⟩
 have ji:=cal h13 λ_ _ F=>⟨zKr (k:=3) (C:=C) F B aQ.m,Ci F⟩
 have bY:=cal h14 λ_ _ F=>⟨zI2 (k:=1) (C:=C) F B TJ aq.m,Ci F⟩
 have bQ:=cal h15 λ_ _ F=>⟨zHk (k:=3) (C:=C) F B aQ.m bY.m,Yp F⟩
 have iw:=cal h16 λ_ _ F=>⟨zM5 (k:=0) F B,uc F⟩
 have d9:=cal h17 λ_ _ F=>⟨zFz (k:=1) (C:=C) F B au.m aq.m iw.m,nj F⟩
 have iy:=cal h18 λ_ _ F=>⟨zSy (k:=2) (C:=C) F B jP TV d9.m,nj F⟩
 have bZ:=cal h19 λ_ _ F=>⟨zI3 (k:=1) (C:=C) F B T aM.m dH.m,nj F⟩
 have bO:=cal OD λ_ _ F=>⟨zHn (k:=3) (C:=C) F B bZ.m iy.m,nj F⟩
 have eZ:=cal h21 λ_ _ F=>⟨zPo (k:=0) F B,uc F⟩
 have q_:=cal h22 λ_ _ F=>⟨Gb (k:=4) (C:=C) F B ji.m bO.m eZ.m,nj F⟩
 have jk:bC l.prog w K mg base 4 "way_back" ["machine","ring","stand","start"] (spT tP jU (Ze K C)):=⟨fW,fdW,zKn (k:=3) (tA:=tP) (C:=C) FW B TJ ⟨cW,eW,PySem.W.codeHd_of_K kb hW⟩ BM aq.m aQ.m bY.m,Yp FW,FW.kp,mg_of X G aW⟩
 have gY:=cal h24 λ_ _ F=>⟨zI8 (k:=4) (tA:=tP) (C:=C) F B T aM.m dH.m bQ.m jk.m,Ci F⟩
 have j5:=cal h25 λ_ _ F=>⟨zM1 (k:=5) (tA:=tP) (C:=C) F B gY.m bO.m eZ.m bQ.m,Ci F⟩
 have o_:=cal h26 λ_ _ F=>⟨zSz (k:=2) (C:=C) F B jP aq.m cY.m,Ci F⟩
 have pq:=cal h27 λ_ _ F=>⟨zS0 (k:=5) (C:=C) F B au.m q_.m cY.m bZ.m o_.m iy.m,nj F⟩
 have d_:bC l.prog w K mg base 1 "loop_reason" ["loop"] (Y4 K):=by
  obtain⟨f,fd,a,F⟩:=h28
  exact⟨f,fd,zF0 (k:=0) F,uc F,F.kp,mg_of X G a⟩
 have eE:=cal h29 λ_ _ F=>⟨zFy (k:=0) F B,uc F⟩
 have cD:=cal h30 λ_ _ F=>⟨zCy (k:=6) (tA:=tP) (C:=C) F B bR.m j5.m d_.m eE.m pq.m,nj F⟩
 have pD:=cal h31 λ_ _ F=>⟨zS1 (k:=7) (tA:=tP) (C:=C) F B bR.m cD.m,uc F⟩
 have aY:=cal h32 λ_ _ F=>⟨zI7 (k:=0) F B,nj F⟩
 have cL:=cal h33 λ_ _ F=>⟨zM2 (k:=0) F B,uc F⟩
 have bD:=cal h34 λ_ _ F=>⟨zS2 (k:=0) F B,nj F⟩
 have fX:=cal h35 λ_ _ F=>⟨zHl (k:=1) F B Z7 aY.m bD.m,nj F⟩
 have jr:=cal h36 λ_ _ F=>⟨zKo (k:=1) F B bD.m,Ci F⟩
 have ig:=cal h37 λ_ _ F=>⟨zI6 (k:=1) F B bD.m,nj F⟩
 have fV:=cal h38 λ_ _ F=>⟨zHm (k:=0) F B,uc F⟩
 have iu:=cal h39 λ_ _ F=>⟨zI4 (k:=0) F B,nj F⟩
 have jN:=cal h40 λ_ _ F=>⟨zPl (k:=1) F B cL.m,Ci F⟩
 have mR:=cal h41 λ_ _ F=>⟨zPn (k:=2) F B jN.m,bi5 F⟩
 have bN:=cal h42 λ_ _ F=>⟨zI5 (k:=1) F B cL.m,nj F⟩
 have j6:=cal h43 λ_ _ F=>⟨zM3 (k:=2) F B bN.m,bi5 F⟩
 have jq:=cal h44 λ_ _ F=>⟨zKp (k:=3) F B j6.m bN.m,Yp F⟩
 have mU:=cal h45 λ_ _ F=>⟨zPm (k:=4) F B TQ M4 mR.m jq.m,Ci F⟩
 refine aB.imp (Mp (k0:=7) (tA:=tP) (C:=C) (oE lk ck kp) B T mk (OI.mono (by decide)) Zx aY.m ig.m jr.m fV.m fX.m mU.m iu.m pD.m) λvs H Q E h=>?_
 obtain⟨Yo,a,ns,rfl,hS,h63,hQ⟩:=h
 obtain⟨b,e1,e2⟩:=zS9 C ⟨ns⟩
 subst e2
 exact⟨Yo,(⟨ns⟩,()),true,H,.refl _,e1,.cons ⟨a,rfl,hS⟩ .nil,λv H' s r=>by cases r;exact hQ H' s⟩
theorem walk{l:PySem.W.OpenLaw}{YP:World->Heap->Prop}{d:DefRec}{K:Params->PySem.W.Frag}(hn:l.most=some 63)(hdf:d.params.defaults=[])(hY:∀(w:World) (h:Heap),YP w h->(K w.params).In h)(hTb:∀(w:World) (h:Heap),YP w h->h.get? tP=some (PySem.W.tabObj #[]))(F:∀(w:World) (mg:Str->Option Value) (fa:Addr) (h:Heap),(K w.params).In h->h.Ns mainGlobals mg->mg d.name=some (.ref fa) ->
   ∃(fd:FuncData) (c:Addr),(∀(s:Shared) (u:Value),BindsTo s fd ⟨[u],[]⟩ [("_law_script",u)])/\codeHdIn (K w.params) c tP=true/\(K w.params).lookup tP=none/\∀base:Heap,(K w.params).In base->base.Ns mainGlobals mg->Im mg base->aB l.prog w (K w.params) mg base aZ 9 fa fd ["_law_script"] (Bx tP (K w.params))) :
  PySem.W.WalkO q loose XP YP l.row.toRowW d [] (λf vs=>PySem.call f vs) :=
 zRt (n:=63) (k:=9) (x:="_law_script") (CX:=λ_=>aZ) (sp:=λw=>Bx tP (K w.params)) hn (by decide) hdf ⟨rfl,by decide,by decide⟩ hY hTb F (λ_ H a ns hl hT hS=>⟨hT,a,ns,rfl,hS,hl,λH' s=>⟨rfl,s _ _ hT⟩⟩) λ_ _ _ _ _ z=>z
end Ts
namespace PySem.W.Fast
def tw7580368484036262786:=0
def tw16021720289601203039:=0
def tw14391872683151993074:=0
def tw5719800234919736186:=0
def tw98547030201288147:=0
def tw11802343873133746019:=0
def tw7986842878368293019:=0
def tw708331225195866301:=0
def tw6006434425221923807:=0
def tw6123326816236459527:=0
def tw8364672978007099254:=0
def tw9951528600228603757:=0
def tw7589891241023626032:=0
def tw3559380009219408158:=0
def tw3148169820607061100:=0
def tw1392070287317438139:=0
def tw1755851104334759301:=0
def tw17668750803865288195:=0
def tw15080969037992730809:=0
def tw5056067561992667978:=0
def tw13348941998071513136:=0
def tw3550370296347679460:=0
def tw18112059985672321736:=0
def tw9957041298079461424:=0
def tw1167750500540113554:=0
def tw1125687965980986630:=0
def tw10708271866232302296:=0
def tw7387773835384191938:=0
def tw13449148477488585364:=0
def tw760238422575887871:=0
def tw18346581045899642621:=0
def tw52654864690365489:=0
def tw10702006497151758934:=0
def tw11423297626686576250:=0
def tw12541017493013522816:=0
def tw4915812293689664066:=0
def tw13198032317515552394:=0
def tw17153046823932221837:=0
def tw16093872829265159391:=0
def tw12306553686889649540:=0
def tw10333543392981856995:=0
def tw7778840901310497559:=0
def tw1573351387798569661:=0
def tw16329197545756306914:=0
def tw15369718203779575137:=0
def tw8440121350494296603:=0
def tw7868983881187455871:=0
def tw14501820237103113556:=0
def tw735701706144785380:=0
def tw7279958370205681116:=0
def tw4293068974356801033:=0
def tw1895612074769937895:=0
def tw6175338290485840836:=0
def tw2558759340767427804:=0
def tw9368990635206682154:=0
def tw8822083449120488677:=0
def tw1791084016679342107:=0
def tw11581410932238579025:=0
def tw17335281307395592498:=0
def tw7167630268006395145:=0
def tw12350688761742660682:=0
def tw8397135875787273452:=0
def tw4948927876486961781:=0
def tw18414140543086636233:=0
def tw12375063732317324931:=0
def tw3791531185376392388:=0
def tw10242373827123341455:=0
def tw12814321135374330971:=0
def tw10760627700072866442:=0
def tw1604259512135027603:=0
def tw9449457079927427438:=0
def tw16376309276517857750:=0
def tw15930198873579354435:=0
def tw14346942789143492570:=0
def tw12243485734518725342:=0
def tw3887449883315892083:=0
def tw3541915672625814207:=0
def tw11474435372758162300:=0
def tw16317885775903002570:=0
def tw3886145533805098183:=0
def tw6634964396061947112:=0
def tw14841377293751987069:=0
def tw5706647367390313138:=0
def tw13526834670357207572:=0
def tw8125574683413084865:=0
def tw16589014342057825865:=0
def tw6757364567923546986:=0
def tw9501852448924082868:=0
def tw15197760742830780325:=0
def tw8859203314528883667:=0
def tw1302854660643305442:=0
def tw9190897985095597907:=0
def tw10269085754356891122:=0
def tw6254270187343950358:=0
def tw9210593588537924469:=0
def tw11248102031742276682:=0
def tw14656660445906156138:=0
def tw15972459281701757766:=0
def tw12394389675145062212:=0
def tw1619569773753166340:=0
def tw382058864616594709:=0
def tw2161739101458986137:=0
def tw16617255688595473626:=0
def tw14268481079108428255:=0
def tw17600601516252279875:=0
def tw10905940264123285931:=0
def tw4337130337799784647:=0
def tw3108257650156469520:=0
def tw5510388002464947310:=0
def tw2567249986839090910:=0
def tw16758991197508983556:=0
def tw7552144697447935326:=0
def tw11577184813535184988:=0
def tw3461889329281094132:=0
def tw3720912395542645921:=0
def tw8613897497945374838:=0
def tw7226108042504559428:=0
def tw9375489329297080894:=0
def tw13644131448257111555:=0
def tw9369804510287550416:=0
def tw13739589090127654669:=0
def tw6292261408762495946:=0
def tw13207943655071410248:=0
def tw17353143294781686512:=0
def tw14132104075485315778:=0
def tw9468907388088248162:=0
def tw16870804890949621728:=0
def tw7416528135772116861:=0
def tw16490494680579934879:=0
def tw18050494372371938549:=0
def tw17454522585168754667:=0
def tw18124387014070809791:=0
def tw782427548197351148:=0
def tw13989413730748099185:=0
def tw9345409440180193994:=0
def tw3498986328365097136:=0
def tw11280054950667619369:=0
def tw8978985766777298671:=0
def tw2135707113910329658:=0
def tw15340663472864581546:=0
def tw5095809882591630340:=0
def tw12425922588161343102:=0
def tw17510926828043481831:=0
def tw7059461222836935167:=0
def tw9808581750477758311:=0
def tw17701579334203440234:=0
def tw713278255858475219:=0
def tw16533735053267604143:=0
def tw10303149613062735006:=0
def tw13023531861221196779:=0
def tw8648522147465618575:=0
def tw1864828786722206741:=0
def tw9490903177083334610:=0
def tw7045597439029205290:=0
def tw712639376864987277:=0
def tw2503401891004554390:=0
def tw7989305911095320921:=0
def tw5576752429950662362:=0
def tw6664488745500665769:=0
def tw11461798691705339778:=0
end PySem.W.Fast
open PySem PySem.W PyProof.Rows
set_option maxRecDepth 100000 in
set_option maxHeartbeats 0 in
theorem PySem.Challenge.cw_treesay_k55_lives_told_holds : PySem.Challenge.rw_treesay_k55_lives_told.Holds := by
 w_on; o_law; k_head; (case hw=>w_witness2)
 k_fill
 refine Ts.walk (l:=PySem.Challenge.rw_treesay_k55_lives_told) rfl rfl (fun w h Y=>PySem.W.km_in_of Y) (fun w h Y=>PySem.W.km_tabs_of Y _ (.head _)) ?F
 case F =>
  intro w mg fa h KX G hmg
  refine' Ts.all_mk KX G hmg ?_ ?_ ?_ ?_ ?_ ?_ ?_ ?_ ?_ ?_ ?_ ?_ ?_ ?_ ?_ ?_ ?_ ?_ ?_ ?_ ?_ ?_ ?_ ?_ ?_ ?_ ?_ ?_ ?_ ?_ ?_ ?_ ?_ ?_ ?_ ?_ ?_ ?_ ?_ ?_ ?_ ?_ ?_ ?_ ?_ ?_ ?_ ?_ ?_ ?_ ?_ ?_ ?_ ?_ ?_ ?_ ?_ ?_ ?_ ?_ ?_ ?_ ?_
  all_goals first | refine' Ts.Tw ⟨?_,?_,?_⟩ (L2.oE ?_ ?_ ?_) | refine' Ts.MF ?_ ?_ ?_ ?_ ?_ ?_ | refine' Ts.Tv ?_ (L2.oE ?_ ?_ ?_) | refine' Ts.G4 ?_ ?_ ?_ | refine' ⟨?_,?_,?_,?_⟩ | skip
  all_goals repeat' first | refine' And.intro ?_ ?_ | exact True.intro
  all_goals first | k_is | skip
  all_goals first | k_is | exact rfl | kernel_rfl | skip
  all_goals first | k_is | exact rfl | kernel_rfl | skip
