import PyProof.Rows.All
import Wide.All
import OpenK.AllK
import Wide.FinOn
import Lean
import PyProof.EqAt
import PyProof.EqKinds
import PyProof.TupleCall
import PyProof.NeKinds
import PyProof.EnumStmt
import PyProof.EnumMake
import PyProof.CompFree
import PyProof.Rows.FStr
import PySem.Challenge.RW_treesay_k65_folded_twice
open PySem.W (instObj methodObj lookIn plainGet hasDictIn findIn plainGet_of isFn takerIn emptyDict specialIn keepIn kitOne kia_one callWith_K cellsFrom_some fnOf codeIn nsIn mg_of)
open List (mem_filter mem_range filterMap_cons mem_cons_self mem_cons_of_mem mem_cons mem_append mem_append_left getElem_inj getElem?_set_self getElem?_set_ne mem_append_right size_toArray length_cons map_cons length_map append_nil nodup_cons of_mem_zip replicate length length_take getElem?_append_right getElem?_replicate getElem?_append_left getElem?_map getElem?_take_of_lt mem_of_getElem? length_append find?_cons any_cons length_nil map_nil all_cons reverse_cons length_singleton Pairwise forIn_cons lookup_cons forIn_nil all_eq_true lookup_append getD_eq_getElem?_getD toArray getElem?_cons_zero map_append mem_map any_append take_append_drop take_add_one take_length getElem?_range length_range nil_append range_succ_eq_map range_succ filter_cons length_filter_le mem_iff_getElem? nodup_nil mem_singleton nodup_append getElem_of_mem getElem_mem Perm pairwise_cons find?_eq_none getElem?_toArray pairwise_map pairwise_lt_range pairwise_iff_getElem length_eq_zero_iff length_eraseIdx ext_getElem? map_map filterMap not_lt rel_of_pairwise_cons idxOf_cons perm_ext_iff_of_nodup idxOf map_congr_left map_id' idxOf_lt_length_iff length_dropLast length_pos_iff head?_eq_getElem?)
open PySem.Heap (lt_size SameBut get?_push_of_some get?_push_size size_push get?_update_other get?_update_self)
open Array (length_toList toArray_toList getElem?_toList forIn_toList size_map)
open PySem.SetTable (insertAt probe grown fits eraseAt)
set_option Elab.async false
set_option linter.all false
set_option maxRecDepth 100000
abbrev LI:=List Int
namespace L2
open PySem PySem.Spec PyProof.Rows
abbrev Key:=Sum Int Str
def Ie:Key->Value->Bool
 |.inl k,v=>Value.isInt k v
 |.inr x,v=>Value.isStrOf x v
def Ql(w:World):Key->Int
 |.inl k=>hashInt k
 |.inr x=>hashStr w x
theorem xF:∀{k:Key}{v:Value},Ie k v=true->(∃i t,k=Sum.inl i/\v=Value.int i t)\/(∃x t,k=Sum.inr x/\v=Value.str x t)
 |.inl i,v,h=>by
  obtain⟨t,e⟩:=Value.isInt_shape (k:=i) (v:=v) h
  exact .inl ⟨i,t,rfl,e⟩
 |.inr x,v,h=>by
  obtain⟨t,e⟩:=Value.isStrOf_shape (x:=x) (v:=v) h
  exact .inr ⟨x,t,rfl,e⟩
theorem zOe(i:Int)(t:Tok):Ie (.inl i) (.int i t)=true:=by simp[Ie,Value.isInt]
theorem zOd(x:Str)(t:Tok):Ie (.inr x) (.str x t)=true:=by simp[Ie,Value.isStrOf]
theorem Dr(a b:Int):decide ((Sum.inl a:Key)=Sum.inl b)=(a==b):=by
 by_cases e:a=b
 ·subst e;simp
 ·have h:¬(Sum.inl a:Key)=Sum.inl b:=λq=>e (Sum.inl.inj q)
  rw[decide_eq_false h]
  exact(beq_eq_false_iff_ne.mpr e).symm
theorem Ds(a b:Str):decide ((Sum.inr a:Key)=Sum.inr b)=decide (a=b):=by
 by_cases e:a=b
 ·subst e;simp
 ·have h:¬(Sum.inr a:Key)=Sum.inr b:=λq=>e (Sum.inr.inj q)
  rw[decide_eq_false h,decide_eq_false e]
theorem Dt(a:Int)(b:Str):decide ((Sum.inl a:Key)=Sum.inr b)=false:=decide_eq_false (λq=>nomatch q)
theorem Du(a:Str)(b:Int):decide ((Sum.inr a:Key)=Sum.inl b)=false:=decide_eq_false (λq=>nomatch q)
def wM(prog:Program)(w:World):PySem.KeyKind prog w Key where
 is:=Ie
 hash:=Ql w
 inj:=λv a b ha hb=>by
  rcases xF ha with⟨i,t,rfl,rfl⟩|⟨x,t,rfl,rfl⟩
  ·rcases xF hb with⟨j,u,rfl,e⟩|⟨y,u,rfl,e⟩
   ·injection e with e1 _;rw[e1]
   ·exact nomatch e
  ·rcases xF hb with⟨j,u,rfl,e⟩|⟨y,u,rfl,e⟩
   ·exact nomatch e
   ·injection e with e1 _;rw[e1]
 byValue:=λk v h=>by
  rcases xF h with⟨i,t,rfl,rfl⟩|⟨x,t,rfl,rfl⟩<;>rfl
 pyHash:=λhv h=>by
  rcases xF hv with⟨i,t,rfl,rfl⟩|⟨x,t,rfl,rfl⟩
  ·exact wpAny_pyHash_int h
  ·exact wpAny_pyHash_str h
 eqBool:=λhu hv h=>by
  rcases xF hu with⟨i,t,rfl,rfl⟩|⟨x,t,rfl,rfl⟩
  ·rcases xF hv with⟨j,u,rfl,rfl⟩|⟨y,u,rfl,rfl⟩
   ·rw[Dr] at h;exact wpAny_eqBool_int h
   ·rw[Dt] at h;exact SeqAt.EqAt.int_str i t y u _ _ _ _ h
  ·rcases xF hv with⟨j,u,rfl,rfl⟩|⟨y,u,rfl,rfl⟩
   ·rw[Du] at h;exact SeqAt.EqAt.str_int x t j u _ _ _ _ h
   ·rw[Ds] at h;exact wpAny_eqBool_str h
 «strs»:=λk x t v h=>by
  rcases xF h with⟨i,u,rfl,e⟩|⟨y,u,rfl,e⟩
  ·exact nomatch e
  ·injection e with e1 _
   subst e1
   cases v<;>rfl
theorem zIp(prog:Program)(w:World)(i:Int)(t:Tok):(wM prog w).is (.inl i) (.int i t)=true:=zOe i t
theorem zIo(prog:Program)(w:World)(x:Str)(t:Tok):(wM prog w).is (.inr x) (.str x t)=true:=zOd x t
inductive V where
 |non|bl (b:Bool)|int (i:Int)|str (x:Str)|Dv (b:Array UInt8)|flt (b:UInt64)|ref (a:Addr)|ty (n:String)
 deriving DecidableEq
def RelV:V->Value->Prop
 |.non,u=>u=Value.none
 |.bl b,u=>u=Value.bool b
 |.int i,u=>∃t,u=Value.int i t
 |.str x,u=>∃t,u=Value.str x t
 |.Dv b,u=>∃t,u=Value.bytes b t
 |.flt b,u=>∃t,u=Value.float b t
 |.ref a,u=>u=Value.ref a
 |.ty n,u=>u=Value.type n
abbrev Vals:List V->List Value->Prop:=Paired RelV
theorem Vals.length(r:Vals xs us):xs.length=us.length:=Paired.length r
theorem Vals.get:∀{xs:List V}{us:List Value}{i:Nat}{x:V},Vals xs us->xs[i]?=some x->∃u,us[i]?=some u/\RelV x u
 |_,_,_,_,.nil,e=>by simp at e
 |_,_,0,_,.cons r _,e=>by simp at e;subst e;exact⟨_,rfl,r⟩
 |_,_,i+1,x,.cons _ t,e=>by
  obtain⟨u,h1,h2⟩:=Vals.get (i:=i) (x:=x) t (by simpa using e)
  exact⟨u,by simpa using h1,h2⟩
theorem Vals.append:∀{xs ys:List V}{us ws:List Value},Vals xs us->Vals ys ws->Vals (xs++ys) (us++ws)
 |_,_,_,_,.nil,s=>s
 |_,_,_,_,.cons r t,s=>.cons r (Vals.append t s)
theorem Vals.none_of:∀{xs:List V}{us:List Value}{i:Nat},Vals xs us->xs[i]?=none->us[i]?=none:=λ{xs us i} r e=>by
 have h1:=r.length
 have h2:xs.length<=i:=List.getElem?_eq_none_iff.mp e
 exact List.getElem?_eq_none_iff.mpr (by omega)
def gQ:Option V->Option Value->Prop
 |some v,some u=>RelV v u
 |none,none=>True
 |_,_=>False
def KV{κ:Type}:List (κ×V)->List (κ×Value)->Prop:=Paired λ(p:κ×V) (q:κ×Value)=>p.1=q.1/\RelV p.2 q.2
def kV:Key->V
 |.inl i=>.int i
 |.inr x=>.str x
inductive HO where
 |lst (xs:List V)
 |tup (xs:List V)
 |dK (kvs:List (Key×V))|dT (kvs:List (List Key×V))
 |set (S:Int->Bool) (n:Nat)
 |ins (C dx:Addr) (fs:List (Str×V))
 |own (x:Addr)
 |xd (fs:List (Str×V))
 |met (f x:Addr)
 |rng (lo hi:Int)
 |pI (o:Obj) (u:HO)
 |Dw (ps:Array Value)
 |ext (φ:Heap->Prop)
abbrev Hp:=Addr->Option HO
def upd(H:Hp)(a:Addr)(o:HO):Hp:=λb=>if b=a then some o else H b
theorem zR:upd H a o a=some o:=by unfold upd;rw[if_pos rfl]
theorem zP(h:b≠a):upd H a o b=H b:=by unfold upd;rw[if_neg h]
theorem Jv{H:Hp}{a b:Addr}{o u:HO}(h:H a=some o)(h':H b=some u)(d:o≠u):a≠b:=by
 intro e;subst e;rw[h] at h';exact d (Option.some.inj h')
theorem zQ{H:Hp}{a b:Addr}{o:HO}(h:H a=some o)(h':H b=none):a≠b:=by
 intro e;subst e;rw[h] at h';cases h'
section
variable(P:Program)(w:World)
def aU(H:Hp)(h:Heap)(a:Addr):HO->Prop
 |.lst xs=>xs.length<=sizeLine/\∃(its:List Value)(n:Nat),Vals xs its/\h.get? a=some { cls:=.type "list",data:=.seq its.toArray n }
 |.tup xs=>xs.length<=sizeLine/\∃its:List Value,Vals xs its/\IsTup h a its.toArray
 |.dK kvs=>kvs.length<=sizeLine/\(a==sysModules)=false/\∃vs,KV kvs vs/\h.DictOf (wM P w) a vs
 |.dT kvs=>kvs.length<=sizeLine/\(a==sysModules)=false/\∃xs:List (List Key×Addr×Value),
   Paired (λ(p:List Key×V) (q:List Key×Addr×Value)=>p.1=q.1/\H q.2.1=some (.tup (p.1.map kV))/\RelV p.2 q.2.2) kvs xs /\
   ∃o es ep,h.get? a=some o/\o.ExactDict/\o.data=.dict es ep/\es.toList=xs.map (entryOfKey (tupleKind (wM P w)))/\(xs.map (·.1)).Nodup
 |.set S n=>h.SetOf (intKind P w) a S n
 |.ins C dx fs=>H dx=some (.own a)/\fs.length<=1000/\dx≠a/\h.get? a=some (instObj C dx) /\
   ∃mA,h.Ns1 dx mA/\(∀f,gQ (fs.lookup f) (mA f))/\PySem.Within mA (fs.map (·.1))
 |.own _=>∃o,h.get? a=some o
 |.xd fs=>∃mA,h.Ns1 a mA/\∀f,gQ (fs.lookup f) (mA f)
 |.rng lo hi=>∃t u v,h.get? a=some { cls:=.type "range",data:=.fields #[.int lo t,.int hi u,.int 1 v] }
 |.pI o u=>h.get? a=some o/\aU H h a u
 |.Dw ps=>h.get? a=some { cls:=.none,data:=.fields ps }
 |.met f x=>h.get? a=some (methodObj (.ref f) (.ref x))
 |.ext φ=>φ h/\(∃o,h.get? a=some o)/\∀h1 h2:Heap,φ h1->(∀o,h1.get? a=some o->h2.get? a=some o)->φ h2
def fD(H:Hp)(h:Heap):Prop:=∀a o,H a=some o->aU P w H h a o
end
section
variable{P:Program}{w:World}{H H':Hp}{h h':Heap}{a:Addr}{o:HO}
theorem aU.lt(x:aU P w H h a o):a<h.objs.size:=by
 cases o with
 |lst xs=>obtain⟨_,_,_,_,e⟩:=x;exact lt_size e
 |tup xs=>obtain⟨_,_,_,p⟩:=x;exact p.lt
 |dK kvs=>obtain⟨_,_,_,_,o,_,_,e,_⟩:=x;exact lt_size e
 |dT kvs=>obtain⟨_,_,_,_,o,_,_,e,_⟩:=x;exact lt_size e
 |set S n=>obtain⟨o,_,_,_,e,_⟩:=x;exact lt_size e
 |ins C dx fs=>obtain⟨_,_,_,e,_⟩:=x;exact lt_size e
 |own y=>obtain⟨_,e⟩:=x;exact lt_size e
 |xd fs=>obtain⟨_,⟨_,_,_,e,_⟩,_⟩:=x;exact lt_size e
 |rng lo hi=>obtain⟨_,_,_,e⟩:=x;exact lt_size e
 |pI ob u=>obtain⟨e,_⟩:=x;exact lt_size e
 |Dw ps=>exact lt_size (show h.get? a=some _ from x)
 |met f y=>exact lt_size (show h.get? a=some _ from x)
 |ext φ=>obtain⟨_,⟨_,e⟩,_⟩:=x;exact lt_size e
theorem Paired.Dy{α β:Type}{F G:α->β->Prop}:∀{l₁:List α}{l₂:List β},Paired F l₁ l₂->(∀a b,F a b->G a b)->Paired G l₁ l₂
 |_,_,.nil,_=>.nil
 |_,_,.cons r t,f=>.cons (f _ _ r) (Paired.Dy t f)
theorem aU.stay(x:aU P w H h a o)(k:∀b u,(b=a\/H b=some (.own a))->h.get? b=some u->h'.get? b=some u)(ho:∀b,H b=some (.own a)->H' b=some (.own a))(ht:∀b xs,H b=some (.tup xs)->H' b=some (.tup xs)):aU P w H' h' a o:=by
 induction o with
 |lst xs=>obtain⟨z,its,n,r,e⟩:=x;exact⟨z,its,n,r,k _ _ (.inl rfl) e⟩
 |tup xs=>obtain⟨z,its,r,ob,e,c⟩:=x;exact⟨z,its,r,ob,k _ _ (.inl rfl) e,c⟩
 |dK kvs=>obtain⟨z,y,vs,r,ob,es,ep,e,c⟩:=x;exact⟨z,y,vs,r,ob,es,ep,k _ _ (.inl rfl) e,c⟩
 |dT kvs =>
  obtain⟨z,y,xs,r,ob,es,ep,e,c⟩:=x
  exact⟨z,y,xs,Paired.Dy r λp q z=>⟨z.1,ht _ _ z.2.1,z.2.2⟩,ob,es,ep,k _ _ (.inl rfl) e,c⟩
 |set S n=>obtain⟨ob,es,ep,t,e,c⟩:=x;exact⟨ob,es,ep,t,k _ _ (.inl rfl) e,c⟩
 |ins C dx fs =>
  obtain⟨d,z,ne,e,mA,⟨od,es,ep,e2,c⟩,r⟩:=x
  exact⟨ho _ d,z,ne,k _ _ (.inl rfl) e,mA,⟨od,es,ep,k _ _ (.inr d) e2,c⟩,r⟩
 |own y=>obtain⟨ob,e⟩:=x;exact⟨ob,k _ _ (.inl rfl) e⟩
 |xd fs=>obtain⟨mA,⟨od,es,ep,e,c⟩,r⟩:=x;exact⟨mA,⟨od,es,ep,k _ _ (.inl rfl) e,c⟩,r⟩
 |rng lo hi=>obtain⟨t,u,v,e⟩:=x;exact⟨t,u,v,k _ _ (.inl rfl) e⟩
 |pI ob u ih=>obtain⟨e,q⟩:=x;exact⟨k _ _ (.inl rfl) e,ih q⟩
 |Dw ps =>
  have e:h.get? a=some { cls:=.none,data:=.fields ps }:=x
  show h'.get? a=some { cls:=.none,data:=.fields ps }
  exact k a _ (.inl rfl) e
 |met f y =>
  have e:h.get? a=some (methodObj (.ref f) (.ref y)):=x
  show h'.get? a=some (methodObj (.ref f) (.ref y))
  exact k a _ (.inl rfl) e
 |ext φ=>obtain⟨p,⟨o,e⟩,st⟩:=x;exact⟨st _ _ p λo q=>k _ _ (.inl rfl) q,⟨o,k _ _ (.inl rfl) e⟩,st⟩
theorem fD.lt(x:fD P w H h)(e:H a=some o):a<h.objs.size:=(x a o e).lt
theorem fD.fresh(x:fD P w H h)(e:h.objs.size<=a):H a=none:=by
 cases q:H a with
 |none=>rfl
 |some u=>exact absurd (Nat.lt_of_lt_of_le (x.lt q) e) (Nat.lt_irrefl _)
theorem fD.kept(x:fD P w H h)(k:∀b u,h.get? b=some u->h'.get? b=some u):fD P w H h':=λa o e =>
 (x a o e).stay (λb u _ q=>k b u q) (λ_ q=>q) λ_ _ q=>q
theorem fD.laid(x:fD P w H h)(k:∀b u,h.get? b=some u->h'.get? b=some u)(hp:h.objs.size<=a)(new:aU P w (upd H a o) h' a o):fD P w (upd H a o) h':=λb u e=>by
 have hn:=x.fresh hp
 by_cases hb:b=a
 ·subst hb;rw[zR] at e;cases e;exact new
 ·rw[zP hb] at e
  exact(x b u e).stay (λc v _ q=>k c v q) (λc q=>by rw[zP (zQ q hn)];exact q) λc xs q=>by rw[zP (zQ q hn)];exact q
end
def Rd(H:Hp)(a:Addr)(u:HO):Prop:=H a=some u\/∃o,H a=some (.pI o u)
theorem Rd.ok(r:Rd H a u)(x:fD P w H h):aU P w H h a u:=by
 rcases r with r|⟨o,r⟩
 ·exact x a u r
 ·obtain⟨_,q⟩:=x a _ r
  exact q
def Jw:Option HO->Prop
 |some (.lst _)=>True
 |some (.dK _)=>True
 |some (.dT _)=>True
 |some (.set _ _)=>True
 |some (.ins _ _ _)=>True
 |some (.ext _)=>True
 |_=>False
section
variable{P:Program}{w:World}{H:Hp}{h h':Heap}{x e:Addr}{o':HO}
theorem fD.write(ok:fD P w H h)(mu:Jw (H x))(he:e=x\/H e=some (.own x))(k:∀b u,b≠e->h.get? b=some u->h'.get? b=some u)(heo:∃u,h'.get? e=some u)(new:aU P w (upd H x o') h' x o'):fD P w (upd H x o') h':=λb u q=>by
 have Jx:∀c y,H c=some (.own y)->c≠x:=λc y r z=>by subst z;rw[r] at mu;exact mu
 have Qm:∀c xs,H c=some (.tup xs)->c≠x:=λc xs r z=>by subst z;rw[r] at mu;exact mu
 by_cases hb:b=x
 ·subst hb;rw[zR] at q;cases q;exact new
 ·rw[zP hb] at q
  by_cases hbe:b=e
  ·have q':H b=some (.own x):=by
    rcases he with z|z
    ·exact absurd (hbe.trans z) hb
    ·rw[hbe];exact z
   rw[q] at q';cases q'
   obtain⟨v,hv⟩:=heo
   exact⟨v,by rw[hbe];exact hv⟩
  ·refine(ok b u q).stay (λc v hc r=>k c v ?_ r) (λc r=>by rw[zP (Jx c b r)];exact r) λc xs r=>by rw[zP (Qm c xs r)];exact r
   rcases hc with rfl|hc
   ·exact hbe
   ·rintro rfl
    rcases he with z|z
    ·exact Jx c b hc z
    ·rw[hc] at z;cases z;exact hb rfl
end
structure Un(fs ex:List Addr)(H H':Hp)(h h':Heap):Prop where
 keep:∀b o,h.get? b=some o->H b=none->b∉fs->b∉ex->h'.get? b=some o
 slot:∀b o,h.get? b=some o->H b=none->b∈fs->b∉ex->∃sl,h'.get? b=some { o with slots:=sl }
 free:∀b o,h.get? b=some o->H b=none->b∉ex->H' b=none
 there:∀b o,h.get? b=some o->b∉ex->∃o',h'.get? b=some o'
 tups:∀b xs,H b=some (.tup xs)->H' b=some (.tup xs)
 jO:∀b o u,H b=some (.pI o u)->H' b=some (.pI o u)
 kZ:∀b ps,H b=some (.Dw ps)->∃more,H' b=some (.Dw (ps++more))
section
variable{fs fs' ex ex':List Addr}{H H1 H2:Hp}{h h1 h2 h':Heap}{a x e:Addr}{o:HO}
theorem Un.any(u:Un fs ex H H1 h h1)(q:h.get? b=some ob)(n:H b=none)(hx:b∉ex):∃sl,h1.get? b=some { ob with slots:=sl }:=by
 by_cases hb:b∈fs
 ·exact u.slot b ob q n hb hx
 ·exact⟨ob.slots,u.keep b ob q n hb hx⟩
theorem Un.kept(k:∀b u,h.get? b=some u->h'.get? b=some u):Un fs ex H H h h' :=
 ⟨λb ob q _ _ _=>k b ob q,λb ob q _ _ _=>⟨ob.slots,k b ob q⟩,λ_ _ _ n _=>n,λb ob q _=>⟨ob,k b ob q⟩,λ_ _ q=>q,λ_ _ _ q=>q,λ_ ps q=>⟨#[],by rw[q];simp⟩⟩
theorem Un.refl:Un fs ex H H h h:=Un.kept λ_ _ q=>q
theorem Un.laid(k:∀b u,h.get? b=some u->h'.get? b=some u)(hp:h.objs.size<=a)(hn:H a=none):Un fs ex H (upd H a o) h h' where
 keep:=λb u q _ _ _=>k b u q
 slot:=λb u q _ _ _=>⟨u.slots,k b u q⟩
 free:=λb u q n _=>by rw[zP (Nat.ne_of_lt (Nat.lt_of_lt_of_le (lt_size q) hp))];exact n
 there:=λb u q _=>⟨u,k b u q⟩
 tups:=λb xs q=>by rw[zP (zQ q hn)];exact q
 jO:=λb u xs q=>by rw[zP (zQ q hn)];exact q
 kZ:=λb ps q=>⟨#[],by rw[zP (zQ q hn),q];simp⟩
theorem Un.write(mu:Jw (H x))(he:e=x\/H e=some (.own x))(k:∀b u,b≠e->h.get? b=some u->h'.get? b=some u)(heo:∃u,h'.get? e=some u):Un fs ex H (upd H x o) h h':=by
 have hx:∀b,H b=none->b≠x:=λb n z=>by subst z;rw[n] at mu;exact mu
 have hb:∀b,H b=none->b≠e:=λb n z=>by
  subst z
  rcases he with r|r
  ·exact hx b n r
  ·rw[n] at r;cases r
 have hm:∀b u,H b=some u->¬Jw (some u)->b≠x:=λb u q nm z=>by subst z;rw[q] at mu;exact nm mu
 refine⟨λb u q n _ _=>k b u (hb b n) q,λb u q n _ _=>⟨u.slots,k b u (hb b n) q⟩,λb u q n _=>by rw[zP (hx b n)];exact n,λb u q _=>?_,
  λb xs q=>by rw[zP (hm b _ q λz=>z)];exact q,λb u xs q=>by rw[zP (hm b _ q λz=>z)];exact q,λb ps q=>⟨#[],by rw[zP (hm b _ q λz=>z),q];simp⟩⟩
 by_cases hbe:b=e
 ·subst hbe;exact heo
 ·exact⟨u,k b u hbe q⟩
end
def Nh(h:Heap)(H:Hp):List Addr:=(List.range h.objs.size).filter λa=>(H a).isSome
def lV(h:Heap)(H:Hp):Heap:=PySem.W.hideAll h (Nh h H)
theorem zOl(h:Heap)(H:Hp):(lV h H).objs.size=h.objs.size:=PySem.W.hideAll_size _ _
theorem zQ6{h:Heap}(e:h.get? b=some o)(n:H b=none):(lV h H).get? b=some o :=
 PySem.W.hideAll_get _ e λhm=>by
  have q:(H b).isSome=true:=(mem_filter.mp hm).2
  rw[n] at q;simp at q
theorem uo(e:(lV h H).get? b=some o):h.get? b=some o/\H b=none:=by
 have e':h.get? b=some o:=PySem.W.of_hideAll (Nh h H) e
 refine⟨e',?_⟩
 cases q:H b with
 |none=>rfl
 |some x =>
  have hm:b∈Nh h H:=mem_filter.mpr ⟨mem_range.mpr (lt_size e'),by simp[q]⟩
  have z:(lV h H).get? b=none:=PySem.W.hideAll_none (Nh h H) hm
  rw[z] at e;cases e
def uq(g h:Heap)(L:Addr):List (Addr×Obj):=(List.range h.objs.size).filterMap λa=>if a=L\/(g.get? a).isSome=true then none else(h.get? a).map λo=>(a,o)
def rest(g h:Heap)(L d:Addr):List (Addr×Obj):=(uq g h L).filter λp=>decide (p.1≠d)
structure Mod(K:PySem.W.Frag)(mg:Str->Option Value)(base:Heap):Prop where
 Jy:K.In base
 glob:base.Ns mainGlobals mg
 blt:∃mb,base.Ns builtinsNs mb/\∀x:Str,x ≠ "__name__"->mb x=bootBuiltins x
 nolimit:base.NoLimit
structure Cx where
 prog:Program
 w:World
 K:PySem.W.Frag
 mg:Str->Option Value
 base:Heap
 A:Around
 N:List Str
 s₀:Shared
 H₀:Hp
 env:Env
 outer:List Env
 stack:List Env
 ex:List Addr
 fn:Str->Bool
 calm:Bool
 pn:List (Addr×Obj)
 xe:Value->Shared->Prop
def frs(l:List Env):List Addr:=l.filterMap (·.frame)
abbrev Cx.fs(X:Cx):List Addr:=frs X.outer
def Ni(sc:Scope)(x:Str):Prop:=sc.names.lookup x=some .local\/sc.names.lookup x=some .cell\/sc.names.lookup x=some .free
def Loc(sc:Scope)(x:Str):Prop:=sc.names.lookup x=some .local\/sc.names.lookup x=some .cell
def Look(env:Env)(h:Heap)(m:Str->Option Value)(x:Str)(u:Value):Prop :=
 (env.kindOf x=some .local/\m x=some u)\/((env.kindOf x=some .cell\/env.kindOf x=some .free)/\∃c,env.cells.lookup x=some c/\h.IsCell c (some u))
structure Cx.Ok(X:Cx):Prop where
 mod:Mod X.K X.mg X.base
 kind:X.env.scope.kind=.function
 glob:X.env.globals=mainGlobals
 blt:X.env.builtins=builtinsNs
 above:X.s₀.heap.objs.size<=X.env.locals
 inj:∀x y c,X.env.cells.lookup x=some c->X.env.cells.lookup y=some c->x=y
 has:∀x,(X.env.kindOf x=some .cell\/X.env.kindOf x=some .free)->∃c,X.env.cells.lookup x=some c
 cab:∀x c,X.fn x=true->X.env.cells.lookup x=some c->X.s₀.heap.objs.size<=c
 hd:X.calm=true->X.A.handled=none
 frames:X.A.frames=some X.stack
 stk:X.stack=X.outer\/(X.stack=X.env::X.outer/\X.env.frame=some X.env.locals)
 Nj:∀b∈X.ex,b≠X.env.locals/\∀x c,X.env.cells.lookup x=some c->c≠b
 bs:∀b o,X.base.get? b=some o->X.s₀.heap.get? b=some o/\X.H₀ b=none
 ur:X.base.objs.size<=X.s₀.heap.objs.size
 q_:∀b o,X.base.get? b=some o->b∉X.ex
 rA:∀b∈X.ex,b∉X.fs
 jE:X.s₀.heap.FunFrames X.base X.outer
 Dz:∀b∈X.fs,X.H₀ b=none
structure Inv(X:Cx)(pins:List (Addr×Obj))(σ:List (Option V))(H:Hp)(s:Shared):Prop where
 ok:X.Ok
 os:s.os=X.s₀.os
 bare:AllBare s.gens
 base:Un X.fs X.ex X.H₀ H X.s₀.heap s.heap
 loc:∃m,s.heap.Ns X.env.locals m/\∀(i:Nat)(x:Str)(v:V),X.N[i]?=some x->σ[i]?=some (some v)->Ni X.env.scope x->∃u,RelV v u/\Look X.env s.heap m x u
 cell:∀x c,X.env.cells.lookup x=some c->∃v,s.heap.IsCell c v
 free:H X.env.locals=none
 fG:∀x c,X.env.cells.lookup x=some c->H c=none
 pin:∀p∈X.pn++pins,s.heap.get? p.1=some p.2/\H p.1=none/\p.1≠X.env.locals/\p.1∉X.fs/\∀v,p.2.data≠.cell v
 hok:fD X.prog X.w H s.heap
 len:σ.length=X.N.length
section
variable{X:Cx}{pins:List (Addr×Obj)}{σ:List (Option V)}{H H':Hp}{s:Shared}{h':Heap}
theorem Cx.Ok.Qn(ok:X.Ok)(e:X.base.get? b=some o):b∉X.fs:=λhb=>by
 have:=(ok.jE.mem hb).1
 rw[e] at this;cases this
theorem Inv.bs(I:Inv X pins σ H s):∀b o,X.base.get? b=some o->s.heap.get? b=some o/\H b=none:=λb o e =>
 ⟨I.base.keep b o (I.ok.bs b o e).1 (I.ok.bs b o e).2 (I.ok.Qn e) (I.ok.q_ b o e),I.base.free b o (I.ok.bs b o e).1 (I.ok.bs b o e).2 (I.ok.q_ b o e)⟩
theorem Inv.bk(I:Inv X pins σ H s):∀b o,X.base.get? b=some o->s.heap.get? b=some o:=λb o e=>(I.bs b o e).1
theorem Inv.mod(I:Inv X pins σ H s):Mod X.K X.mg X.base:=I.ok.mod
theorem Inv.jF(I:Inv X pins σ H s):X.K.In s.heap:=I.ok.mod.Jy.keeps I.bk
theorem Inv.nolimit(I:Inv X pins σ H s):s.heap.NoLimit:=I.ok.mod.nolimit.keeps I.bk
theorem Inv.lt(I:Inv X pins σ H s):X.env.locals<s.heap.objs.size:=let⟨_,hn,_⟩:=I.loc;hn.lt
theorem Inv.sz(I:Inv X pins σ H s):X.s₀.heap.objs.size<=s.heap.objs.size:=Nat.le_trans I.ok.above (Nat.le_of_lt I.lt)
theorem Inv.DG(I:Inv X pins σ H s)(h:s.heap.objs.size<=a):a∉X.fs:=λhb=>by
 obtain⟨_,o,ho,_⟩:=I.ok.jE.mem hb
 exact absurd (Nat.lt_of_lt_of_le (lt_size ho) (Nat.le_trans I.sz h)) (Nat.lt_irrefl _)
theorem Inv.DK(I:Inv X pins σ H s):∀x c,X.env.cells.lookup x=some c->c≠X.env.locals:=λx c e z=>by
 obtain⟨v,o,ho,hd⟩:=I.cell x c e
 obtain⟨m,⟨o',es,ep,ho',hd',_⟩,_⟩:=I.loc
 rw[z,ho'] at ho;cases ho;rw[hd'] at hd;cases hd
theorem Inv.jE(I:Inv X pins σ H s):s.heap.FunFrames X.base X.outer:=by
 have all:∀(l:List Env),(∀b∈frs l,b∈X.fs)->X.s₀.heap.FunFrames X.base l->s.heap.FunFrames X.base l:=by
  intro l
  induction l with
  |nil=>intro _ _;trivial
  |cons env r ih =>
   intro hs hl
   obtain⟨hk,⟨L,o,hf,hn,ho,hd⟩,hr⟩:=hl
   have hL:L∈X.fs:=hs L (by unfold frs;rw[filterMap_cons,hf];exact mem_cons_self)
   obtain⟨sl,e⟩:=I.base.slot L o ho (I.ok.Dz L hL) hL λz=>I.ok.rA L z hL
   exact⟨hk,⟨L,_,hf,hn,e,hd⟩,ih (λb hb=>hs b (by unfold frs;rw[filterMap_cons,hf];exact mem_cons_of_mem _ hb)) hr⟩
 exact all X.outer (λ_ hb=>hb) I.ok.jE
theorem Inv.stack(I:Inv X pins σ H s):s.heap.FunFrames X.base X.stack:=by
 rcases I.ok.stk with e|⟨e,hf⟩
 ·rw[e];exact I.jE
 ·rw[e]
  obtain⟨m,hn,_⟩:=I.loc
  refine .cons (by rw[I.ok.kind];decide) hf hn ?_ I.jE
  exact Heap.get?_none_of_le (Nat.le_trans I.ok.ur I.ok.above)
theorem Inv.lW(I:Inv X pins σ H s):∀b∈frs X.stack,b∈X.env.locals::X.fs:=λb hb=>by
 rcases I.ok.stk with e|⟨e,hf⟩
 ·rw[e] at hb;exact mem_cons_of_mem _ hb
 ·rw[e] at hb
  unfold frs at hb
  rw[filterMap_cons,hf] at hb
  exact hb
theorem Inv.pJ(I:Inv X pins σ H s):∀b∈frs X.stack,H b=none:=λb hb=>by
 rcases mem_cons.mp (I.lW b hb) with e|hb
 ·rw[e];exact I.free
 ·obtain⟨_,o,ho,_⟩:=I.ok.jE.mem hb
  exact I.base.free b o ho (I.ok.Dz b hb) λz=>I.ok.rA b z hb
theorem Inv.step{g':Array GenState}{t':Nat}{d':Drawn}{ch:List Addr}(I:Inv X pins σ H s)(hch:∀b∈ch,(b∈X.ex\/X.s₀.heap.objs.size<=b)/\b≠X.env.locals/\(∀x c,X.env.cells.lookup x=some c->c≠b)/\∀p∈X.pn++pins,p.1≠b)(keep:∀b o,b≠X.env.locals->b∉X.fs->b∉ch->s.heap.get? b=some o->H b=none->h'.get? b=some o)(slot:∀b o,b≠X.env.locals->b∈X.fs->b∉ch->s.heap.get? b=some o->H b=none->∃sl,h'.get? b=some { o with slots:=sl })(free:∀b o,b∉ch->s.heap.get? b=some o->H b=none->H' b=none)(there:∀b o,b∉ch->s.heap.get? b=some o->∃o',h'.get? b=some o')(tups:∀b xs,H b=some (.tup xs)->H' b=some (.tup xs))(jO:∀b o u,H b=some (.pI o u)->H' b=some (.pI o u))(kZ:∀b ps,H b=some (.Dw ps)->∃more,H' b=some (.Dw (ps++more)))(ns:∀m,s.heap.Ns X.env.locals m->h'.Ns X.env.locals m)(hok:fD X.prog X.w H' h')(hg:AllBare g') :
  Inv X pins σ H' { s with heap:=h',gens:=g',drawn:=d',toks:=t' }:=by
 have Vl:∀b o,X.s₀.heap.get? b=some o->b≠X.env.locals:=λb o e=>Nat.ne_of_lt (Nat.lt_of_lt_of_le (lt_size e) I.ok.above)
 have Nk:∀b o,X.s₀.heap.get? b=some o->b∉X.ex->b∉ch:=λb o e hx hb=>by
  rcases(hch b hb).1 with z|z
  ·exact hx z
  ·exact absurd (Nat.lt_of_lt_of_le (lt_size e) z) (Nat.lt_irrefl _)
 have cellK:∀x c,X.env.cells.lookup x=some c->∀v,s.heap.IsCell c v->h'.IsCell c v:=λx c e v ⟨o,ho,hd⟩=>by
  have Jz:c∉ch:=λz=>(hch c z).2.2.1 x c e rfl
  by_cases hc:c∈X.fs
  ·obtain⟨sl,q⟩:=slot c o (I.DK x c e) hc Jz ho (I.fG x c e)
   exact⟨_,q,hd⟩
  ·exact⟨o,keep c o (I.DK x c e) hc Jz ho (I.fG x c e),hd⟩
 refine⟨I.ok,I.os,hg,⟨λb o e n hb hx=>?_,λb o e n hb hx=>?_,λb o e n hx=>?_,λb o e hx=>?_,λb xs e=>tups b xs (I.base.tups b xs e),λb o xs e=>jO b o xs (I.base.jO b o xs e),λb ps e=>?_⟩,?_,λx c e=>?_,?_,λx c e=>?_,λp hp=>?_,hok,I.len⟩
 ·exact keep b o (Vl b o e) hb (Nk b o e hx) (I.base.keep b o e n hb hx) (I.base.free b o e n hx)
 ·obtain⟨sl,e1⟩:=I.base.slot b o e n hb hx
  obtain⟨sl',e2⟩:=slot b _ (Vl b o e) hb (Nk b o e hx) e1 (I.base.free b o e n hx)
  exact⟨sl',e2⟩
 ·obtain⟨o',e1⟩:=I.base.there b o e hx
  exact free b o' (Nk b o e hx) e1 (I.base.free b o e n hx)
 ·obtain⟨o',e1⟩:=I.base.there b o e hx
  exact there b o' (Nk b o e hx) e1
 ·obtain⟨m1,e1⟩:=I.base.kZ b ps e
  obtain⟨m2,e2⟩:=kZ b _ e1
  exact⟨m1++m2,by rw[e2,Array.append_assoc]⟩
 ·obtain⟨m,hn,hl⟩:=I.loc
  refine⟨m,ns m hn,λi x v e1 e2 e3=>?_⟩
  obtain⟨u,r,l⟩:=hl i x v e1 e2 e3
  refine⟨u,r,?_⟩
  rcases l with l|⟨k,c,e,z⟩
  ·exact .inl l
  ·exact .inr ⟨k,c,e,cellK x c e _ z⟩
 ·obtain⟨v,z⟩:=I.cell x c e
  exact⟨v,cellK x c e v z⟩
 ·obtain⟨m,⟨o,_,_,ho,_⟩,_⟩:=I.loc
  exact free _ o (λz=>(hch _ z).2.1 rfl) ho I.free
 ·obtain⟨v,o,ho,hd⟩:=I.cell x c e
  exact free c o (λz=>(hch c z).2.2.1 x c e rfl) ho (I.fG x c e)
 ·obtain⟨e,n,ne,nf,d⟩:=I.pin p hp
  have Jz:p.1∉ch:=λz=>(hch p.1 z).2.2.2 p hp rfl
  exact⟨keep p.1 p.2 ne nf Jz e n,free p.1 p.2 Jz e n,ne,nf,d⟩
theorem Inv.un(I:Inv X pins σ H s)(u:Un X.fs [] H H' s.heap h')(hok:fD X.prog X.w H' h'):Inv X pins σ H' { s with heap:=h',toks:=t' }:=by
 obtain⟨m,⟨o,es,ep,ho,r⟩,_⟩:=id I.loc
 obtain⟨sl,hL⟩:=u.any ho I.free (by simp)
 exact I.step (g':=s.gens) (d':=s.drawn) (ch:=[]) (λ_ z=>nomatch z) (λb o _ hb _ e n=>u.keep b o e n hb (by simp)) (λb o _ hb _ e n=>u.slot b o e n hb (by simp)) (λb o _ e n=>u.free b o e n (by simp)) (λb o _ e=>u.there b o e (by simp)) u.tups u.jO u.kZ (λm' hm=>by
  obtain⟨o',es',ep',ho',r'⟩:=hm
  rw[ho] at ho';cases ho'
  exact⟨_,es',ep',hL,r'⟩) hok I.bare
theorem Inv.call(I:Inv X pins σ H s)(u:Un (frs X.stack) ch H H' s.heap h')(hok:fD X.prog X.w H' h')(hg:AllBare g')(hch:∀b∈ch,(b∈X.ex\/X.s₀.heap.objs.size<=b)/\b≠X.env.locals/\(∀x c,X.env.cells.lookup x=some c->c≠b)/\∀p∈X.pn++pins,p.1≠b) :
  Inv X pins σ H' { s with heap:=h',gens:=g',drawn:=d',toks:=t' }:=by
 obtain⟨m,⟨o,es,ep,ho,r⟩,_⟩:=id I.loc
 obtain⟨sl,hL⟩:=u.any ho I.free λz=>(hch _ z).2.1 rfl
 exact I.step (ch:=ch) hch (λb o hL hb hc e n=>u.keep b o e n (λz=>(mem_cons.mp (I.lW b z)).elim hL hb) hc) (λb o _ _ hc e n=>u.any e n hc) (λb o hc e n=>u.free b o e n hc) (λb o hc e=>u.there b o e hc) u.tups u.jO u.kZ (λm' hm=>by
  obtain⟨o',es',ep',ho',r'⟩:=hm
  rw[ho] at ho';cases ho'
  exact⟨_,es',ep',hL,r'⟩) hok hg
theorem Inv.turned(I:Inv X pins σ H s)(k:∀b o,b≠it->s.heap.get? b=some o->h'.get? b=some o)(hn:H it=none)(hL:it≠X.env.locals)(h1:it∈X.ex\/X.s₀.heap.objs.size<=it)(h2:∀x c,X.env.cells.lookup x=some c->c≠it)(h3:∀p∈X.pn++pins,p.1≠it):Inv X pins σ H { s with heap:=h',toks:=t' }:=by
 have Vm:∀b u,H b=some u->b≠it:=λb u e z=>by rw[z,hn] at e;cases e
 refine I.step (g':=s.gens) (d':=s.drawn) (ch:=[it]) (λb hb=>?_) (λb o _ _ hc e _=>k b o (λz=>hc (by simp[z])) e) (λb o _ _ hc e _=>⟨o.slots,k b o (λz=>hc (by simp[z])) e⟩) (λ_ _ _ _ n=>n)
  (λb o hc e=>⟨o,k b o (λz=>hc (by simp[z])) e⟩) (λ_ _ e=>e) (λ_ _ _ e=>e) (λb ps e=>⟨#[],by rw[e];simp⟩) (λm hm=>?_) (λb u e=>?_) I.bare
 ·have e:b=it:=by simpa using hb
  subst e
  exact⟨h1,hL,h2,h3⟩
 ·obtain⟨o,es,ep,ho,r⟩:=hm
  exact⟨o,es,ep,k _ o (Ne.symm hL) ho,r⟩
 ·refine(I.hok b u e).stay (λc v hc q=>k c v ?_ q) (λ_ q=>q) λ_ _ q=>q
  rcases hc with z|z
  ·rw[z];exact Vm b u e
  ·exact Vm c _ z
theorem Inv.tok(I:Inv X pins σ H s)(t:Nat):Inv X pins σ H { s with toks:=t }:=I.un (h':=s.heap) (t':=t) Un.refl I.hok
theorem Inv.kept(I:Inv X pins σ H s)(k:∀b u,s.heap.get? b=some u->h'.get? b=some u):Inv X pins σ H { s with heap:=h',toks:=t' }:=I.un (Un.kept k) (I.hok.kept k)
theorem Inv.laid(I:Inv X pins σ H s)(k:∀b u,s.heap.get? b=some u->h'.get? b=some u)(hp:s.heap.objs.size<=a)(new:aU X.prog X.w (upd H a o) h' a o) :
  Inv X pins σ (upd H a o) { s with heap:=h',toks:=t' }:=I.un (Un.laid k hp (I.hok.fresh hp)) (I.hok.laid k hp new)
theorem Inv.write(I:Inv X pins σ H s)(mu:Jw (H x))(he:e=x\/H e=some (.own x))(k:∀b u,b≠e->s.heap.get? b=some u->h'.get? b=some u)(heo:∃u,h'.get? e=some u)(new:aU X.prog X.w (upd H x o) h' x o):Inv X pins σ (upd H x o) { s with heap:=h',toks:=t' }:=I.un (Un.write mu he k heo) (I.hok.write mu he k heo new)
theorem Inv.iH(I:Inv X pins σ H s)(h:∀p∈Bw,s.heap.get? p.1=some p.2/\H p.1=none/\p.1≠X.env.locals/\p.1∉X.fs/\∀v,p.2.data≠.cell v):Inv X Bw σ H s :=
 ⟨I.ok,I.os,I.bare,I.base,I.loc,I.cell,I.free,I.fG,λp hp=>(mem_append.mp hp).elim (λz=>I.pin p (mem_append_left _ z)) (h p),I.hok,I.len⟩
theorem Vn{N:List Str}(hN:N.Nodup){i j:Nat}{x:Str}(a:N[i]?=some x)(b:N[j]?=some x):i=j:=by
 obtain⟨h1,e1⟩:=List.getElem?_eq_some_iff.mp a
 obtain⟨h2,e2⟩:=List.getElem?_eq_some_iff.mp b
 exact(getElem_inj hN).mp (e1.trans e2.symm)
theorem Vo{Q:Unit->Shared->Prop}(I:Inv X pins σ H s)(hN:X.N.Nodup)(hi:X.N[i]?=some x)(hx:Loc X.env.scope x)(r:RelV v u)(h:∀s',Inv X pins (σ.set i (some v)) H s'->(∃a,SameBut a s.heap s'.heap/\(a=X.env.locals\/X.env.cells.lookup x=some a))->Q () s')(hf:X.fn x=true\/X.env.scope.names.lookup x=some .local:=by first|exact .inl rfl|exact .inr rfl|assumption):wpAny M A (storeName X.env x u) Q E s:=by
 obtain⟨m,hn,hl⟩:=id I.loc
 have hcls:(X.env.scope.kind==.class||(X.env.scope.kind==.module&&X.env.locals != X.env.globals))=false:=by rw[I.ok.kind];rfl
 have JB:i<σ.length:=by rw[I.len];exact(List.getElem?_eq_some_iff.mp hi).1
 have DK:=I.DK
 have tracked:∀{a:Addr}{h':Heap},(∃o,s.heap.get? a=some o/\H a=none)->SameBut a s.heap h'->fD X.prog X.w H h':=λ{a h'} ha hs b ob e=>by
  obtain⟨_,_,hfree⟩:=ha
  refine(I.hok b ob e).stay (λc w' hc q=>(hs.2 c ?_).trans q) (λ_ q=>q) λ_ _ q=>q
  rintro rfl
  rcases hc with rfl|hc
  ·rw[hfree] at e;cases e
  ·rw[hfree] at hc;cases hc
 rcases hx with hk|hk
 ·refine wpAny_storeName_local hk hn (λh' hn' hs=>?_) hcls
  obtain⟨oL,_,_,hoL,_⟩:=id hn
  refine h _ ⟨I.ok,I.os,I.bare,⟨λb o e n hb hx=>?_,λb o e n hb hx=>?_,I.base.free,λb o e hx=>?_,I.base.tups,I.base.jO,I.base.kZ⟩,⟨_,hn',λj y v' e1 e2 e3=>?_⟩,λy c e=>?_,I.free,I.fG,λp hp=>?_,tracked ⟨oL,hoL,I.free⟩ hs,by simpa using I.len⟩ ⟨_,hs,.inl rfl⟩
  ·exact(hs.2 b (Nat.ne_of_lt (Nat.lt_of_lt_of_le (lt_size e) I.ok.above))).trans (I.base.keep b o e n hb hx)
  ·obtain⟨sl,e1⟩:=I.base.slot b o e n hb hx
   exact⟨sl,(hs.2 b (Nat.ne_of_lt (Nat.lt_of_lt_of_le (lt_size e) I.ok.above))).trans e1⟩
  ·obtain⟨o',e1⟩:=I.base.there b o e hx
   exact⟨o',(hs.2 b (Nat.ne_of_lt (Nat.lt_of_lt_of_le (lt_size e) I.ok.above))).trans e1⟩
  ·by_cases hj:j=i
   ·subst hj
    rw[hi] at e1;cases e1
    rw[getElem?_set_self JB] at e2
    cases e2
    exact⟨u,r,.inl ⟨hk,by simp⟩⟩
   ·rw[getElem?_set_ne (Ne.symm hj)] at e2
    obtain⟨u',r',q⟩:=hl j y v' e1 e2 e3
    refine⟨u',r',?_⟩
    rcases q with⟨k,e⟩|⟨k,c,e,z⟩
    ·refine .inl ⟨k,?_⟩
     have:y≠x:=λe=>hj (Vn hN e1 (e▸hi))
     simp[this,e]
    ·exact .inr ⟨k,c,e,z.sameBut hs (DK y c e)⟩
  ·obtain⟨w',z⟩:=I.cell y c e
   exact⟨w',z.sameBut hs (DK y c e)⟩
  ·obtain⟨e,n,ne,nf,d⟩:=I.pin p hp
   exact⟨(hs.2 p.1 ne).trans e,n,ne,nf,d⟩
 ·have hfn:X.fn x=true:=by
   rcases hf with z|z
   ·exact z
   ·rw[z] at hk;cases hk
  obtain⟨c,hc⟩:=I.ok.has x (.inl hk)
  obtain⟨w',z⟩:=I.cell x c hc
  refine wpAny_storeName_cell I.ok.kind hk hc z (λh' hc' hs=>?_)
  obtain⟨oc,hoc,Qo⟩:=id z
  refine h { s with heap:=h' } ⟨I.ok,I.os,I.bare,⟨λb o e n hb hx=>?_,λb o e n hb hx=>?_,I.base.free,λb o e hx=>?_,I.base.tups,I.base.jO,I.base.kZ⟩,⟨m,hn.sameBut hs (Ne.symm (DK x c hc)),λj y v' e1 e2 e3=>?_⟩,λy c' e=>?_,I.free,I.fG,λp hp=>?_,tracked ⟨oc,hoc,I.fG x c hc⟩ hs,by simpa using I.len⟩ ⟨c,hs,.inr hc⟩
  ·exact(hs.2 b (Nat.ne_of_lt (Nat.lt_of_lt_of_le (lt_size e) (I.ok.cab x c hfn hc)))).trans (I.base.keep b o e n hb hx)
  ·obtain⟨sl,e1⟩:=I.base.slot b o e n hb hx
   exact⟨sl,(hs.2 b (Nat.ne_of_lt (Nat.lt_of_lt_of_le (lt_size e) (I.ok.cab x c hfn hc)))).trans e1⟩
  ·obtain⟨o',e1⟩:=I.base.there b o e hx
   exact⟨o',(hs.2 b (Nat.ne_of_lt (Nat.lt_of_lt_of_le (lt_size e) (I.ok.cab x c hfn hc)))).trans e1⟩
  ·by_cases hj:j=i
   ·subst hj
    rw[hi] at e1;cases e1
    rw[getElem?_set_self JB] at e2
    cases e2
    exact⟨u,r,.inr ⟨.inl hk,c,hc,hc'⟩⟩
   ·rw[getElem?_set_ne (Ne.symm hj)] at e2
    obtain⟨u',r',q⟩:=hl j y v' e1 e2 e3
    refine⟨u',r',?_⟩
    rcases q with q|⟨k,c',e,z'⟩
    ·exact .inl q
    ·refine .inr ⟨k,c',e,z'.sameBut hs ?_⟩
     rintro rfl
     exact hj (Vn hN e1 (I.ok.inj _ _ _ e hc▸hi))
  ·by_cases hcc:c'=c
   ·subst hcc;exact⟨_,hc'⟩
   ·obtain⟨w2,z2⟩:=I.cell y c' e
    exact⟨w2,z2.sameBut hs hcc⟩
  ·obtain⟨e,n,ne,nf,d⟩:=I.pin p hp
   refine⟨(hs.2 p.1 ?_).trans e,n,ne,nf,d⟩
   intro q
   rw[q,hoc] at e
   have q':oc=p.2:=Option.some.inj e
   exact d w' (by rw[<-q'];exact Qo)
theorem Vp{Q:Unit->Shared->Prop}(I:Inv X pins σ H s)(hN:X.N.Nodup)(hi:X.N[i]?=some x)(hx:Loc X.env.scope x)(r:RelV v u)(h:∀s',Inv X pins (σ.set i (some v)) H s'->Q () s')(hf:X.fn x=true\/X.env.scope.names.lookup x=some .local:=by first|exact .inl rfl|exact .inr rfl|assumption):wpAny M A (storeName X.env x u) Q E s :=
 Vo I hN hi hx r (λs' I' _=>h s' I') hf
theorem Inv.call'{s':Shared}(I:Inv X pins σ H s)(ho:s'.os=s.os)(u:Un (frs X.stack) ch H H' s.heap s'.heap)(hok:fD X.prog X.w H' s'.heap)(hg:AllBare s'.gens)(hch:∀b∈ch,(b∈X.ex\/X.s₀.heap.objs.size<=b)/\b≠X.env.locals/\(∀x c,X.env.cells.lookup x=some c->c≠b)/\∀p∈X.pn++pins,p.1≠b):Inv X pins σ H' s':=by
 obtain⟨h',g',d',t',o'⟩:=s'
 have e:o'=s.os:=ho
 subst e
 exact I.call (g':=g') (t':=t') (d':=d') u hok hg hch
end
abbrev XK:=Value->Option Addr->Hp->Prop
abbrev St:=List (Option V)
abbrev VK:=V->Hp->Prop
abbrev TE:=St->Hp->VK->Prop
abbrev TT:=St->Hp->(Bool->Hp->Prop)->Prop
abbrev TA:=St->Hp->(List V->Hp->Prop)->Prop
structure Ends where
 nx:St->Hp->Prop
 rt:VK
 bk:St->Hp->Prop:=λ_ _=>False
 ct:St->Hp->Prop:=λ_ _=>False
abbrev TS:=Ends->St->Hp->Prop
def EP(X:Cx)(pins:List (Addr×Obj))(σ:St)(Q:VK)(u:Value)(s':Shared):Prop:=∃v H',Inv X pins σ H' s'/\RelV v u/\Q v H'
def TP(X:Cx)(pins:List (Addr×Obj))(σ:St)(Q:Bool->Hp->Prop)(b:Bool)(s':Shared):Prop:=∃H',Inv X pins σ H' s'/\Q b H'
def AP(X:Cx)(pins:List (Addr×Obj))(σ:St)(Q:List V->Hp->Prop)(us:List Value)(s':Shared):Prop:=∃vs H',Inv X pins σ H' s'/\Vals vs us/\Q vs H'
def SP(X:Cx)(pins:List (Addr×Obj))(D:Ends)(f:Flow)(s':Shared):Prop :=
 match f with
 |.next=>∃σ' H',Inv X pins σ' H' s'/\D.nx σ' H'
 |.brk=>∃σ' H',Inv X pins σ' H' s'/\D.bk σ' H'
 |.cont=>∃σ' H',Inv X pins σ' H' s'/\D.ct σ' H'
 |.ret u=>∃v σ' H',Inv X pins σ' H' s'/\RelV v u/\D.rt v H'
def PE(X:Cx)(e:Expr)(t:TE):Prop :=
 ∀(pins:List (Addr×Obj))(s:Shared)(σ:St)(H:Hp)(Q:VK),Inv X pins σ H s->t σ H Q->wpAny (model X.prog X.w) X.A (eval e X.env) (EP X pins σ Q) X.xe s
def PT(X:Cx)(e:Expr)(t:TT):Prop :=
 ∀(pins:List (Addr×Obj))(s:Shared)(σ:St)(H:Hp)(Q:Bool->Hp->Prop),Inv X pins σ H s->t σ H Q->wpAny (model X.prog X.w) X.A (isTrue e X.env (eval e X.env)) (TP X pins σ Q) X.xe s
def PW(X:Cx)(e:Expr)(t:TT):Prop :=
 ∀(whole:Sem Value)(pins:List (Addr×Obj))(s:Shared)(σ:St)(H:Hp)(Q:Bool->Hp->Prop),Inv X pins σ H s->t σ H Q->wpAny (model X.prog X.w) X.A (isTrue e X.env whole) (TP X pins σ Q) X.xe s
theorem PW.pt(h:PW X e t):PT X e t:=h _
def PA(X:Cx)(es:List Expr)(t:TA):Prop :=
 ∀(pos:Pos)(pins:List (Addr×Obj))(s:Shared)(σ:St)(H:Hp)(Q:List V->Hp->Prop),Inv X pins σ H s->t σ H Q->wpAny (model X.prog X.w) X.A (spliced (backTo pos (starEach es X.env))) (AP X pins σ Q) X.xe s
def PS(X:Cx)(st:Stmt)(t:TS):Prop :=
 ∀(pins:List (Addr×Obj))(s:Shared)(σ:St)(H:Hp)(D:Ends),Inv X pins σ H s->t D σ H->wpAny (model X.prog X.w) X.A (exec st X.env) (SP X pins D) X.xe s
def mY(X:Cx)(st:List Stmt)(t:TS):Prop :=
 ∀(pins:List (Addr×Obj))(s:Shared)(σ:St)(H:Hp)(D:Ends),Inv X pins σ H s->t D σ H->wpAny (model X.prog X.w) X.A (execs st X.env) (SP X pins D) X.xe s
theorem aO{α:Type}{t:Sem α}{Q Q':α->Shared->Prop}(h:wpAny M A t Q E s)(hQ:∀a s,Q a s->Q' a s):wpAny M A t Q' E s:=wpAny_mono h hQ λ_ _ x=>x
section
variable{X:Cx}
def dU(i:Nat):TE:=λσ H Q=>∃v,σ[i]?=some (some v)/\Q v H
def tC(v:V):TE:=λ_ H Q=>Q v H
theorem DN(hN:X.N[i]?=some x)(hv:Ni X.env.scope x)(hd:(x==("__debug__":Str))=false:=by decide)(hcd:(x==("__classdict__":Str))=false:=by decide):PE X (.Name x pos) (dU i):=by
 intro pins s σ H Q I h
 obtain⟨v,e,h⟩:=h
 obtain⟨m,hn,hl⟩:=I.loc
 obtain⟨u,r,l⟩:=hl i x v hN e hv
 have fin:EP X pins σ Q u s:=⟨v,H,I,r,h⟩
 rcases l with⟨hk,hm⟩|⟨hk,c,hc,hcell⟩
 ·exact wpAny_Name (wpAny_loadName_local I.ok.kind hk hn hm fin) hd
 ·rcases hk with hk|hk
  ·exact wpAny_Name (wpAny_loadName_cell I.ok.kind hk hc hcell fin) hd
  ·exact wpAny_Name (wpAny_loadName_free I.ok.kind hk hc hcell fin hcd) hd
theorem zK{i j pos}:PE X (.Constant (.int i) j pos) (tC (.int i)):=λ_ _ _ H _ I h=>wpAny_Constant_int ⟨.int i,H,I.tok _,⟨_,rfl⟩,h⟩
theorem DP{b j pos}:PE X (.Constant (.bool b) j pos) (tC (.bl b)):=λ_ _ _ H _ I h=>Constant_bool ⟨.bl b,H,I,rfl,h⟩
theorem DQ{j pos}:PE X (.Constant .none j pos) (tC .non):=λ_ _ _ H _ I h=>Constant_none ⟨.non,H,I,rfl,h⟩
theorem vW{x j pos}:PE X (.Constant (.str x) j pos) (tC (.str x)):=λ_ _ _ H _ I h=>Calls.Constant_str ⟨.str x,H,I.tok _,⟨_,rfl⟩,h⟩
def Gl(X:Cx)(x:Str):Prop:=X.env.kindOf x=some .globalImplicit
theorem Qp{Q:Value->Shared->Prop}(I:Inv X pins σ H s)(hg:Gl X x)(hm:X.mg x=some u)(h:Q u s)(hd:(x==("__debug__":Str))=false:=by decide):wpAny (model X.prog X.w) X.A (eval (.Name x pos) X.env) Q E s :=
 Calls.Name_function_global I.ok.kind hg (Calls.loadGlobal_global (by rw[I.ok.glob];exact I.mod.glob.keeps I.bk) hm h) hd
theorem rB{Q:Value->Shared->Prop}(I:Inv X pins σ H s)(hg:Gl X x)(hm:X.mg x=none)(hv:bootBuiltins x=some u)(h:Q u s)(hn:x ≠ "__name__":=by decide)(hd:(x==("__debug__":Str))=false:=by decide):wpAny (model X.prog X.w) X.A (eval (.Name x pos) X.env) Q E s:=by
 obtain⟨mb,h1,h2⟩:=I.mod.blt
 exact Calls.Name_function_global I.ok.kind hg (Calls.loadGlobal_builtin (by rw[I.ok.glob];exact I.mod.glob.keeps I.bk) hm (by rw[I.ok.blt];exact h1.keeps I.bk) ((h2 x hn).trans hv) h) hd
theorem Nm(hg:Gl X x)(hm:X.mg x=some u)(r:RelV v u)(hd:(x==("__debug__":Str))=false:=by decide):PE X (.Name x pos) (tC v) :=
 λ_ _ _ H _ I h=>Qp I hg hm ⟨v,H,I,r,h⟩ hd
theorem Qq(hg:Gl X x)(hm:X.mg x=none)(hv:bootBuiltins x=some u)(r:RelV v u)(hn:x ≠ "__name__":=by decide)(hd:(x==("__debug__":Str))=false:=by decide):PE X (.Name x pos) (tC v) :=
 λ_ _ _ H _ I h=>rB I hg hm hv ⟨v,H,I,r,h⟩ hn hd
variable{a b:Expr}{ta tb:TE}{pos:Pos}
def PC(X:Cx)(op:CmpOp)(a b:Expr)(t:TE):Prop :=
 ∀(pins:List (Addr×Obj))(s:Shared)(σ:St)(H:Hp)(Q:VK),Inv X pins σ H s->t σ H Q ->
  wpAny (model X.prog X.w) X.A (eval a X.env) (λv s₁=>wpAny (model X.prog X.w) X.A (eval b X.env) (λu s₂=>wpAny (model X.prog X.w) X.A (compareOp op v u) (EP X pins σ Q) X.xe s₂) X.xe s₁) X.xe s
theorem Vq(b:Expr)(h:op≠.In)(h2:op≠.NotIn):behindInMarks op b=false:=by
 have e1:(op==CmpOp.In)=false:=by cases op<;>first|rfl|exact absurd rfl h
 have e2:(op==CmpOp.NotIn)=false:=by cases op<;>first|rfl|exact absurd rfl h2
 cases b<;>simp[behindInMarks,e1,e2]
def JC(ta:TE):TE:=λσ H Q=>ta σ H λx H1=>Q (.bl (decide (x=.non))) H1
theorem RelV.rC(r:RelV x v):(v==Value.none)=decide (x=.non):=by
 cases x with
 |non=>cases r;rfl
 |bl _=>cases r;rfl
 |int _=>obtain⟨t,rfl⟩:=r;rfl
 |str _=>obtain⟨t,rfl⟩:=r;rfl
 |Dv _=>obtain⟨t,rfl⟩:=r;rfl
 |flt _=>obtain⟨t,rfl⟩:=r;rfl
 |ref _=>cases r;rfl
 |ty _=>cases r;rfl
theorem Qs{j pos'}(ha:PE X a ta):PC X .Is a (.Constant .none j pos') (JC ta):=by
 intro pins s σ H Q I h
 refine aO (ha pins s σ H _ I h) λv s1 ⟨x,H1,I1,r1,q1⟩=>?_
 exact Constant_none (is_none_gen ⟨.bl _,H1,I1,by rw[r1.rC];rfl,q1⟩)
def tB(t:TE):TT:=λσ H Q=>t σ H λx H1=>∃c,x=.bl c/\Q c H1
theorem DW(h:PC X op a b t)(h1:behindInMarks op b=false:=by first|exact Vq _ (by decide) (by decide)|rfl):PE X (.Compare a [op] [b] pos) t:=λpins s σ H Q I hw=>wpAny_Compare1 (h pins s σ H Q I hw) h1
theorem Np(h:PC X op a b t)(h1:behindInMarks op b=false:=by first|exact Vq _ (by decide) (by decide)|rfl):PT X (.Compare a [op] [b] pos) (tB t):=by
 intro pins s σ H Q I hw
 refine wpAny_isTrue_Compare1 (aO (h pins s σ H _ I hw) λv s1 h1=>aO h1 λu s2 h2=>aO h2 λc s3 ⟨x,H1,I1,r1,q1⟩=>?_) h1
 obtain⟨d,rfl,q⟩:=q1
 cases r1
 exact wpAny_truthy_bool ⟨H1,I1,q⟩
theorem Qt(h:PE X e t)(he:∀whole,isTrue e X.env whole=(do let v <-whole;standAt e.pos;holding [v] (truthy v)):=by intro _;rfl):PT X e (tB t):=by
 intro pins s σ H Q I hw
 refine isTrue_plain (aO (h pins s σ H _ I hw) λv s1 ⟨x,H1,I1,r1,q1⟩=>?_) (he _)
 obtain⟨d,rfl,q⟩:=q1
 cases r1
 exact wpAny_truthy_bool ⟨H1,I1,q⟩
variable{tA Nq:TT}{rest:List Expr}
def JD(t u:TT):TT:=λσ H Q=>t σ H λc H1=>if c=true then u σ H1 Q else Q false H1
def Vr(t u:TT):TT:=λσ H Q=>t σ H λc H1=>if c=true then Q true H1 else u σ H1 Q
def JF(t:TT):TT:=λσ H Q=>t σ H λc H1=>Q (!c) H1
theorem pw_and1(ha:PT X a tA):PW X (.BoolOp .And [a] pos) tA:=by
 intro wh pins s σ H Q I h
 refine isTrue_and (aO (ha pins s σ H Q I h) λc s1 e=>?_)
 cases c with
 |true=>exact isTrue_and_nil e
 |false=>exact e
theorem pw_or1(ha:PT X a tA):PW X (.BoolOp .Or [a] pos) tA:=by
 intro wh pins s σ H Q I h
 refine isTrue_or (aO (ha pins s σ H Q I h) λc s1 e=>?_)
 cases c with
 |false=>exact isTrue_or_nil e
 |true=>exact e
theorem pw_and(ha:PT X a tA)(hb:PW X (.BoolOp .And (b::rest) pos) Nq):PW X (.BoolOp .And (a::b::rest) pos) (JD tA Nq):=by
 intro wh pins s σ H Q I h
 refine isTrue_and (aO (ha pins s σ H _ I h) λc s1 ⟨H1,I1,q1⟩=>?_)
 cases c with
 |true=>exact hb wh pins s1 σ H1 Q I1 q1
 |false=>exact⟨H1,I1,q1⟩
theorem pw_or(ha:PT X a tA)(hb:PW X (.BoolOp .Or (b::rest) pos) Nq):PW X (.BoolOp .Or (a::b::rest) pos) (Vr tA Nq):=by
 intro wh pins s σ H Q I h
 refine isTrue_or (aO (ha pins s σ H _ I h) λc s1 ⟨H1,I1,q1⟩=>?_)
 cases c with
 |true=>exact⟨H1,I1,q1⟩
 |false=>exact hb wh pins s1 σ H1 Q I1 q1
theorem Qu(ha:PT X a tA):PT X (.UnaryOp .Not a pos) (JF tA):=by
 intro pins s σ H Q I h
 exact isTrue_not (ha pins s σ H (λc H1=>Q (!c) H1) I h)
def Bx(ta tb:TE):TE:=λσ H Q=>ta σ H λx H1=>∃c,x=.bl c/\if c=true then tb σ H1 Q else Q (.bl false) H1
def BJ(ta:TE):TE:=λσ H Q=>ta σ H λx H1=>∃c,x=.bl c/\Q (.bl (!c)) H1
theorem Vs{op}(h:PE X a t):PE X (.BoolOp op [a] pos) t:=λpins s σ H Q I hw=>BoolOp_one (h pins s σ H Q I hw)
theorem Qv(ha:PE X a ta)(hb:PE X (.BoolOp .And (b::rest) pos) tb):PE X (.BoolOp .And (a::b::rest) pos) (Bx ta tb):=by
 intro pins s σ H Q I h
 refine BoolOp_and (aO (ha pins s σ H _ I h) λv s1 ⟨x,H1,I1,r1,q1⟩=>?_)
 obtain⟨c,rfl,q1⟩:=q1
 cases r1
 refine wpAny_truthy_bool ?_
 cases c with
 |true=>exact hb pins s1 σ H1 Q I1 q1
 |false=>exact⟨.bl false,H1,I1,rfl,q1⟩
theorem DX(ha:PE X a ta):PE X (.UnaryOp .Not a pos) (BJ ta):=by
 intro pins s σ H Q I h
 refine UnaryOp_ (aO (ha pins s σ H _ I h) λv s1 ⟨x,H1,I1,r1,q1⟩=>?_)
 obtain⟨c,rfl,q1⟩:=q1
 cases r1
 exact not_of (wpAny_truthy_bool ⟨.bl (!c),H1,I1,rfl,q1⟩)
def Vt(t:TT)(ta tb:TE):TE:=λσ H Q=>t σ H λc H1=>if c=true then ta σ H1 Q else tb σ H1 Q
theorem Vu(hc:PT X c tA)(ha:PE X a ta)(hb:PE X b tb):PE X (.IfExp c a b pos) (Vt tA ta tb):=by
 intro pins s σ H Q I h
 refine wpAny_IfExp (aO (hc pins s σ H _ I h) λd s1 ⟨H1,I1,q1⟩=>?_)
 cases d with
 |true=>exact ha pins s1 σ H1 Q I1 q1
 |false=>exact hb pins s1 σ H1 Q I1 q1
end
def aZ(K:PySem.W.Frag)(H:Hp)(a:Addr)(xs:List V):Prop :=
 Rd H a (.lst xs) \/
  ∃(o:Obj)(its:Array Value)(n:Nat),K.lookup a=some o/\o.cls=.type "list" /\ o.dict=none/\o.data=.seq its n/\its.size<=sizeLine/\Vals xs its.toList
def nZ(K:PySem.W.Frag)(H:Hp)(a:Addr)(xs:List V):Prop :=
 Rd H a (.tup xs) \/
  ∃(o:Obj)(its:Array Value)(n:Nat),K.lookup a=some o/\o.cls=.type "tuple" /\ o.data=.seq its n/\its.size<=sizeLine/\Vals xs its.toList
def Qw:Value->Option V
 |.none=>some .non
 |.bool b=>some (.bl b)
 |.int i _=>some (.int i)
 |.str x _=>some (.str x)
 |.bytes b _=>some (.Dv b)
 |.float b _=>some (.flt b)
 |.ref a=>some (.ref a)
 |.type n=>some (.ty n)
 |_=>none
theorem RelV.abs(r:RelV x u):Qw u=some x:=by
 cases x with
 |non=>cases r;rfl
 |bl _=>cases r;rfl
 |int _=>obtain⟨t,rfl⟩:=r;rfl
 |str _=>obtain⟨t,rfl⟩:=r;rfl
 |Dv _=>obtain⟨t,rfl⟩:=r;rfl
 |flt _=>obtain⟨t,rfl⟩:=r;rfl
 |ref _=>cases r;rfl
 |ty _=>cases r;rfl
theorem RelV.inj(r:RelV x u)(q:RelV y u):x=y:=Option.some.inj (r.abs.symm.trans q.abs)
theorem Vals.inj:∀{xs ys:List V}{us:List Value},Vals xs us->Vals ys us->xs=ys
 |_,_,_,.nil,.nil=>rfl
 |_,_,_,.cons r t,.cons r' t'=>by rw[r.inj r',Vals.inj t t']
section
variable{X:Cx}{pins:List (Addr×Obj)}{σ:St}{H:Hp}{s:Shared}{a:Addr}{xs ys:List V}
theorem aZ.of{K:PySem.W.Frag}(h:H a=some (.lst xs)):aZ K H a xs:=.inl (.inl h)
theorem nZ.of{K:PySem.W.Frag}(h:H a=some (.tup xs)):nZ K H a xs:=.inl (.inl h)
theorem Inv.list(I:Inv X pins σ H s)(h:aZ X.K H a xs):∃its:List Value,Vals xs its/\PlainL s.heap a its.toArray/\xs.length<=sizeLine:=by
 rcases h with h|⟨o,its,n,hk,hc,hd,hs,hz,r⟩
 ·obtain⟨z,its,n,r,e⟩:=h.ok I.hok
  exact⟨its,r,⟨_,n,e,rfl,rfl,rfl⟩,z⟩
 ·refine⟨its.toList,r,⟨o,n,I.jF a o hk,hc,hd,by simpa using hs⟩,?_⟩
  have e:=r.length
  simp only[length_toList] at e
  omega
theorem Inv.tuple(I:Inv X pins σ H s)(h:nZ X.K H a xs):∃its:List Value,Vals xs its/\IsTup s.heap a its.toArray/\xs.length<=sizeLine:=by
 rcases h with h|⟨o,its,n,hk,hc,hs,hz,r⟩
 ·obtain⟨z,its,r,p⟩:=h.ok I.hok
  exact⟨its,r,p,z⟩
 ·refine⟨its.toList,r,⟨o,I.jF a o hk,hc,n,by simpa using hs⟩,?_⟩
  have e:=r.length
  simp only[length_toList] at e
  omega
theorem Inv.mZ(I:Inv X pins σ H s)(h:aZ X.K H a xs)(h':aZ X.K H a ys):xs=ys:=by
 obtain⟨its,r,⟨o,n,e,_,_,d⟩,_⟩:=I.list h
 obtain⟨its',r',⟨o',n',e',_,_,d'⟩,_⟩:=I.list h'
 rw[e] at e';cases e'
 rw[d] at d'
 injection d' with d1 _
 have:its=its':=by simpa using congrArg Array.toList d1
 subst this
 exact r.inj r'
end
abbrev Cx.wish(X:Cx)(E:Value->Shared->Prop):Cx:={ X with xe:=E }
abbrev Cx.BK(X:Cx):Cx:=X.wish λ_ _=>False
theorem Cx.Ok.wish{X:Cx}(ok:X.Ok)(E:Value->Shared->Prop):(X.wish E).Ok :=
 ⟨ok.mod,ok.kind,ok.glob,ok.blt,ok.above,ok.inj,ok.has,ok.cab,ok.hd,ok.frames,ok.stk,ok.Nj,ok.bs,ok.ur,ok.q_,ok.rA,ok.jE,ok.Dz⟩
theorem Cx.Ok.fH{X:Cx}(ok:(X.wish E).Ok):X.Ok :=
 ⟨ok.mod,ok.kind,ok.glob,ok.blt,ok.above,ok.inj,ok.has,ok.cab,ok.hd,ok.frames,ok.stk,ok.Nj,ok.bs,ok.ur,ok.q_,ok.rA,ok.jE,ok.Dz⟩
section
variable{X:Cx}{pins:List (Addr×Obj)}{σ:St}{H:Hp}{s:Shared}{E:Value->Shared->Prop}
theorem Inv.wish(I:Inv X pins σ H s)(E:Value->Shared->Prop):Inv (X.wish E) pins σ H s:=⟨I.ok.wish E,I.os,I.bare,I.base,I.loc,I.cell,I.free,I.fG,I.pin,I.hok,I.len⟩
theorem Inv.fH(I:Inv (X.wish E) pins σ H s):Inv X pins σ H s:=⟨I.ok.fH,I.os,I.bare,I.base,I.loc,I.cell,I.free,I.fG,I.pin,I.hok,I.len⟩
theorem SP.fH(h:SP (X.wish E) pins D f s'):SP X pins D f s':=by
 cases f with
 |next=>obtain⟨σ',H',I,q⟩:=h;exact⟨σ',H',I.fH,q⟩
 |brk=>obtain⟨σ',H',I,q⟩:=h;exact⟨σ',H',I.fH,q⟩
 |cont=>obtain⟨σ',H',I,q⟩:=h;exact⟨σ',H',I.fH,q⟩
 |ret u=>obtain⟨v,σ',H',I,r,q⟩:=h;exact⟨v,σ',H',I.fH,r,q⟩
theorem mY.BK{st:List Stmt}{t:TS}(h:mY X.BK st t):mY X st t:=λpins s σ H D I hw =>
 wpAny_mono (h pins s σ H D (I.wish _) hw) (λ_ _ q=>q.fH) λ_ _ z=>False.elim z
end
section
variable{X:Cx}{st:Stmt}{rest:List Stmt}{t u:TS}{e:Expr}{te:TE}{pos:Pos}
def JG:TS:=λD σ H=>D.nx σ H
def k_(t u:TS):TS:=λD σ H=>t { D with nx:=u D } σ H
theorem zH:mY X [] JG:=λ_ _ σ H _ I h=>wpAny_execs_nil ⟨σ,H,I,h⟩
theorem zC(h1:PS X st t)(h2:mY X rest u):mY X (st::rest) (k_ t u):=by
 intro pins s σ H D I h
 refine wpAny_execs_cons (aO (h1 pins s σ H { D with nx:=u D } I h) λf s1 q=>?_)
 cases f with
 |next =>
  obtain⟨σ',H',I',q⟩:=q
  exact h2 pins s1 σ' H' D I' q
 |ret v=>exact q
 |brk=>exact q
 |cont=>exact q
theorem Ig(h1:PS X st t):mY X [st] t:=by
 intro pins s σ H D I h
 refine wpAny_execs_cons (aO (h1 pins s σ H D I h) λf s1 q=>?_)
 cases f with
 |next=>exact wpAny_execs_nil q
 |ret v=>exact q
 |brk=>exact q
 |cont=>exact q
theorem Inv.quiet(I:Inv X pins σ H s):interactive X.env=false:=by simp[interactive,I.ok.kind]
def Ih(te:TE):TS:=λD σ H=>te σ H λ_ H1=>D.nx σ H1
theorem yN(he:PE X e te)(hs:swapsWith e none pos.line X.env=pure false:=by rfl):PS X (.Expr e pos) (Ih te):=by
 intro pins s σ H D I h
 exact wpAny_Expr_any (aO (he pins s σ H _ I h) λv s1 ⟨x,H1,I1,r1,q1⟩=>⟨σ,H1,I1,q1⟩) I.quiet hs
def uw(te:TE):TS:=λD σ H=>te σ H D.rt
theorem yE(he:PE X e te):PS X (.Return (some e) pos) (uw te):=by
 intro pins s σ H D I h
 exact wpAny_Return_some (aO (he pins s σ H _ I h) λv s1 ⟨x,H1,I1,r1,q1⟩=>⟨x,σ,H1,I1,r1,q1⟩)
def ux(c:TT)(t u:TS):TS:=λD σ H=>c σ H λb H1=>if b=true then t D σ H1 else u D σ H1
theorem vL(hc:PT X c tc)(ha:mY X a t)(hb:mY X b u):PS X (.If c a b pos) (ux tc t u):=by
 intro pins s σ H D I h
 refine wpAny_If (aO (hc pins s σ H _ I h) λd s1 ⟨H1,I1,q1⟩=>?_)
 cases d with
 |true=>exact ha pins s1 σ H1 D I1 q1
 |false=>exact hb pins s1 σ H1 D I1 q1
def Vv:TS:=λ_ _ _=>False
theorem Ii:mY X sts Vv:=λ_ _ _ _ _ _ h=>h.elim
end
abbrev TG:=V->St->Hp->(St->Hp->Prop)->Prop
abbrev Ij:=List V->St->Hp->(St->Hp->Prop)->Prop
def PG(X:Cx)(target:Expr)(t:TG):Prop :=
 ∀(pins:List (Addr×Obj))(s:Shared)(σ:St)(H:Hp)(v:V)(u:Value)(Q:St->Hp->Prop),Inv X pins σ H s->RelV v u->t v σ H Q ->
  wpAny (model X.prog X.w) X.A (assign target X.env u) (λ_ s'=>∃σ' H',Inv X pins σ' H' s'/\Q σ' H') X.xe s
def JH(X:Cx)(ts:List Expr)(t:Ij):Prop :=
 ∀(pins:List (Addr×Obj))(s:Shared)(σ:St)(H:Hp)(vs:List V)(us:List Value)(Q:St->Hp->Prop),Inv X pins σ H s->Vals vs us->t vs σ H Q ->
  wpAny (model X.prog X.w) X.A (assignInOrder ((assignEach ts X.env).map (·.2)) us) (λ_ s'=>∃σ' H',Inv X pins σ' H' s'/\Q σ' H') X.xe s
section
variable{X:Cx}{pos:Pos}
def m5(i:Nat):TG:=λv σ H Q=>Q (σ.set i (some v)) H
theorem yI(hN:X.N.Nodup)(hi:X.N[i]?=some x)(hx:Loc X.env.scope x)(hf:X.fn x=true\/X.env.scope.names.lookup x=some .local:=by first|exact .inl rfl|exact .inr rfl|assumption):PG X (.Name x pos) (m5 i):=by
 intro pins s σ H v u Q I r h
 exact wpAny_assign_Name (Vp I hN hi hx r (λs' I'=>⟨_,H,I',h⟩) hf)
def DY:Ij:=λvs σ H Q=>vs=[]/\Q σ H
def Ik(t:TG)(u:Ij):Ij:=λvs σ H Q=>∃v r,vs=v::r/\t v σ H λσ' H'=>u r σ' H' Q
theorem vC:JH X [] DY:=by
 intro pins s σ H vs us Q I r h
 obtain⟨e,h⟩:=h
 subst e
 cases r
 exact assignInOrder_nil ⟨σ,H,I,h⟩
theorem yB(h1:PG X e t)(h2:JH X es u)(hs:(assignEach (e::es) X.env).map (·.2)=assign e X.env::(assignEach es X.env).map (·.2):=by rfl):JH X (e::es) (Ik t u):=by
 intro pins s σ H vs us Q I r h
 obtain⟨v,vr,e1,h⟩:=h
 subst e1
 cases r with
 |cons r rr =>
  rw[hs]
  refine assignInOrder_cons (aO (h1 pins s σ H _ _ _ I r h) λ_ s1 ⟨σ1,H1,I1,q1⟩=>?_)
  exact h2 pins s1 σ1 H1 _ _ Q I1 rr q1
def uy(K:PySem.W.Frag)(n:Nat)(t:Ij):TG:=λv σ H Q=>∃a xs,v=.ref a/\nZ K H a xs/\xs.length=n/\t xs σ H Q
theorem uz(hc:X.calm=true)(h:JH X es t)(hn:(assignEach es X.env).length=n:=by rfl)(hst:(assignEach es X.env).findIdx? (·.1)=none:=by rfl):PG X (.Tuple es k pos) (uy X.K n t):=by
 intro pins s σ H v u Q I r hw
 obtain⟨a,xs,e1,hq,hl,hw⟩:=hw
 subst e1
 cases r
 obtain⟨its,rv,ht,hz⟩:=I.tuple hq
 refine assign_Tuple_tuple (I.ok.hd hc) ht (by simp[hn,<-hl,rv.length]) hst λh' hx=>?_
 have I1:Inv X pins σ H { s with heap:=h' }:=I.kept (t':=s.toks) λb o e=>hx b o (Nat.ne_of_lt (lt_size e)) e
 exact h pins _ σ H xs _ Q I1 (by simpa using rv) hw
def lg(te:TE)(g:TG):TS:=λD σ H=>te σ H λx H1=>g x σ H1 D.nx
theorem Vw(he:PE X e te)(hg:PG X tg g)(hs:swapsWithSole [tg] e pos.line X.env=pure false:=by rfl)(hw:swappedStores [tg] e X.env=pure none:=by rfl)(h1:(assignEach [tg] X.env).map (·.2)=[assign tg X.env]:=by rfl):PS X (.Assign [tg] e pos) (lg te g):=by
 intro pins s σ H D I h
 refine wpAny_Assign_stores (aO (he pins s σ H _ I h) λv s1 ⟨x,H1,I1,r1,q1⟩=>?_) hs hw
 rw[h1]
 exact aO (hg pins s1 σ H1 x v _ I1 r1 q1) λ_ s2 q=>q
theorem Nr(hN:X.N.Nodup)(hi:X.N[i]?=some x)(hx:Loc X.env.scope x)(he:PE X e te)(hs:swapsWith e (some (.Name x pos')) pos.line X.env=pure false:=by rfl)(hf:X.fn x=true\/X.env.scope.names.lookup x=some .local:=by first|exact .inl rfl|exact .inr rfl|assumption) :
  PS X (.Assign [.Name x pos'] e pos) (lg te (m5 i)):=by
 intro pins s σ H D I h
 refine wpAny_Assign_Name (aO (he pins s σ H _ I h) λv s1 ⟨y,H1,I1,r1,q1⟩=>?_) hs
 exact Vp I1 hN hi hx r1 (λs2 I2=>⟨_,H1,I2,q1⟩) hf
end
section
variable{X:Cx}{pos:Pos}
def Vx(c:TT)(tb:TS):TS:=λD σ H=>∃W:Nat->St->Hp->Prop,(∃m,W m σ H)/\∀m σ H,W m σ H ->
 c σ H λb H1=>if b=true then∃N:St->Hp->Prop,(∀σ' H',N σ' H'->∃m',m'<m/\W m' σ' H')/\tb { D with nx:=N,ct:=N,bk:=D.nx } σ H1 else D.nx σ H1
theorem zQi(hp:PassesOwn (model X.prog X.w) X.A X.env X.xe)(hc:PT X c tc)(hb:mY X body tb):PS X (.While c body [] pos) (Vx tc tb):=by
 intro pins s σ H D I h
 obtain⟨W,⟨m0,w0⟩,turn⟩:=h
 refine wpAny_While (codeAny_whileLoop (λn s'=>∃σ' H',Inv X pins σ' H' s'/\W n σ' H') ?_ m0 ⟨σ,H,I,w0⟩)
 rintro n s1 ⟨σ1,H1,I1,w1⟩
 refine wpAny_passesOwn hp (aO (hc pins s1 σ1 H1 _ I1 (turn n σ1 H1 w1)) λb s2 ⟨H2,I2,q2⟩=>?_)
 cases b with
 |true =>
  obtain⟨N,hN,q2⟩:=q2
  rw[if_pos rfl]
  refine wpAny_passesOwn hp (aO (hb pins s2 σ1 H2 _ I2 q2) λf s3 q3=>?_)
  cases f with
  |next =>
   obtain⟨σ3,H3,I3,n3⟩:=q3
   obtain⟨m',hm,w3⟩:=hN σ3 H3 n3
   exact⟨m',hm,σ3,H3,I3,w3⟩
  |cont =>
   obtain⟨σ3,H3,I3,n3⟩:=q3
   obtain⟨m',hm,w3⟩:=hN σ3 H3 n3
   exact⟨m',hm,σ3,H3,I3,w3⟩
  |brk=>exact q3
  |ret v=>exact q3
 |false =>
  rw[if_neg Bool.false_ne_true]
  exact wpAny_execs_nil ⟨σ1,H2,I2,q2⟩
end
structure It where
 go:Nat->Hp->Prop
 Il:Nat->Hp->V->Hp->Prop
 stop:Nat->Hp->Prop
def jj(X:Cx)(pins:List (Addr×Obj))(H:Hp)(b:Addr):Prop :=
 H b=none/\b≠X.env.locals/\b∉X.fs/\(b∈X.ex\/X.s₀.heap.objs.size<=b)/\(∀x c,X.env.cells.lookup x=some c->c≠b)/\∀p∈X.pn++pins,p.1≠b
theorem Inv.lq(I:Inv X pins σ H s)(hb:s.heap.objs.size<=b)(hn:H' b=none):jj X pins H' b:=by
 refine⟨hn,Nat.ne_of_gt (Nat.lt_of_lt_of_le I.lt hb),I.DG hb,.inr (Nat.le_trans I.sz hb),λx c e z=>?_,λp hp z=>?_⟩
 ·obtain⟨v,q⟩:=I.cell x c e
  exact absurd (Nat.lt_of_lt_of_le q.lt (by rw[z];exact hb)) (Nat.lt_irrefl _)
 ·exact absurd (Nat.lt_of_lt_of_le (lt_size (I.pin p hp).1) (by rw[z];exact hb)) (Nat.lt_irrefl _)
structure Turn(P:Program)(w:World)(K:PySem.W.Frag)(tg:Expr)(J:It)(fp:List Addr)(it:Addr)(tn:Nat->Heap->Prop):Prop where
 mem:it∈fp
 obj:∀i h,tn i h->∀b∈fp,∃o,h.get? b=some o/\∀v,o.data≠.cell v
 keep:∀i h h',tn i h->(∀b∈fp,∀o,h.get? b=some o->h'.get? b=some o)->tn i h'
 item:∀(X:Cx),X.prog=P->X.w=w->X.K=K->X.calm=true->∀(i:Nat)(pins:List (Addr×Obj))(s:Shared)(σ:St)(H:Hp)(E:Value->Shared->Prop),Inv X pins σ H s->(∀b∈fp,jj X pins H b)->tn i s.heap->J.go i H ->
  wpAny (model P w) X.A (pyNext (.ref it)) (λr s1=>∃u,r=some u /\
   wpAny (model P w) X.A (letOwnedTupleGo tg (.ref it) u) (λ_ s2=>∃x H',Inv X pins σ H' s2/\RelV x u/\J.Il i H x H'/\tn (i+1) s2.heap/\∀b∈fp,H' b=none) E s1) E s
 done:∀(X:Cx),X.prog=P->X.w=w->X.K=K->X.calm=true->∀(i:Nat)(pins:List (Addr×Obj))(s:Shared)(σ:St)(H:Hp)(E:Value->Shared->Prop),Inv X pins σ H s->(∀b∈fp,jj X pins H b)->tn i s.heap->J.stop i H ->
  wpAny (model P w) X.A (pyNext (.ref it)) (λr s1=>r=none/\Inv X pins σ H s1) E s
 self:∀(A:Around)(i:Nat)(s:Shared)(Q:Value->Shared->Prop)(E:Value->Shared->Prop),tn i s.heap->Q (.ref it) s->wpAny (model P w) A (pyIter (.ref it)) Q E s
abbrev TI:=St->Hp->(It->Hp->Prop)->Prop
def PIE(X:Cx)(pins:List (Addr×Obj))(σ:St)(tg:Expr)(R:It->Hp->Prop)(itv:Value)(s2:Shared):Prop :=
 ∃(it:Addr)(fp:List Addr)(tn:Nat->Heap->Prop)(J:It)(H':Hp),itv=.ref it/\Inv X pins σ H' s2/\Turn X.prog X.w X.K tg J fp it tn/\tn 0 s2.heap/\(∀b∈fp,jj X pins H' b)/\R J H'
def PI(X:Cx)(tg iter:Expr)(wi:TI):Prop :=
 ∀(pins:List (Addr×Obj))(s:Shared)(σ:St)(H:Hp)(R:It->Hp->Prop),Inv X pins σ H s->wi σ H R ->
  wpAny (model X.prog X.w) X.A (eval iter X.env) (λv s1=>wpAny (model X.prog X.w) X.A (pyIter v) (PIE X pins σ tg R) X.xe s1) X.xe s
theorem Nt{s:Shared}{Q:Unit->Shared->Prop}(ho:s.heap.get? it=some o)(hc:o.cls=.type n)(hd:o.data=.fields vs)(hn:["enumerate","zip","dict_itemiterator","dict_reverseitemiterator","odict_iterator","itertools.zip_longest","itertools.pairwise"].contains n=false)(hQ:Q () s):wpAny M A (letOwnedTupleGo tg (.ref it) u) Q E s:=by
 unfold letOwnedTupleGo
 cases tg<;>first
  |exact wpAny_pure hQ
  | (cases u<;>first
    |exact wpAny_pure hQ
    | (refine wpAny_bind (wpAny_load ho ?_)
       rw[hc,hd]
       show wpAny M A (if(["enumerate","zip","dict_itemiterator","dict_reverseitemiterator","odict_iterator","itertools.zip_longest","itertools.pairwise"].contains n&&vs[0]?==some (rawInt _))=true then _ else _) Q E s
       rw[if_neg (by intro h;rw[hn,Bool.false_and] at h;cases h)]
       exact wpAny_pure hQ))
def Im(K:PySem.W.Frag)(a:Addr):It :=
 ⟨λi H=>∃xs x,aZ K H a xs/\xs[i]?=some x,λi H x H'=>H'=H/\∀xs,aZ K H a xs->xs[i]?=some x,λi H=>∃xs,aZ K H a xs/\xs.length<=i⟩
def Nu(lo:Int)(n:Nat):It:=⟨λi _=>i<n,λi H x H'=>H'=H/\x=.int (lo+i),λi _=>n<=i⟩
theorem zMf{P:Program}{w:World}{K:PySem.W.Frag}{tg:Expr}(a it:Addr):Turn P w K tg (Im K a) [it] it (λi h=>h.IsListIter it a i) where
 mem:=by simp
 obj:=λi h st b hb=>by
  have e:b=it:=by simpa using hb
  subst e
  obtain⟨o,e,c,d⟩:=st
  exact⟨o,e,λv z=>by rw[d] at z;cases z⟩
 keep:=λi h h' st k=>st.at λo e=>k it (by simp) o e
 item:=by
  intro X hP hw hK hc i pins s σ H E I hf st hg
  subst hP hw hK
  obtain⟨xs,x,hq,hx⟩:=hg
  obtain⟨its,rv,p,hz⟩:=I.list hq
  obtain⟨u,hu,ru⟩:=rv.get hx
  obtain⟨f0,f1,f2,f3,f4,f5⟩:=hf it (by simp)
  refine wpAny_pyNext_list_item st p.isList (x:=u) (by simpa using hu) λh' st' sb=>?_
  have I1:Inv X pins σ H { s with heap:=h' }:=I.turned (t':=s.toks) (λb o hb e=>(sb.2 b hb).trans e) f0 f1 f3 f4 f5
  obtain⟨o,e,c,d⟩:=id st'
  exact⟨u,rfl,Nt (s:={ s with heap:=h' }) e c d (by decide) ⟨x,H,I1,ru,⟨rfl,λys hy=>by rw[I.mZ hy hq];exact hx⟩,st',λb hb=>(hf b hb).1⟩⟩
 done:=by
  intro X hP hw hK hc i pins s σ H E I hf st hg
  subst hP hw hK
  obtain⟨xs,hq,hx⟩:=hg
  obtain⟨its,rv,p,hz⟩:=I.list hq
  obtain⟨f0,f1,f2,f3,f4,f5⟩:=hf it (by simp)
  have hl:=rv.length
  exact wpAny_pyNext_list_end (I.ok.hd hc) st p.isList (by simp;omega) λh' eb=>⟨rfl,I.turned (t':=s.toks) (λb o hb e=>eb b o hb e) f0 f1 f3 f4 f5⟩
 self:=λ_ _ _ _ _ st h=>wpAny_pyIter_listiter st h
theorem zK0{P:Program}{w:World}{K:PySem.W.Frag}{tg:Expr}(it:Addr)(lo:Int)(n:Nat):Turn P w K tg (Nu lo n) [it] it (λi h=>IsRangeIter h it (lo+(i:Nat)*1) ((n:Int)-(i:Nat)) 1) where
 mem:=by simp
 obj:=λi h st b hb=>by
  have e:b=it:=by simpa using hb
  subst e
  exact⟨_,st,λv z=>by
   have z':Data.fields _=Data.cell v:=z
   cases z'⟩
 keep:=λi h h' st k=>k it (by simp) _ st
 item:=by
  intro X hP hw hK hc i pins s σ H E I hf st hg
  subst hP hw hK
  obtain⟨f0,f1,f2,f3,f4,f5⟩:=hf it (by simp)
  have W:=Walks.range (prog:=X.prog) (w:=X.w) (I.ok.hd hc) it lo 1 n
  refine W.item i s _ _ hg st λv h' tk hv st' kk=>?_
  obtain⟨t,rfl⟩:=hv
  have I1:Inv X pins σ H { s with heap:=h',toks:=tk }:=I.turned (λb o hb e=>kk b o (by simpa using hb) e) f0 f1 f3 f4 f5
  refine⟨_,rfl,Nt (s:={ s with heap:=h',toks:=tk }) (n:="range_iterator") st' rfl rfl (by decide) ⟨.int (lo+i),H,I1,⟨t,?_⟩,⟨rfl,rfl⟩,st',λb hb=>(hf b hb).1⟩⟩
  rw[Int.mul_one]
 done:=by
  intro X hP hw hK hc i pins s σ H E I hf st hg
  subst hP hw hK
  obtain⟨f0,f1,f2,f3,f4,f5⟩:=hf it (by simp)
  exact wpAny_pyNext_range_end (I.ok.hd hc) st (by have:n<=i:=hg;omega) λh' eb=>⟨rfl,I.turned (t':=s.toks) (λb o hb e=>eb b o hb e) f0 f1 f3 f4 f5⟩
 self:=λ_ _ _ _ _ st h=>wpAny_pyIter_rangeiter st h
section
variable{X:Cx}{tg:Expr}
def rD(K:PySem.W.Frag)(tl:TE):TI:=λσ H R=>tl σ H λx H1=>∃a,x=.ref a/\(∃xs,aZ K H1 a xs)/\R (Im K a) H1
theorem Qx(hl:PE X l tl):PI X tg l (rD X.K tl):=by
 intro pins s σ H R I h
 refine aO (hl pins s σ H _ I h) λv s1 ⟨x,H1,I1,r1,q1⟩=>?_
 obtain⟨a,e,⟨xs,hq⟩,q⟩:=q1
 subst e
 cases r1
 obtain⟨its,rv,p,hz⟩:=I1.list hq
 refine wpAny_pyIter_list p.isList ?_
 refine⟨s1.heap.objs.size,[s1.heap.objs.size],_,_,H1,rfl,I1.kept (t':=s1.toks) λb o e=>get?_push_of_some _ e,zMf a _,⟨_,get?_push_size _ rfl,rfl,rfl⟩,λb hb=>?_,q⟩
 have e:b=s1.heap.objs.size:=by simpa using hb
 subst e
 exact I1.lq (Nat.le_refl _) (I1.hok.fresh (Nat.le_refl _))
theorem zQf{pins:List (Addr×Obj)}{σ:St}{H:Hp}{s:Shared}{R:It->Hp->Prop}{E:Value->Shared->Prop}{lo hi:Int}{t u v:Tok}{tk:Nat}(I:Inv X pins σ H s)(h1:-(2^62)<=lo)(h2:lo<2^62)(h3:-(2^62)<=hi)(h4:hi<2^62)(q:R (Nu lo (hi-lo).toNat) H):wpAny (model X.prog X.w) X.A (pyIter (.ref s.heap.objs.size)) (PIE X pins σ tg R) E { s with heap:=s.heap.push { cls:=.type "range",data:=.fields #[.int lo t,.int hi u,.int 1 v] },toks:=tk }:=by
 refine wpAny_pyIter_range (IsRange.new ..) (small_one h1 h2 h3 h4) ?_
 have I1:Inv X pins σ H { s with heap:=s.heap.push { cls:=.type "range",data:=.fields #[.int lo t,.int hi u,.int 1 v] },toks:=tk }:=I.kept λb o e=>get?_push_of_some _ e
 refine⟨(s.heap.push { cls:=.type "range",data:=.fields #[.int lo t,.int hi u,.int 1 v] }).objs.size,[(s.heap.push { cls:=.type "range",data:=.fields #[.int lo t,.int hi u,.int 1 v] }).objs.size],_,_,H,rfl,
  I1.kept (t':=tk) λb o e=>get?_push_of_some _ e,zK0 _ lo (hi-lo).toNat,?_,λb hb=>?_,q⟩
 ·have e1:lo+((0:Nat):Int)*1=lo:=by simp
  have e2:(((hi-lo).toNat:Nat):Int)-((0:Nat):Int)=Builtin.Range.rangeSize lo hi 1:=by rw[rangeSize_one];split<;>omega
  show IsRangeIter _ _ (lo+((0:Nat):Int)*1) ((((hi-lo).toNat:Nat):Int)-((0:Nat):Int)) 1
  rw[e1,e2]
  exact get?_push_size _ rfl
 ·have e:b=(s.heap.push { cls:=.type "range",data:=.fields #[.int lo t,.int hi u,.int 1 v] }).objs.size:=by simpa using hb
  subst e
  exact I1.lq (Nat.le_refl _) (I1.hok.fresh (Nat.le_refl _))
def rE(ta:TA):TI:=λσ H R=>ta σ H λvs H1=>∃j:Int,vs=[.int j] /\ -(2^62)<=j/\j<2^62/\R (Nu 0 j.toNat) H1
theorem yU(hg:Gl X "range")(hm:X.mg "range" = none)(ha:PA X [a] ta)(hs:starEach [a] X.env=[(false,eval a X.env)]:=by rfl):PI X tg (.Call (.Name "range" p) [a] [] pos) (rE ta):=by
 intro pins s σ H R I h
 refine Call_ (rB I hg hm boot_range (PyProof.Rows.callWith_type1 (aO (ha pos pins s σ H _ I h) λus s1 ⟨vs,H1,I1,r1,q1⟩=>?_) hs rfl))
 obtain⟨j,e,q1,q2,q⟩:=q1
 subst e
 cases r1 with
 |cons r rr =>
  cases rr
  obtain⟨t,rfl⟩:=r
  exact call_range_1 (zQf I1 (by omega) (by omega) q1 q2 (by simpa using q))
def D_(wi:TI)(g:TG)(tb:TS):TS:=λD σ H=>wi σ H λJ H1=>∃W:Nat->Nat->St->Hp->Prop,(∃m,W 0 m σ H1)/\∀i m σ H,W i m σ H ->
 (J.stop i H/\D.nx σ H)\/(J.go i H/\∃N:St->Hp->Prop,(∀σ' H',N σ' H'->∃m',m'<m/\W (i+1) m' σ' H')/\∀x H',J.Il i H x H'->g x σ H' λσ2 H2=>tb { D with nx:=N,ct:=N,bk:=D.nx } σ2 H2)
def Eb(fp:List Addr)(h:Heap):List (Addr×Obj):=fp.filterMap λb=>(h.get? b).map λo=>(b,o)
theorem uC{h:Heap}(hb:b∈fp)(e:h.get? b=some o):(b,o)∈Eb fp h:=List.mem_filterMap.mpr ⟨b,hb,by rw[e];rfl⟩
theorem zNv(hp:p∈Eb fp h):p.1∈fp/\h.get? p.1=some p.2:=by
 obtain⟨b,hb,e⟩:=List.mem_filterMap.mp hp
 cases q:h.get? b with
 |none=>rw[q] at e;cases e
 |some o =>
  rw[q] at e
  have e':(b,o)=p:=Option.some.inj e
  subst e'
  exact⟨hb,q⟩
theorem Inv.pinned(I:Inv X pins σ H s)(hf:∀b∈fp,jj X pins H b)(ho:∀b∈fp,∃o,s.heap.get? b=some o/\∀v,o.data≠.cell v):Inv X (pins++Eb fp s.heap) σ H s :=
 I.iH λp hp=>(mem_append.mp hp).elim (λz=>I.pin p (mem_append_right _ z)) λz=>by
  obtain⟨hb,e⟩:=zNv z
  obtain⟨f0,f1,f2,_⟩:=hf p.1 hb
  obtain⟨o,e',d⟩:=ho p.1 hb
  rw[e] at e';cases e'
  exact⟨e,f0,f1,f2,d⟩
theorem Inv.fJ(I:Inv X (pins++pl) σ H s):Inv X pins σ H s:=I.iH λp hp=>I.pin p (mem_append_right _ (mem_append_left _ hp))
theorem wB(hp:PassesOwn (model X.prog X.w) X.A X.env X.xe)(hc:X.calm=true)(hi:PI X tg iter wi)(hg:PG X tg g)(hb:mY X body tb)(hs:∀x,foldedSetIterable iter X.env x=pure x:=by intro _;rfl):PS X (.For tg iter body [] pos) (D_ wi g tb):=by
 intro pins s σ H D I h
 refine wpAny_For (aO (hi pins s σ H _ I h) λv s1 h1=>aO h1 λitv s2 h2=>?_) hs
 obtain⟨it,fp,tn,J,H2,e,I2,T,st2,f2,W,⟨m0,w0⟩,turn⟩:=h2
 subst e
 have stat:∀{H':Hp},(∀b∈fp,H' b=none)->∀b∈fp,jj X pins H' b:=λhn b hb=>⟨hn b hb,(f2 b hb).2⟩
 refine codeAny_forLoop_any (λn s'=>∃i σ' H',Inv X pins σ' H' s'/\tn i s'.heap/\(∀b∈fp,H' b=none)/\W i n σ' H') ?_ m0 ⟨0,σ,H2,I2,st2,λb hb=>(f2 b hb).1,w0⟩
 rintro n s3 ⟨i,σ3,H3,I3,st3,Nv,w3⟩
 rcases turn i n σ3 H3 w3 with⟨stop,qn⟩|⟨go,N,hN,step⟩
 ·refine wpAny_passesOwn hp (aO (T.done X rfl rfl rfl hc i pins s3 σ3 H3 X.xe I3 (stat Nv) st3 stop) λr s4 ⟨hr,I4⟩=>?_)
  subst hr
  exact wpAny_execs_nil ⟨σ3,H3,I4,qn⟩
 ·refine wpAny_passesOwn hp (aO (T.item X rfl rfl rfl hc i pins s3 σ3 H3 X.xe I3 (stat Nv) st3 go) λr s4 ⟨u,hr,h4⟩=>?_)
  subst hr
  refine wpAny_passesOwn hp (aO h4 λ_ s5 ⟨x,H5,I5,r5,y5,Qy,fr5⟩=>?_)
  have I5':=I5.pinned (stat fr5) (T.obj _ _ Qy)
  refine wpAny_passesOwn hp (aO (hg _ s5 σ3 H5 x u _ I5' r5 (step x H5 y5)) λ_ s6 ⟨σ6,H6,I6,q6⟩=>?_)
  refine wpAny_passesOwn hp (aO (hb _ s6 σ6 H6 _ I6 q6) λf s7 q7=>?_)
  have again:∀{σ7:St}{H7:Hp},Inv X (pins++Eb fp s5.heap) σ7 H7 s7->N σ7 H7->∃m,m<n/\∃i σ' H',Inv X pins σ' H' s7/\tn i s7.heap/\(∀b∈fp,H' b=none)/\W i m σ' H':=λ{σ7 H7} I7 n7=>by
   obtain⟨m',hm,w7⟩:=hN σ7 H7 n7
   refine⟨m',hm,i+1,σ7,H7,I7.fJ,T.keep _ _ _ Qy λb hb o e=>(I7.pin (b,o) (mem_append_right _ (mem_append_right _ (uC hb e)))).1,λb hb=>?_,w7⟩
   obtain⟨o,e,d⟩:=T.obj _ _ Qy b hb
   exact(I7.pin (b,o) (mem_append_right _ (mem_append_right _ (uC hb e)))).2.1
  cases f with
  |next=>obtain⟨σ7,H7,I7,n7⟩:=q7;exact again I7 n7
  |cont=>obtain⟨σ7,H7,I7,n7⟩:=q7;exact again I7 n7
  |brk=>obtain⟨σ7,H7,I7,q7⟩:=q7;exact⟨σ7,H7,I7.fJ,q7⟩
  |ret v=>obtain⟨x7,σ7,H7,I7,r7,q7⟩:=q7;exact⟨x7,σ7,H7,I7.fJ,r7,q7⟩
end
theorem Vy{K:PySem.W.Frag}{a:Addr}{xs:List V}{g:TG}{tb:TS}{D:Ends}{σ:St}{H:Hp}(Pv:Nat->St->Hp->Prop)(h0:Pv 0 σ H)(hl:∀i σ H,i<=xs.length->Pv i σ H->aZ K H a xs)(hs:∀i x σ H,xs[i]?=some x->Pv i σ H->g x σ H λσ2 H2=>tb { D with nx:=Pv (i+1),ct:=Pv (i+1),bk:=D.nx } σ2 H2)(hd:∀σ H,Pv xs.length σ H->D.nx σ H) :
  ∃W:Nat->Nat->St->Hp->Prop,(∃m,W 0 m σ H)/\∀i m σ H,W i m σ H ->
   ((Im K a).stop i H/\D.nx σ H)\/((Im K a).go i H/\∃N:St->Hp->Prop,(∀σ' H',N σ' H'->∃m',m'<m/\W (i+1) m' σ' H')/\∀x H',(Im K a).Il i H x H'->g x σ H' λσ2 H2=>tb { D with nx:=N,ct:=N,bk:=D.nx } σ2 H2):=by
 refine⟨λi m σ H=>m=xs.length-i/\i<=xs.length/\Pv i σ H,⟨xs.length,by simp,Nat.zero_le _,h0⟩,?_⟩
 rintro i m σ H ⟨rfl,hi,p⟩
 have q:=hl i σ H hi p
 by_cases hlt:i<xs.length
 ·refine .inr ⟨⟨xs,xs[i],q,by simp[hlt]⟩,Pv (i+1),λσ' H' p'=>⟨xs.length-(i+1),by omega,rfl,hlt,p'⟩,λx H' y=>?_⟩
  obtain⟨e,y⟩:=y
  subst e
  exact hs i x σ _ (y xs q) p
 ·have e:i=xs.length:=by omega
  subst e
  exact .inl ⟨⟨xs,q,Nat.le_refl _⟩,hd σ H p⟩
abbrev R2:=V->V->Hp->VK->Prop
def jA(X:Cx)(f:Value->Value->Sem Value)(r:R2):Prop :=
 ∀(pins:List (Addr×Obj))(s:Shared)(σ:St)(H:Hp)(x y:V)(v u:Value)(Q:VK),Inv X pins σ H s->RelV x v->RelV y u->r x y H Q ->
  wpAny (model X.prog X.w) X.A (f v u) (EP X pins σ Q) X.xe s
def Qz(X:Cx)(f:Value->Sem Value)(r:V->Hp->VK->Prop):Prop :=
 ∀(pins:List (Addr×Obj))(s:Shared)(σ:St)(H:Hp)(x:V)(v:Value)(Q:VK),Inv X pins σ H s->RelV x v->r x H Q ->
  wpAny (model X.prog X.w) X.A (f v) (EP X pins σ Q) X.xe s
def lX(X:Cx)(f:Value)(r:List V->Hp->VK->Prop):Prop :=
 ∀(pins:List (Addr×Obj))(s:Shared)(σ:St)(H:Hp)(xs:List V)(us:List Value)(Q:VK),Inv X pins σ H s->Vals xs us->r xs H Q ->
  wpAny (model X.prog X.w) X.A (call f us) (EP X pins σ Q) X.xe s
def jk(r:R2)(ta tb:TE):TE:=λσ H Q=>ta σ H λx H1=>tb σ H1 λy H2=>r x y H2 Q
def Vz(r:V->Hp->VK->Prop)(ta:TE):TE:=λσ H Q=>ta σ H λx H1=>r x H1 Q
def rI(C:Int->Int->Prop)(g:Int->Int->V):R2:=λx y H Q=>∃i j,x=.int i/\y=.int j/\C i j/\Q (g i j) H
def pL(g:Int->Int->V):R2:=λx y H Q=>∃i j,x=.int i/\y=.int j/\Q (g i j) H
def rU(g:Int->V):V->Hp->VK->Prop:=λx H Q=>∃i,x=.int i/\Q (g i) H
section
variable{X:Cx}{a b c:Expr}{ta tb tc:TE}{pos:Pos}
theorem u5(ha:PE X a ta)(hb:PE X b tb){R:V->V->Hp->Prop}(I:Inv X pins σ H s)(h:ta σ H λx H1=>tb σ H1 λy H2=>R x y H2){f:Value->Value->Sem Value}(hf:∀v u s2 x y H2,Inv X pins σ H2 s2->RelV x v->RelV y u->R x y H2->wpAny (model X.prog X.w) X.A (f v u) Q X.xe s2) :
  wpAny (model X.prog X.w) X.A (eval a X.env) (λv s₁=>wpAny (model X.prog X.w) X.A (eval b X.env) (λu s₂=>wpAny (model X.prog X.w) X.A (f v u) Q X.xe s₂) X.xe s₁) X.xe s:=by
 refine aO (ha pins s σ H _ I h) λv s1 ⟨x,H1,I1,r1,q1⟩=>?_
 refine aO (hb pins s1 σ H1 _ I1 q1) λu s2 ⟨y,H2,I2,r2,q2⟩=>?_
 exact hf v u s2 x y H2 I2 r1 r2 q2
theorem zX(ho:jA X (binaryOp op) r)(ha:PE X a ta)(hb:PE X b tb):PE X (.BinOp a op b pos) (jk r ta tb):=by
 intro pins s σ H Q I h
 exact wpAny_BinOp (u5 ha hb I h λv u s2 x y H2 I2 rx ry q=>ho pins s2 σ H2 x y v u Q I2 rx ry q)
theorem rG(ho:Qz X (unaryOp op) r)(ha:PE X a ta):PE X (.UnaryOp op a pos) (Vz r ta):=by
 intro pins s σ H Q I h
 exact UnaryOp_ (aO (ha pins s σ H _ I h) λv s1 ⟨x,H1,I1,r1,q1⟩=>ho pins s1 σ H1 x v Q I1 r1 q1)
theorem Nx{f:Value->Value->Sem Value}{C:Int->Int->Prop}{g:Int->Int->Int}(rule:∀(i j:Int) (t u:Tok) (s:Shared) (Q:Value->Shared->Prop) (E:Value->Shared->Prop),C i j->Q (.int (g i j) s.toks) { s with toks:=s.toks+1 }->wpAny (model X.prog X.w) X.A (f (.int i t) (.int j u)) Q E s) :
  jA X f (rI C λi j=>.int (g i j)):=by
 intro pins s σ H x y v u Q I rx ry h
 obtain⟨i,j,rfl,rfl,hc,q⟩:=h
 obtain⟨t,rfl⟩:=rx
 obtain⟨t',rfl⟩:=ry
 exact rule i j t t' s _ _ hc ⟨.int (g i j),H,I.tok _,⟨_,rfl⟩,q⟩
theorem JK{f:Value->Value->Sem Value}{g:Int->Int->Int}(rule:∀(i j:Int) (t u:Tok) (s:Shared) (Q:Value->Shared->Prop) (E:Value->Shared->Prop),Q (.int (g i j) s.toks) { s with toks:=s.toks+1 }->wpAny (model X.prog X.w) X.A (f (.int i t) (.int j u)) Q E s) :
  jA X f (pL λi j=>.int (g i j)):=by
 intro pins s σ H x y v u Q I rx ry h
 obtain⟨i,j,rfl,rfl,q⟩:=h
 obtain⟨t,rfl⟩:=rx
 obtain⟨t',rfl⟩:=ry
 exact rule i j t t' s _ _ ⟨.int (g i j),H,I.tok _,⟨_,rfl⟩,q⟩
theorem Ec{f:Value->Value->Sem Value}{g:Int->Int->Bool}(rule:∀(i j:Int) (t u:Tok) (s:Shared) (Q:Value->Shared->Prop) (E:Value->Shared->Prop),Q (.bool (g i j)) s->wpAny (model X.prog X.w) X.A (f (.int i t) (.int j u)) Q E s) :
  jA X f (pL λi j=>.bl (g i j)):=by
 intro pins s σ H x y v u Q I rx ry h
 obtain⟨i,j,rfl,rfl,q⟩:=h
 obtain⟨t,rfl⟩:=rx
 obtain⟨t',rfl⟩:=ry
 exact rule i j t t' s _ _ ⟨.bl (g i j),H,I,rfl,q⟩
def JL(i j:Int):Prop:=0<j/\j<1073741824
def JM(i j:Int):Prop:=0<=j/\j<=1000000/\i.natAbs<2^64
def u_(i j:Int):Prop:=(-(2^64)<i/\i<2^64)\/(-(2^64)<j/\j<2^64)
theorem u_.ok(h:u_ i j):IntMulOk i j:=by
 rcases h with⟨h1,h2⟩|⟨h1,h2⟩
 ·exact .of_left (intBits_le_64 h1 h2)
 ·exact .of_right (intBits_le_64 h1 h2)
theorem vX:jA X (binaryOp .Add) (pL λi j=>.int (i+j)):=JK λ_ _ _ _ _ _ _ q=>add_int q
theorem QB:jA X (binaryOp .Sub) (pL λi j=>.int (i-j)):=JK λ_ _ _ _ _ _ _ q=>sub_int q
theorem QC:jA X (binaryOp .Mult) (rI u_ λi j=>.int (i*j)):=Nx λ_ _ _ _ _ _ _ hc q=>mul_int q hc.ok
theorem yY:jA X (binaryOp .FloorDiv) (rI JL λi j=>.int (i/j)):=Nx λi j _ _ _ _ _ hc q=>by
 have h1:(0:Int)<j:=hc.1
 have h2:j<1073741824:=hc.2
 exact floordiv_int (by omega) (by rw[Int.fdiv_eq_ediv_of_nonneg i (by omega)];exact q) (.inl (PyProof.noPylong_small (by omega)))
theorem yW:jA X (binaryOp .Mod) (rI (λ_ j=>0<j) λi j=>.int (i%j)):=Nx λi j _ _ _ _ _ hc q=>by
 have h1:(0:Int)<j:=hc
 exact mod_int' (by omega) (by rw[Int.fmod_eq_emod_of_nonneg i (by omega)];exact q)
theorem Ed:jA X (binaryOp .Pow) (rI JM λi j=>.int (i^j.toNat)):=Nx λ_ _ _ _ _ _ _ hc q=>pow_int_small hc.1 hc.2.1 hc.2.2 q
theorem unI{f:Value->Sem Value}{g:Int->Int}(rule:∀(i:Int) (t:Tok) (s:Shared) (Q:Value->Shared->Prop) (E:Value->Shared->Prop),Q (.int (g i) s.toks) { s with toks:=s.toks+1 }->wpAny (model X.prog X.w) X.A (f (.int i t)) Q E s) :
  Qz X f (rU λi=>.int (g i)):=by
 intro pins s σ H x v Q I rx h
 obtain⟨i,rfl,q⟩:=h
 obtain⟨t,rfl⟩:=rx
 exact rule i t s _ _ ⟨.int (g i),H,I.tok _,⟨_,rfl⟩,q⟩
theorem QD:Qz X (unaryOp .USub) (rU λi=>.int (-i)):=unI λ_ _ _ _ _ q=>neg_int q
end
section
variable{X:Cx}{a b c:Expr}{ta tb tc:TE}{pos:Pos}
theorem Ef(I:Inv X pins σ H s)(q:Q (.bl k) H)(e:k=k'):EP X pins σ Q (.bool k') s:=by
 subst e
 exact⟨.bl k,H,I,rfl,q⟩
theorem Ny:jA X (compareOp .Lt) (pL λi j=>.bl (decide (i<j))):=Ec λ_ _ _ _ _ _ _ q=>lt_int q
theorem rH:jA X (compareOp .LtE) (pL λi j=>.bl (decide (i<=j))):=Ec λ_ _ _ _ _ _ _ q=>le_int q
theorem Nz:jA X (compareOp .Gt) (pL λi j=>.bl (decide (j<i))):=Ec λ_ _ _ _ _ _ _ q=>gt_int q
theorem zNq:jA X (compareOp .In) (λx y H Q=>∃i j,x=.str i/\y=.str j/\Q (.bl (!(Builtin.Str.occurrences j i 0 j.length 1).isEmpty)) H):=by
 intro pins s σ H x y v u Q I rx ry h
 obtain⟨i,j,rfl,rfl,q⟩:=h
 obtain⟨t,rfl⟩:=rx
 obtain⟨t',rfl⟩:=ry
 exact in_str (Ef I q rfl)
theorem yZ(b:Expr)(h:op≠.In:=by decide)(h2:op≠.NotIn:=by decide):behindInMarks op b=false:=by
 have e1:(op==CmpOp.In)=false:=by cases op<;>first|rfl|exact absurd rfl h
 have e2:(op==CmpOp.NotIn)=false:=by cases op<;>first|rfl|exact absurd rfl h2
 cases b<;>simp[behindInMarks,e1,e2]
theorem QF(ho:jA X (compareOp op) r)(ha:PE X a ta)(hb:PE X b tb)(hm:behindInMarks op b=false):PE X (.Compare a [op] [b] pos) (jk r ta tb):=by
 intro pins s σ H Q I h
 exact wpAny_Compare1 (u5 ha hb I h λv u s2 x y H2 I2 rx ry q=>ho pins s2 σ H2 x y v u Q I2 rx ry q) hm
def BL(t:TE):TT:=λσ H Q=>t σ H λx H'=>∃k,x=.bl k/\Q k H'
theorem yA(ho:jA X (compareOp op) r)(ha:PE X a ta)(hb:PE X b tb)(hm:behindInMarks op b=false):PT X (.Compare a [op] [b] pos) (BL (jk r ta tb)):=by
 intro pins s σ H Q I h
 refine wpAny_isTrue_Compare1 (aO (ha pins s σ H _ I h) λv s1 ⟨x,H1,I1,r1,q1⟩=>aO (hb pins s1 σ H1 _ I1 q1) λu s2 ⟨y,H2,I2,r2,q2⟩ =>
  aO (ho pins s2 σ H2 x y v u _ I2 r1 r2 q2) λc s3 ⟨z,H3,I3,r3,k,e,q3⟩=>?_) hm
 subst e
 cases r3
 exact wpAny_truthy_bool ⟨H3,I3,q3⟩
def VB(r r':R2)(ta tb tc:TE):TE:=λσ H Q=>ta σ H λx H1=>tb σ H1 λy H2=>r x y H2 λz H3=>∃k,z=.bl k /\
 (if k=true then tc σ H3 λw' H4=>r' y w' H4 Q else Q (.bl false) H3)
theorem VD(ho:jA X (compareOp op) r)(ho':jA X (compareOp op') r')(ha:PE X a ta)(hb:PE X b tb)(hc:PE X c tc)(hm:lastMarks [op,op'] [b,c]=false:=by with_unfolding_all rfl):PE X (.Compare a [op,op'] [b,c] pos) (VB r r' ta tb tc):=by
 intro pins s σ H Q I h
 refine Compare_chain (aO (ha pins s σ H _ I h) λv s1 ⟨x,H1,I1,r1,q1⟩=>chain_link (aO (hb pins s1 σ H1 _ I1 q1) λu s2 ⟨y,H2,I2,r2,q2⟩ =>
  aO (ho pins s2 σ H2 x y v u _ I2 r1 r2 q2) λd s3 ⟨z,H3,I3,r3,k,e,q3⟩=>?_)) hm
 subst e
 cases r3
 refine wpAny_truthy_bool ?_
 cases k with
 |false=>exact ite_ff ⟨.bl false,H3,I3,rfl,q3⟩
 |true=>exact ite_tt (chain_last (aO (hc pins s3 σ H3 _ I3 q3) λw' s4 ⟨z',H4,I4,r4,q4⟩=>ho' pins s4 σ H4 y z' u w' Q I4 r2 r4 q4))
theorem QG:(sizeLine:Nat)<2^63:=by rw[sizeLine_eq];decide
theorem zLb:jA X (binaryOp .Add) (λx y H Q=>∃i j,x=.str i/\y=.str j/\i.length+j.length<=sizeLine/\Q (.str (i++j)) H):=by
 intro pins s σ H x y v u Q I rx ry h
 obtain⟨i,j,rfl,rfl,hz,q⟩:=h
 obtain⟨t,rfl⟩:=rx
 obtain⟨t',rfl⟩:=ry
 exact add_str (λt' tk=>⟨.str (i++j),H,I.tok _,⟨_,rfl⟩,q⟩) hz
def VF(b:Expr):Prop:=∀o i,subscripted b false o i=operate [o,i] (getItem o i)
theorem zIf(ha:PE X a ta)(hb:PE X b tb)(hs:VF b) :
  PE X (.Subscript a b pos) (jk (λx y H Q=>∃z i c,x=.str z/\y=.int i/\0<=i/\i<2^63/\i<z.length/\z.cps[i.toNat]?=some c/\Q (.str ⟨#[c]⟩) H) ta tb):=by
 intro pins s σ H Q I h
 refine Subscript_ (u5 ha hb I h λv u s2 x y H2 I2 rx ry q=>?_)
 obtain⟨z,i,c,rfl,rfl,h0,h63,h1,hc,q⟩:=q
 obtain⟨t,rfl⟩:=rx
 obtain⟨t',rfl⟩:=ry
 have e:seqIndex? i z.length=some i.toNat:=PySem.StrLaws.seqIndex_nonneg h0 h1
 exact tail_any (typeIs_str s2 z t) slot_str_getitem.lookup (getItem_str (c:=c) (by
  have e1:decide (i < -(2^63:Int))=false:=decide_eq_false (by omega)
  have e2:decide (i ≥ 2^63)=false:=decide_eq_false (by omega)
  rw[e1,e2]<;>rfl) (by rw[e];exact hc) ⟨.str ⟨#[c]⟩,H2,I2.tok _,⟨_,rfl⟩,q⟩) (hs _ _)
theorem tZ(r:Vals [x] us):∃u,us=[u]/\RelV x u:=by
 cases r with
 |cons r1 r2=>cases r2;exact⟨_,rfl,r1⟩
theorem vals2(r:Vals [x,y] us):∃u w',us=[u,w']/\RelV x u/\RelV y w':=by
 cases r with
 |cons r1 r2 =>
  cases r2 with
  |cons r3 r4=>cases r4;exact⟨_,_,rfl,r1,r3⟩
theorem VG(hc:X.calm=true):lX X (.builtin "min") (λxs H Q=>∃i j,xs=[.int i,.int j]/\Q (.int (if j<i then j else i)) H):=by
 intro pins s σ H xs us Q I r h
 obtain⟨i,j,rfl,q⟩:=h
 obtain⟨u,w',rfl,⟨t,rfl⟩,⟨t',rfl⟩⟩:=vals2 r
 refine min_two_ints (I.ok.hd hc) λh' tk k=>⟨_,H,I.kept k,?_,q⟩
 by_cases hj:j<i
 ·rw[if_pos hj,if_pos hj];exact⟨_,rfl⟩
 ·rw[if_neg hj,if_neg hj];exact⟨_,rfl⟩
theorem zPm:lX X (.type "int") (λxs H Q=>(∃i,xs=[.int i]/\Q (.int i) H)\/∃k,xs=[.bl k]/\Q (.int (if k then 1 else 0)) H):=by
 intro pins s σ H xs us Q I r h
 rcases h with⟨i,rfl,q⟩|⟨k,rfl,q⟩
 ·obtain⟨u,rfl,t,rfl⟩:=tZ r
  exact call_int_int ⟨.int i,H,I,⟨_,rfl⟩,q⟩
 ·obtain⟨u,rfl,r1⟩:=tZ r
  cases r1
  exact call_int_bool ⟨.int (if k then 1 else 0),H,I.tok _,⟨_,rfl⟩,q⟩
def QH(K:PySem.W.Frag)(x:V)(H:Hp)(n:Nat):Prop :=
 match x with
 |.str y=>y.length<=sizeLine/\n=y.length
 |.Dv y=>y.size<=sizeLine/\n=y.size
 |.ref p=>(∃xs,aZ K H p xs/\n=xs.length)\/∃xs,nZ K H p xs/\n=xs.length
 |_=>False
theorem zRl:lX X (.builtin "len") (λxs H Q=>∃x n,xs=[x]/\QH X.K x H n/\Q (.int n) H):=by
 intro pins s σ H xs us Q I r h
 obtain⟨x,n,rfl,e,q⟩:=h
 obtain⟨u,rfl,rx⟩:=tZ r
 have hl:=QG
 have hs:sizeLine=16777216:=sizeLine_eq
 cases x with
 |str y =>
  obtain⟨t,rfl⟩:=rx
  obtain⟨hy,e'⟩:y.length<=sizeLine/\n=y.length:=e
  subst e'
  exact len_str (by omega) ⟨.int _,H,I.tok _,⟨_,rfl⟩,q⟩
 |Dv y =>
  obtain⟨t,rfl⟩:=rx
  obtain⟨hy,e'⟩:y.size<=sizeLine/\n=y.size:=e
  subst e'
  exact PySem.W.len_bytes (by omega) ⟨.int _,H,I.tok _,⟨_,rfl⟩,q⟩
 |ref p =>
  cases rx
  have e':(∃xs,aZ X.K H p xs/\n=xs.length)\/∃xs,nZ X.K H p xs/\n=xs.length:=e
  rcases e' with⟨xs,hx,e'⟩|⟨xs,hx,e'⟩
  ·subst e'
   obtain⟨its,r',pl,hz⟩:=I.list hx
   have hlen:=r'.length
   exact Calls.call_len_list pl.isList (by simp only[size_toArray];omega) ⟨.int xs.length,H,I.tok _,⟨_,by simp only[size_toArray];rw[hlen]⟩,q⟩
  ·subst e'
   obtain⟨its,r',pl,hz⟩:=I.tuple hx
   have hlen:=r'.length
   exact len_tuple pl (by simp only[size_toArray];omega) ⟨.int xs.length,H,I.tok _,⟨_,by simp only[size_toArray];rw[hlen]⟩,q⟩
 |_=>exact(show False from e).elim
end
structure ou(h:Heap)(x dx C:Addr)(mA:Str->Option Value):Prop where
 obj:h.get? x=some (instObj C dx)
 ns:h.Ns1 dx mA
 ne:dx≠x
theorem zN6{h:Heap}(n:h.Ns1 dx mA):∃od,h.get? dx=some od/\∀name,lookIn name od=some (mA name):=by
 obtain⟨o,es,ep,ho,hd,hk,_,hm⟩:=n
 refine⟨o,ho,λname=>?_⟩
 have e:=hm name
 unfold nsFind findBy at e
 rw[<-Array.find?_toList] at e
 unfold lookIn
 rw[hd]
 dsimp only
 split
 ·rename_i y q
  rw[q] at e
  exact congrArg some e
 ·rename_i q
  rw[q] at e
  have a:es.toList.any (·.refKey)=false:=by
   rw[List.any_eq_false]
   intro y hy
   obtain⟨z,t,hkey⟩:=hk y (Array.mem_toList_iff.mp hy)
   simp[DictEntry.refKey,hkey]
  have a':¬es.toList.any (·.refKey)=true:=by rw[a];exact Bool.false_ne_true
  rw[if_neg a']
  exact congrArg some e
theorem ou.look(I:ou h x dx C mA):∃od,PySem.W.InstAt h x (instObj C dx) C (some od)/\∀name,lookIn name od=some (mA name) :=
 let⟨od,ho,hl⟩:=zN6 I.ns
 ⟨od,⟨I.obj,rfl,rfl,ho⟩,hl⟩
section
variable{prog:Program}{w:World}{A:Around}{E:Value->Shared->Prop}{s:Shared}{K:PySem.W.Frag}{x dx C f:Addr}{mA:Str->Option Value}{name:Str}{v:Value}
theorem get_map{Q:Value->Shared->Prop}(X:K.In s.heap)(I:ou s.heap x dx C mA)(hg:plainGet K C name=true)(hh:hasDictIn K C=true)(ha:findIn K (.ref C) name=some none)(hv:mA name=some v)(hv':PySem.W.handedIn v=true)(h:Q v { s with toks:=s.toks+1 }) :
  wpAny (model prog w) A (getAttr (.ref x) name expr) Q E s:=by
 obtain⟨od,J,hl⟩:=I.look
 exact PySem.W.get_value X J (plainGet_of hg).1 (PySem.W.findObj_own hh ha rfl (by rw[hl,hv])) hv' h
theorem zQ8{Q:Value×List Value->Shared->Prop}(X:K.In s.heap)(I:ou s.heap x dx C mA)(hg:plainGet K C name=true)(hf:findIn K (.ref C) name=some (some (.ref f)))(ht:isFn K (.ref f)=true)(hv:mA name=none)(h:Q (.ref f,[.ref x]) s) :
  wpAny (model prog w) A (getMethod (.ref x) name pl) Q E s:=by
 obtain⟨od,J,hl⟩:=I.look
 exact PySem.W.method_fn X J (plainGet_of hg).1 (plainGet_of hg).2 hf (beq_iff_eq.mp ht) (by show(lookIn name od).map (·.isSome)=some false;rw[hl,hv];rfl) h
theorem vd{Q:Unit->Shared->Prop}(X:K.In s.heap)(I:ou s.heap x dx C mA)(hs:findIn K (.ref C) "__setattr__" = some (some (.builtin "object.__setattr__")))(hp:PySem.W.plainOver K C=true)(ht:takerIn K C name=some none)(hh:hasDictIn K C=true)(hw:PySem.Within mA ns)(hsz:ns.length<=sizeLine)(h:∀h',ou h' x dx C (λy=>if y=name then some v else mA y)->SameBut dx s.heap h'->Q () { s with heap:=h',toks:=s.toks+2 }) :
  wpAny (model prog w) A (setAttr (.ref x) name v) Q E s:=by
 obtain⟨od,J,hl⟩:=I.look
 refine PySem.W.set_plain X J hs (PySem.W.osa_open (s:={ s with toks:=s.toks+1 }) (r:=none) X J hp ht λb=>?_)
 obtain⟨cd,hc,hd'⟩:=PySem.W.any_some hh
 have hx:s.heap.get? x=some ⟨.ref C,some dx,.plain,#[]⟩:=I.obj
 refine wpAny_bind (wpAny_pure (wpAny_bind (wpAny_bind (wpAny_loadPart hx (wpAny_bind (PySem.W.Looks.here (s:={ s with toks:=s.toks+1 }) (PySem.W.looks_clsIn X hc) ?_))))))
 rw[hd']
 refine wpAny_pure (a:=some dx) (wpAny_bind (wpAny_pure (wpAny_bind ?_)))
 refine wpAny_nsSet1 (s:={ s with toks:=s.toks+1 }) I.ns λh' hn2 hs2=>?_
 obtain⟨oD,esD,epD,hoD,hdD,hcD⟩:=hn2.count (PySem.Within.cons name v hw)
 refine wpAny_bind (wpAny_lookBehind hoD (by rw[hdD];exact pastItsLine_dict (Nat.le_trans hcD (by rw[length_cons];omega))) ?_)
 exact wpAny_pure (h _ ⟨(hs2.2 _ (Ne.symm I.ne)).trans I.obj,hn2,I.ne⟩ hs2)
theorem zQy(X:K.In s.heap)(hm:PySem.W.makesIn K C=true)(hi:findIn K (.ref C) "__init__" = some (some (.ref f)))(hf:PySem.W.typeIn K (.ref f)=some (.type "function"))(h:codeAny (model prog w) (A.under (.builtin "type.__call__" ⟨.ref C::vs,kw⟩)) (.call (.ref f) ⟨.ref (s.heap.objs.size+1)::vs,kw⟩) (PySem.W.InitBack (s.heap.objs.size+1) R)
   { s with heap:=(s.heap.push emptyDict).push (instObj C s.heap.objs.size) }) :
  codeAny (model prog w) A (.call (.ref C) ⟨vs,kw⟩) R s:=by
 obtain⟨hh,g,d,t,os⟩:=s
 exact PySem.W.make_core (PySem.W.makes_of X hm) (PySem.W.looks_findIn X hi) (λself=>PySem.W.bind_fn X self hf) (.inl rfl) h
end
def au(f:Str)(v:V):List (Str×V)->List (Str×V)
 |[]=>[(f,v)]
 | (g,x)::r=>if g=f then(g,v)::r else(g,x)::au f v r
theorem yF(f g:Str)(v:V):∀fs:List (Str×V),(au f v fs).lookup g=if g=f then some v else fs.lookup g
 |[]=>by
  show List.lookup g [(f,v)]=_
  by_cases h:g=f
  ·have hb:(g==f)=true:=beq_iff_eq.mpr h
   simp only[List.lookup,hb,if_pos h]
  ·have hb:(g==f)=false:=beq_eq_false_iff_ne.mpr h
   simp only[List.lookup,hb,if_neg h]
 | (k,x)::r=>by
  have ih:=yF f g v r
  rw[show au f v ((k,x)::r)=(if k=f then(k,v)::r else(k,x)::au f v r) from rfl]
  by_cases hk:k=f
  ·rw[if_pos hk]
   by_cases h:g=k
   ·have hb:(g==k)=true:=beq_iff_eq.mpr h
    simp only[List.lookup,hb,if_pos (h.trans hk)]
   ·have hb:(g==k)=false:=beq_eq_false_iff_ne.mpr h
    simp only[List.lookup,hb,if_neg (λe:g=f=>h (e.trans hk.symm))]
  ·rw[if_neg hk]
   by_cases h:g=k
   ·have hb:(g==k)=true:=beq_iff_eq.mpr h
    simp only[List.lookup,hb,if_neg (λe:g=f=>hk (h.symm.trans e))]
   ·have hb:(g==k)=false:=beq_eq_false_iff_ne.mpr h
    simp only[List.lookup,hb]
    exact ih
theorem QJ(f:Str)(v:V):∀fs:List (Str×V),f∈(au f v fs).map (·.1)/\∀g,g∈fs.map (·.1)->g∈(au f v fs).map (·.1)
 |[]=>⟨by simp[au],λg h=>by simp at h⟩
 | (k,x)::r=>by
  obtain⟨i1,i2⟩:=QJ f v r
  rw[show au f v ((k,x)::r)=(if k=f then(k,v)::r else(k,x)::au f v r) from rfl]
  by_cases hk:k=f
  ·rw[if_pos hk]
   subst hk
   exact⟨by simp,λg h=>by simpa using h⟩
  ·rw[if_neg hk]
   refine⟨?_,λg h=>?_⟩
   ·rw[map_cons]
    exact mem_cons_of_mem _ i1
   ·rw[map_cons] at h ⊢
    rcases mem_cons.mp h with e|e
    ·exact mem_cons.mpr (.inl e)
    ·exact mem_cons_of_mem _ (i2 g e)
theorem VH(f:Str)(v:V):∀fs:List (Str×V),(au f v fs).length<=fs.length+1
 |[]=>by simp[au]
 | (k,x)::r=>by
  have ih:=VH f v r
  rw[show au f v ((k,x)::r)=(if k=f then(k,v)::r else(k,x)::au f v r) from rfl]
  by_cases hk:k=f
  ·rw[if_pos hk,length_cons,length_cons];omega
  ·rw[if_neg hk,length_cons,length_cons];omega
theorem gQ.some_of(r:gQ (some v) o):∃u,o=some u/\RelV v u:=by
 cases o with
 |none=>exact(show False from r).elim
 |some u=>exact⟨u,rfl,r⟩
theorem gQ.none_of(r:gQ none o):o=none:=by
 cases o with
 |none=>rfl
 |some u=>exact(show False from r).elim
theorem zOm(r:RelV v u):PySem.W.handedIn u=true:=by
 cases v with
 |non=>cases(show u=Value.none from r);rfl
 |bl b=>cases(show u=Value.bool b from r);rfl
 |int i=>obtain⟨t,e⟩:=(show∃t,u=Value.int i t from r);cases e;rfl
 |str x=>obtain⟨t,e⟩:=(show∃t,u=Value.str x t from r);cases e;rfl
 |Dv b=>obtain⟨t,e⟩:=(show∃t,u=Value.bytes b t from r);cases e;rfl
 |flt b=>obtain⟨t,e⟩:=(show∃t,u=Value.float b t from r);cases e;rfl
 |ref a=>cases(show u=Value.ref a from r);rfl
 |ty n=>cases(show u=Value.type n from r);rfl
section
variable{P:Program}{w:World}{H H':Hp}{h h':Heap}{a C dx:Addr}{fs fs':List (Str×V)}
theorem NK(hok:fD P w H h)(e:H a=some (.ins C dx fs)):∃mA,ou h a dx C mA/\(∀f,gQ (fs.lookup f) (mA f))/\PySem.Within mA (fs.map (·.1))/\fs.length<=1000/\H dx=some (.own a):=by
 obtain⟨d,z,ne,ob,mA,n,r,q⟩:=(show aU P w H h a (.ins C dx fs) from hok a _ e)
 exact⟨mA,⟨ob,n,ne⟩,r,q,z,d⟩
end
structure Cls(K:PySem.W.Frag)(C:Addr):Prop where
 pg:plainGet K C Str.empty=true
 hd:hasDictIn K C=true
 po:PySem.W.plainOver K C=true
 sa:findIn K (.ref C) "__setattr__" = some (some (.builtin "object.__setattr__"))
theorem Cls.get{K:PySem.W.Frag}{C:Addr}(c:Cls K C)(f:Str):plainGet K C f=true:=c.pg
def aW(K:PySem.W.Frag)(C:Addr)(f:Str):Prop:=findIn K (.ref C) f=some none
theorem aW.taker{K:PySem.W.Frag}{C:Addr}{f:Str}(n:aW K C f):takerIn K C f=some none:=by
 unfold takerIn
 rw[show findIn K (.ref C) f=some none from n]
 rfl
structure Con(K:PySem.W.Frag)(C:Addr)(f:Str)(v:V)(u:Value):Prop where
 at_:findIn K (.ref C) f=some (some u)
 rel:RelV v u
 get:specialIn K u "__get__" = some none
 cp:PySem.W.copiedNames.contains f=false
structure Meth(K:PySem.W.Frag)(C:Addr)(m:Str)(f:Addr):Prop where
 at_:findIn K (.ref C) m=some (some (.ref f))
 fn:isFn K (.ref f)=true
 kp:keepIn K (.ref f)=true
section
variable{X:Cx}{pins:List (Addr×Obj)}{σ:St}{H:Hp}{s:Shared}{a C dx:Addr}{fs:List (Str×V)}{f:Str}{v:V}{A:Around}{E:Value->Shared->Prop}
theorem zLl{Q:Value->Shared->Prop}(I:Inv X pins σ H s)(e:H a=some (.ins C dx fs))(c:Cls X.K C)(n:aW X.K C f)(l:fs.lookup f=some v)(h:∀u s',Inv X pins σ H s'->RelV v u->Q u s'):wpAny (model X.prog X.w) A (getAttr (.ref a) f b) Q E s:=by
 obtain⟨mA,O,r,_,_,_⟩:=NK I.hok e
 obtain⟨u,hu,ru⟩:=gQ.some_of (v:=v) (o:=mA f) (by rw[<-l];exact r f)
 exact get_map I.jF O (c.get f) c.hd n hu (zOm ru) (h u _ (I.tok _) ru)
theorem VJ{Q:Value×List Value->Shared->Prop}(I:Inv X pins σ H s)(e:H a=some (.ins C dx fs))(c:Cls X.K C)(k:Meth X.K C m g)(l:fs.lookup m=none)(h:Q (.ref g,[.ref a]) s):wpAny (model X.prog X.w) A (getMethod (.ref a) m pl) Q E s:=by
 obtain⟨mA,O,r,_,_,_⟩:=NK I.hok e
 have hn:mA m=none:=gQ.none_of (by rw[<-l];exact r m)
 exact zQ8 I.jF O (c.get m) k.at_ k.fn hn h
theorem zK6{Q:Unit->Shared->Prop}(I:Inv X pins σ H s)(e:H a=some (.ins C dx fs))(c:Cls X.K C)(n:aW X.K C f)(hl:fs.length<1000)(ry:RelV y u)(h:∀s',Inv X pins σ (upd H a (.ins C dx (au f y fs))) s'->Q () s'):wpAny (model X.prog X.w) A (setAttr (.ref a) f u) Q E s:=by
 obtain⟨mA,O,r,wi,_,ho⟩:=NK I.hok e
 have hz:(fs.map (·.1)).length<=sizeLine:=by rw[length_map,sizeLine_eq];omega
 refine vd I.jF O c.sa c.po n.taker c.hd wi hz λh' O' sb=>h _ ?_
 have hd:∃o,h'.get? dx=some o:=let⟨o,_,_,e',_⟩:=O'.ns;⟨o,e'⟩
 refine I.write (x:=a) (e:=dx) (by rw[e];exact True.intro) (.inr ho) (λb q hb z=>(sb.2 b hb).trans z) hd ?_
 refine⟨by rw[zP O.ne];exact ho,?_,O.ne,O'.obj,_,O'.ns,λg=>?_,λg hg=>?_⟩
 ·have:=VH f y fs;omega
 ·show gQ ((au f y fs).lookup g) (if g=f then some u else mA g)
  rw[yF]
  by_cases q:g=f
  ·rw[if_pos q,if_pos q];exact ry
  ·rw[if_neg q,if_neg q];exact r g
 ·by_cases q:g=f
  ·rw[q];exact(QJ f y fs).1
  ·refine(QJ f y fs).2 g (wi g λz=>hg ?_)
   show(if g=f then some u else mA g)=none
   rw[if_neg q];exact z
theorem Inv.made(I:Inv X pins σ H s):Inv X pins σ (upd (upd H s.heap.objs.size (.own (s.heap.objs.size+1))) (s.heap.objs.size+1) (.ins C s.heap.objs.size []))
  { s with heap:=(s.heap.push emptyDict).push (instObj C s.heap.objs.size) }:=by
 have e1:(s.heap.push emptyDict).get? s.heap.objs.size=some emptyDict:=get?_push_size s.heap rfl
 have e2:((s.heap.push emptyDict).push (instObj C s.heap.objs.size)).get? (s.heap.objs.size+1)=some (instObj C s.heap.objs.size):=by
  have:=get?_push_size (s.heap.push emptyDict) (o:=instObj C s.heap.objs.size) rfl
  rwa [size_push] at this
 have e3:(s.heap.push emptyDict).Ns s.heap.objs.size (λ_=>none):=⟨emptyDict,#[],_,e1,rfl,(λe he=>absurd he (by simp)),λ_=>rfl⟩
 have I1:=I.laid (a:=s.heap.objs.size) (o:=.own (s.heap.objs.size+1)) (h':=s.heap.push emptyDict) (t':=s.toks) (λb u q=>get?_push_of_some _ q) (Nat.le_refl _) ⟨_,e1⟩
 refine I1.laid (a:=s.heap.objs.size+1) (o:=.ins C s.heap.objs.size []) (t':=s.toks) (λb u q=>get?_push_of_some _ q) (Nat.le_of_eq (size_push _ _)) ?_
 have ne:s.heap.objs.size≠s.heap.objs.size+1:=Nat.ne_of_lt (Nat.lt_succ_self _)
 refine⟨by rw[zP ne,zR],Nat.zero_le _,ne,e2,λ_=>none,(Heap.Ns1.of_empty e3).at λo q=>get?_push_of_some _ q,λ_=>True.intro,λy hy=>absurd rfl hy⟩
theorem vf(hb:attributeBase e f env (eval e env)=eval e env)(h:wpAny (model prog w) A (eval e env) (λo s₁=>wpAny (model prog w) A (getAttr o f true) Q E s₁) E s):wpAny (model prog w) A (eval (.Attribute e f pos) env) Q E s :=
 Attribute_any_ h (by rw[arm_eval_Attribute,hb])
end
def pX(K:PySem.W.Frag)(ta:TE)(f:Str):TE:=λσ H Q=>ta σ H λx H1=>∃a C dx fs v,x=.ref a/\H1 a=some (.ins C dx fs)/\Cls K C/\aW K C f/\fs.lookup f=some v/\Q v H1
def QK(K:PySem.W.Frag)(ta tv:TE)(f:Str):TS:=λD σ H=>tv σ H λy H1=>ta σ H1 λx H2=>∃a C dx fs,x=.ref a/\H2 a=some (.ins C dx fs)/\Cls K C/\aW K C f/\fs.length<1000 /\
 D.nx σ (upd H2 a (.ins C dx (au f y fs)))
section
variable{X:Cx}{o e value:Expr}{f:Str}{pos pos' tpos:Pos}{ta tv:TE}
theorem VL(he:PE X e ta)(hb:attributeBase e f X.env (eval e X.env)=eval e X.env):PE X (.Attribute e f pos) (pX X.K ta f):=by
 intro pins s σ H Q I h
 refine vf hb (aO (he pins s σ H _ I h) λu s1 ⟨x,H1,I1,rx,a,C,dx,fs,v,ex,ea,c,n,l,q⟩=>?_)
 subst ex
 obtain rfl:u=Value.ref a:=rx
 exact zLl I1 ea c n l λu' s2 I2 ru=>⟨v,H1,I2,ru,q⟩
theorem NP(ha:PE X o ta)(hv:PE X value tv)(hs:swapsWith value (some (.Attribute o f pos')) pos.line X.env=pure false):PS X (.Assign [.Attribute o f pos'] value pos) (QK X.K ta tv f):=by
 intro pins s σ H D I h
 refine plainObj_wpAny_Assign_Attribute (aO (hv pins s σ H _ I h) λu s1 ⟨y,H1,I1,ry,q⟩=>aO (ha pins s1 σ H1 _ I1 q) λov s2 ⟨x,H2,I2,rx,a,C,dx,fs,ex,ea,c,n,l,q2⟩=>?_) hs
 subst ex
 obtain rfl:ov=Value.ref a:=rx
 exact zK6 I2 ea c n l ry λs3 I3=>⟨σ,_,I3,q2⟩
end
section
variable{X:Cx}{pins:List (Addr×Obj)}{σ:St}{H:Hp}{s:Shared}{A:Around}{E:Value->Shared->Prop}{Q:Value->Shared->Prop}{c:Value}{b:Bool}
inductive iI(K:PySem.W.Frag)(H:Hp):V->Value->Prop where
 |non:iI K H .non (.type "NoneType")
 |bl (x:Bool):iI K H (.bl x) (.type "bool")
 |int (i:Int):iI K H (.int i) (.type "int")
 |str (x:Str):iI K H (.str x) (.type "str")
 |flt (x:UInt64):iI K H (.flt x) (.type "float")
 |lst {a:Addr} {xs:List V} (e:H a=some (.lst xs)):iI K H (.ref a) (.type "list")
 |pI {a:Addr} {o:Obj} {xs:List V} (e:H a=some (.pI o (.lst xs))):iI K H (.ref a) (.type "list")
 |tup {a:Addr} {xs:List V} (e:H a=some (.tup xs)):iI K H (.ref a) (.type "tuple")
 |dK {a:Addr} {kvs:List (Key×V)} (e:H a=some (.dK kvs)):iI K H (.ref a) (.type "dict")
 |dT {a:Addr} {kvs:List (List Key×V)} (e:H a=some (.dT kvs)):iI K H (.ref a) (.type "dict")
 |ins {a C dx:Addr} {fs:List (Str×V)} (e:H a=some (.ins C dx fs)) (cl:Cls K C) (ha:findIn K (.ref C) "__class__" = some (some (.builtin "object.__class__")))
   (hn:specialIn K (.builtin "object.__class__") "__get__" = some (some (.builtin "getset_descriptor.__get__"))) (htk:PySem.W.takesIn K (.builtin "object.__class__")=some true)
   (hm:PySem.W.mroIn K C (.type "object")=some true):iI K H (.ref a) (.ref C)
theorem zOg(I:Inv X pins σ H s)(rx:RelV x u)(ty:iI X.K H x t)(e:kitOne X.K t c=some b)(h:∀tk,Q (.bool b) { s with toks:=tk }) :
  wpAny (model X.prog X.w) A (call (.builtin "isinstance") [u,c]) Q E s:=by
 cases ty with
 |non=>cases(show u=Value.none from rx);exact kia_one PySem.W.kitx_none I.jF True.intro e (λz=>nomatch z) h
 |bl y=>cases(show u=Value.bool y from rx);exact kia_one PySem.W.kitx_bool I.jF True.intro e (λz=>nomatch z) h
 |int i=>obtain⟨t,q⟩:=(show∃t,u=Value.int i t from rx);cases q;exact kia_one PySem.W.kitx_int I.jF True.intro e (λz=>nomatch z) h
 |str y=>obtain⟨t,q⟩:=(show∃t,u=Value.str y t from rx);cases q;exact kia_one PySem.W.kitx_str I.jF True.intro e (λz=>nomatch z) h
 |flt y=>obtain⟨t,q⟩:=(show∃t,u=Value.float y t from rx);cases q;exact kia_one PySem.W.kitx_float I.jF True.intro e (λz=>nomatch z) h
 |@lst a xs ea =>
  cases(show u=Value.ref a from rx)
  obtain⟨_,_,n,_,h1⟩:=(show aU X.prog X.w H s.heap a (.lst xs) from I.hok a _ ea)
  exact kia_one PySem.W.kitx_list I.jF ⟨_,h1,rfl⟩ e (λz=>nomatch z) h
 |@pI a ob xs ea =>
  cases(show u=Value.ref a from rx)
  obtain⟨_,_,_,n,_,h1⟩:=(show aU X.prog X.w H s.heap a (.pI ob (.lst xs)) from I.hok a _ ea)
  exact kia_one PySem.W.kitx_list I.jF ⟨_,h1,rfl⟩ e (λz=>nomatch z) h
 |@tup a xs ea =>
  cases(show u=Value.ref a from rx)
  obtain⟨_,_,_,p⟩:=(show aU X.prog X.w H s.heap a (.tup xs) from I.hok a _ ea)
  obtain⟨o,h1,h2,_⟩:=p
  exact kia_one PySem.W.kitx_tuple I.jF ⟨o,h1,h2⟩ e (λz=>nomatch z) h
 |@dK a kvs ea =>
  cases(show u=Value.ref a from rx)
  obtain⟨_,_,vs,_,p⟩:=(show aU X.prog X.w H s.heap a (.dK kvs) from I.hok a _ ea)
  obtain⟨o,es,ep,h1,h2,_⟩:=p
  exact kia_one PySem.W.kitx_dict I.jF ⟨o,h1,h2.1⟩ e (λz=>nomatch z) h
 |@dT a kvs ea =>
  cases(show u=Value.ref a from rx)
  obtain⟨_,_,xs,_,o,es,ep,h1,h2,_⟩:=(show aU X.prog X.w H s.heap a (.dT kvs) from I.hok a _ ea)
  exact kia_one PySem.W.kitx_dict I.jF ⟨o,h1,h2.1⟩ e (λz=>nomatch z) h
 |@ins a C dx fs ea cl ha hn htk hm =>
  cases(show u=Value.ref a from rx)
  obtain⟨mA,O,_⟩:=NK I.hok ea
  obtain⟨od,J,_⟩:=O.look
  exact kia_one (PySem.W.kitx_own (cl.get _) cl.hd ha hn htk hm) I.jF J e (λz=>nomatch z) h
end
structure bI(k:Nat)(A:Around):Prop where
 hd:A.handled=none
 dp:A.depth+3*k+5<recursionLimit
 un:A.units+16*k+200<cLine
theorem bI.mono(r:bI k A)(h:j<=k):bI j A:=⟨r.hd,by have:=r.dp;omega,by have:=r.un;omega⟩
theorem bI.deeper(r:bI (k+1) A)(env:Env):bI k (A.deeper env) :=
 ⟨r.hd,by have:=r.dp;show A.depth+1+3*k+5<_;omega,by have:=r.un;show A.units+3+16*k+200<_;omega⟩
theorem zLi{A:Around}:(A.under (.builtin "type.__call__" ⟨.ref C::us,kw⟩)).depth=A.depth+1:=by
 first|rfl|simp[Around.under,Code.weight,Code.isCreation,Code.isGuard,Code.isCaller,Code.frames,Code.isFrame,guardIds]
theorem zLh{A:Around}:(A.under (.builtin "type.__call__" ⟨.ref C::us,kw⟩)).units=A.units+1:=by
 first|rfl|simp[Around.under,Code.cUnits,Code.frames,Code.isFrame]
theorem bI.make(r:bI (k+1) A)(C:Addr)(us:List Value)(kw:List (Str×Value)):bI k (A.under (.builtin "type.__call__" ⟨.ref C::us,kw⟩)) :=
 ⟨r.hd,by have:=r.dp;rw[zLi];omega,by have:=r.un;rw[zLh];omega⟩
theorem bI.depth(r:bI k A):A.depth<recursionLimit:=by have:=r.dp;omega
theorem bI.units(r:bI k A):A.units+64<cLine:=by have:=r.un;omega
def bD:TA:=λ_ H Q=>Q [] H
def xQ(ta:TE)(tr:TA):TA:=λσ H Q=>ta σ H λx H1=>tr σ H1 λxs H2=>Q (x::xs) H2
section
variable{X:Cx}{e:Expr}{es:List Expr}{te:TE}{t:TA}{pos:Pos}
theorem zD:PA X [] bD:=λ_ _ _ _ H Q I h=>Calls.spliced_nil ⟨[],H,I,.nil,h⟩
theorem zA(ha:PE X e te)(hr:PA X es t)(hs:starEach (e::es) X.env=(false,eval e X.env)::starEach es X.env:=by rfl):PA X (e::es) (xQ te t):=by
 intro pos pins s σ H Q I h
 rw[hs]
 show wpAny _ _ (spliced ((false,eval e X.env)::backTo pos (starEach es X.env))) _ _ s
 refine Calls.spliced_cons (aO (ha pins s σ H _ I h) λu s1 ⟨x,H1,I1,r1,q1⟩=>?_)
 exact aO (hr pos pins s1 σ H1 _ I1 q1) λus s2 ⟨xs,H2,I2,r2,q2⟩=>⟨x::xs,H2,I2,.cons r1 r2,q2⟩
def Eh(t:TA):TE:=λσ H Q=>t σ H λxs H1=>xs.length<=sizeLine/\∀p,H1 p=none->Q (.ref p) (upd H1 p (.tup xs))
def rJ(t:TA):TE:=λσ H Q=>t σ H λxs H1=>xs.length<=sizeLine/\∀p,H1 p=none->Q (.ref p) (upd H1 p (.lst xs))
theorem vV{x1}(h:PA X es t):PE X (.Tuple es x1 pos) (Eh t):=by
 intro pins s σ H Q I hq
 refine wpAny_Tuple_spliced (aO (h pos pins s σ H _ I hq) λus s1 ⟨xs,H1,I1,r,z,q⟩=>⟨by rw[<-r.length];exact z,?_⟩)
 have hf:H1 s1.heap.objs.size=none:=I1.hok.fresh (Nat.le_refl _)
 refine⟨.ref s1.heap.objs.size,upd H1 s1.heap.objs.size (.tup xs),I1.laid (t':=s1.toks) (λb u e=>get?_push_of_some _ e) (Nat.le_refl _) ?_,rfl,q _ hf⟩
 exact⟨z,us,r,⟨_,get?_push_size _ rfl,rfl,_,rfl⟩⟩
theorem xT(h:PA X es t):PE X (.List es pos) (rJ t):=by
 intro pins s σ H Q I hq
 refine wpAny_List_spliced (aO (h pos pins s σ H _ I hq) λus s1 ⟨xs,H1,I1,r,z,q⟩=>⟨by rw[<-r.length];exact z,?_⟩)
 have hf:H1 s1.heap.objs.size=none:=I1.hok.fresh (Nat.le_refl _)
 refine⟨.ref s1.heap.objs.size,upd H1 s1.heap.objs.size (.lst xs),I1.laid (t':=s1.toks) (λb u e=>get?_push_of_some _ e) (Nat.le_refl _) ?_,rfl,q _ hf⟩
 exact⟨z,us,0,r,get?_push_size _ rfl⟩
end
abbrev Sp:=List V->Hp->VK->XK->Prop
abbrev pY:=List Env->Hp->Shared->XK->Value->Shared->Prop
structure oA(P:Program)(w:World)(K:PySem.W.Frag)(mg:Str->Option Value)(base:Heap)(A:Around)(outer:List Env)(s:Shared)(H:Hp):Prop where
 frames:A.frames=some outer
 mod:Mod K mg base
 bs:∀b o,base.get? b=some o->s.heap.get? b=some o/\H b=none
 ur:base.objs.size<=s.heap.objs.size
 jE:s.heap.FunFrames base outer
 Dz:∀b∈frs outer,H b=none
 hok:fD P w H s.heap
 bare:AllBare s.gens
def CE(outer:List Env)(P:Program)(w:World)(H:Hp)(s:Shared)(Q:VK)(u:Value)(s':Shared):Prop :=
 ∃v H',s'.os=s.os/\AllBare s'.gens/\Un (frs outer) [] H H' s.heap s'.heap/\fD P w H' s'.heap/\RelV v u/\Q v H'
def CR(CX:pY)(outer:List Env)(P:Program)(w:World)(H:Hp)(s:Shared)(Q:VK)(E:XK)(r:Result)(s':Shared):Prop :=
 match r with
 |.ok (.ret u)=>CE outer P w H s Q u s'
 |.ok _=>False
 |.error e=>CX outer H s E e s'
structure aB(P:Program)(w:World)(K:PySem.W.Frag)(mg:Str->Option Value)(base:Heap)(CX:pY)(k:Nat)(f:Addr)(fd:FuncData)(ps:List Str)(sp:Sp):Prop where
 len:∀vs H Q E,sp vs H Q E->vs.length=ps.length
 run:∀(A:Around)(outer:List Env)(s:Shared)(H:Hp)(args:Args)(us:List Value)(vs:List V)(Q:VK)(E:XK),bI k A->oA P w K mg base A outer s H->BindsTo s fd args (ps.zip us)->Vals vs us->sp vs H Q E ->
  codeAny (model P w) A (.call (.ref f) args) (CR CX outer P w H s Q E) s
theorem aB.mono{P:Program}{w:World}{K:PySem.W.Frag}{mg:Str->Option Value}{base:Heap}{CX:pY}{j k:Nat}{f:Addr}{fd:FuncData}{ps:List Str}{sp:Sp}(F:aB P w K mg base CX j f fd ps sp)(h:j<=k) :
  aB P w K mg base CX k f fd ps sp:=⟨F.len,λA outer s H args us vs Q E hr=>F.run A outer s H args us vs Q E (hr.mono h)⟩
theorem aB.imp{P:Program}{w:World}{K:PySem.W.Frag}{mg:Str->Option Value}{base:Heap}{CX:pY}{k:Nat}{f:Addr}{fd:FuncData}{ps:List Str}{sp VN:Sp}(F:aB P w K mg base CX k f fd ps sp)(h:∀vs H Q E,VN vs H Q E->sp vs H Q E):aB P w K mg base CX k f fd ps VN :=
 ⟨λvs H Q E q=>F.len vs H Q E (h _ _ _ _ q),λA outer s H args us vs Q E hr he hb hv hs=>F.run A outer s H args us vs Q E hr he hb hv (h _ _ _ _ hs)⟩
theorem oA.make{P:Program}{w:World}{K:PySem.W.Frag}{mg:Str->Option Value}{base:Heap}{A:Around}{outer:List Env}{s:Shared}{H:Hp}(e:oA P w K mg base A outer s H)(C:Addr)(us:List Value)(kw:List (Str×Value)) :
  oA P w K mg base (A.under (.builtin "type.__call__" ⟨.ref C::us,kw⟩)) outer s H:=⟨by first|exact e.frames|(simpa[Around.under,Code.envs,Code.isFrame,pushEnvs] using e.frames),e.mod,e.bs,e.ur,e.jE,e.Dz,e.hok,e.bare⟩
section
variable{X:Cx}{pins:List (Addr×Obj)}{σ:St}{H:Hp}{s s':Shared}
theorem Inv.env0(I:Inv X pins σ H s):oA X.prog X.w X.K X.mg X.base X.A X.stack s H :=
 ⟨I.ok.frames,I.ok.mod,I.bs,Nat.le_trans I.ok.ur I.sz,I.stack,I.pJ,I.hok,I.bare⟩
theorem Inv.after(I:Inv X pins σ H s)(h:CE X.stack X.prog X.w H s Q u s'):EP X pins σ Q u s':=by
 obtain⟨v,H',os,bare,un,hok,r,q⟩:=h
 obtain⟨hh,g,d,t,os'⟩:=s'
 obtain rfl:os'=s.os:=os
 exact⟨v,H',I.call (h':=hh) (g':=g) (d':=d) (t':=t) (ch:=[]) un hok bare (λb z=>absurd z (by simp)),r,q⟩
end
def rK(sp:Sp)(kY:List V)(E:XK)(t:TA):TE:=λσ H Q=>t σ H λvs H1=>sp (vs++kY) H1 Q E
def JN(C:Addr)(m:Str)(sp:Sp)(kY:List V)(E:XK)(ta:TE)(t:TA):TE:=λσ H Q=>ta σ H λx H1=>∃a dx fs,x=.ref a/\H1 a=some (.ins C dx fs)/\fs.lookup m=none /\
 t σ H1 λvs H2=>sp (x::(vs++kY)) H2 Q E
def BP(C:Addr)(sp:Sp)(kY:List V)(E:XK)(t:TA):TE:=λσ H Q=>t σ H λvs H1=>∀x dx,H1 x=none->H1 dx=none->dx≠x ->
 sp (.ref x::(vs++kY)) (upd (upd H1 dx (.own x)) x (.ins C dx [])) (λv H2=>v=.non/\Q (.ref x) H2) E
def Binds(K:PySem.W.Frag)(fd:FuncData)(ps:List Str)(ds:List Value):Prop :=
 ∀(s:Shared)(us:List Value),K.In s.heap->(us++ds).length=ps.length->BindsTo s fd ⟨us,[]⟩ (ps.zip (us++ds))
theorem Binds.all{K:PySem.W.Frag}{fd:FuncData}{ps:List Str}(h:∀us:List Value,us.length=ps.length->bindArgs fd ⟨us,[]⟩=pure (ps.zip us)):Binds K fd ps []:=λs us _ hl=>by
 rw[append_nil] at hl ⊢
 exact .of_eq (h us hl)
def Ej(CX:pY)(X:Cx)(E:XK):Prop:=∀(pins:List (Addr×Obj))(σ:St)(H:Hp)(s:Shared)(e:Value)(s':Shared),Inv X pins σ H s->CX X.stack H s E e s'->X.xe e s'
section
variable{X:Cx}{CX:pY}{k:Nat}{f C:Addr}{fd:FuncData}{ps:List Str}{sp:Sp}{kY:List V}{ds:List Value}{E:XK}{x m:Str}{p pos apos:Pos}{e o:Expr}{es:List Expr}{ta:TE}{t:TA}
theorem QL(F:aB X.prog X.w X.K X.mg X.base CX k f fd ps sp)(hr:bI k X.A)(hb:Binds X.K fd ps ds)(hd:Vals kY ds)(hx:Ej CX X E)(I:Inv X pins σ H s)(r:Vals vs us)(h:sp (vs++kY) H Q E):wpAny (model X.prog X.w) X.A (call (.ref f) us) (EP X pins σ Q) X.xe s:=by
 have r2:Vals (vs++kY) (us++ds):=r.append hd
 have hl:(us++ds).length=ps.length:=by rw[<-r2.length];exact F.len _ _ _ _ h
 refine wpAny_call (codeAny_mono (F.run X.A X.stack s H ⟨us,[]⟩ (us++ds) (vs++kY) Q E hr I.env0 (hb s us I.jF hl) r2 h) λr s' hq=>?_)
 cases r with
 |error e=>exact hx pins σ H s e s' I hq
 |ok fl =>
  cases fl with
  |ret u=>exact I.after hq
  |next=>exact False.elim hq
  |brk=>exact False.elim hq
  |cont=>exact False.elim hq
theorem vg(F:aB X.prog X.w X.K X.mg X.base CX k f fd ps sp)(hr:bI k X.A)(hg:Gl X x)(hm:X.mg x=some (.ref f))(hk:keepIn X.K (.ref f)=true)(hb:Binds X.K fd ps ds)(hd:Vals kY ds)(hx:Ej CX X E)(ha:PA X (e::es) t)(hdb:(x==("__debug__":Str))=false:=by decide)(he:starEach (e::es) X.env=(false,eval e X.env)::starEach es X.env:=by rfl)(hpl:(backTo pos (starEach es X.env)).any (·.1)=false:=by rfl) :
  PE X (.Call (.Name x p) (e::es) [] pos) (rK sp kY E t):=by
 intro pins s σ H Q I h
 refine wpAny_Call_Name_kw (Qp I hg hm ?_ hdb)
 refine callWith_K (h₀:=X.base) I.ok.mod.Jy hk (aO (ha pos pins s σ H _ I h) λus s1 ⟨vs,H1,I1,r,q⟩=>⟨I1.jF,?_⟩) he hpl
 exact QL F hr hb hd hx I1 r q
theorem vh(he:PE X o ta)(c:Cls X.K C)(hm:Meth X.K C m f)(F:aB X.prog X.w X.K X.mg X.base CX k f fd ps sp)(hr:bI k X.A)(hb:Binds X.K fd ps ds)(hd:Vals kY ds)(hx:Ej CX X E)(ha:PA X (e::es) t)(hst:starEach (e::es) X.env=(false,eval e X.env)::starEach es X.env:=by rfl)(hpl:(backTo pos (starEach es X.env)).any (·.1)=false:=by rfl)(ht:eval (.Call (.Attribute o m apos) (e::es) [] pos) X.env=(do
   let ov <-eval o X.env
   standAt apos.atName
   let(f,first) <-holding [ov] (getMethod ov m pl)
   callWith pos f first (backTo pos (starEach (e::es) X.env)) (backToKw pos (keywordEach [] X.env))):=by rfl) :
  PE X (.Call (.Attribute o m apos) (e::es) [] pos) (JN C m sp kY E ta t):=by
 intro pins s σ H Q I h
 refine PySem.W.methodCall_KW (pl:=pl) (aO (he pins s σ H _ I h) λu s1 ⟨x,H1,I1,rx,a,dx,fs,ex,ea,l,q⟩=>?_) ht
 subst ex
 obtain rfl:u=Value.ref a:=rx
 refine VJ I1 ea c hm l ?_
 refine callWith_K (first:=[.ref a]) (h₀:=X.base) I.ok.mod.Jy hm.kp (aO (ha pos pins s1 σ H1 _ I1 q) λus s2 ⟨vs,H2,I2,r,q2⟩=>⟨I2.jF,?_⟩) hst hpl
 exact QL (us:=.ref a::us) (vs:=.ref a::vs) F hr hb hd hx I2 (.cons rfl r) q2
theorem zQl(he:PE X o ta)(c:Cls X.K C)(hm:Meth X.K C m f)(F:aB X.prog X.w X.K X.mg X.base CX k f fd ps sp)(hr:bI k X.A)(hb:Binds X.K fd ps ds)(hd:Vals kY ds)(hx:Ej CX X E)(ht:eval (.Call (.Attribute o m apos) [] [] pos) X.env=(do
   let ov <-eval o X.env
   standAt apos.atName
   let(f,first) <-holding [ov] (getMethod ov m pl)
   callWith pos f first (backTo pos (starEach [] X.env)) (backToKw pos (keywordEach [] X.env))):=by rfl) :
  PE X (.Call (.Attribute o m apos) [] [] pos) (JN C m sp kY E ta bD):=by
 intro pins s σ H Q I h
 refine PySem.W.methodCall_KW (pl:=pl) (aO (he pins s σ H _ I h) λu s1 ⟨x,H1,I1,rx,a,dx,fs,ex,ea,l,q⟩=>?_) ht
 subst ex
 obtain rfl:u=Value.ref a:=rx
 refine VJ I1 ea c hm l ?_
 exact PySem.W.callWith_K0 (first:=[.ref a]) I1.jF hm.kp (QL (us:=[.ref a]) (vs:=[.ref a]) F hr hb hd hx I1 (.cons rfl .nil) q)
structure Mk(K:PySem.W.Frag)(C f:Addr):Prop where
 makes:PySem.W.makesIn K C=true
 init:findIn K (.ref C) "__init__" = some (some (.ref f))
 fn:isFn K (.ref f)=true
 kp:keepIn K (.ref C)=true
theorem zQc(M:Mk X.K C f)(F:aB X.prog X.w X.K X.mg X.base CX k f fd ps sp)(hr:bI (k+1) X.A)(hb:Binds X.K fd ps ds)(hd:Vals kY ds)(hx:Ej CX X E)(I:Inv X pins σ H s)(r:Vals vs us)(h:∀x dx,H x=none->H dx=none->dx≠x->sp (.ref x::(vs++kY)) (upd (upd H dx (.own x)) x (.ins C dx [])) (λv H2=>v=.non/\Q (.ref x) H2) E) :
  wpAny (model X.prog X.w) X.A (call (.ref C) us) (EP X pins σ Q) X.xe s:=by
 have hq:=h (s.heap.objs.size+1) s.heap.objs.size (I.hok.fresh (Nat.le_succ _)) (I.hok.fresh (Nat.le_refl _)) (Nat.ne_of_lt (Nat.lt_succ_self _))
 have I2:=Inv.made (C:=C) I
 have r2:Vals (V.ref (s.heap.objs.size+1)::(vs++kY)) (Value.ref (s.heap.objs.size+1)::(us++ds)):=.cons rfl (r.append hd)
 have hl:(Value.ref (s.heap.objs.size+1)::us++ds).length=ps.length:=by
  have e:=r2.length
  rw[F.len _ _ _ _ hq] at e
  exact e.symm
 refine wpAny_call (zQy (f:=f) I.jF M.makes M.init (beq_iff_eq.mp M.fn) (codeAny_mono (F.run _ X.stack _ _ ⟨Value.ref (s.heap.objs.size+1)::us,[]⟩ (Value.ref (s.heap.objs.size+1)::(us++ds)) _ _ E (hr.make C us [])
  (I2.env0.make C us []) (hb _ (Value.ref (s.heap.objs.size+1)::us) I2.jF hl) r2 hq) λr s' hq'=>?_))
 cases r with
 |error e=>exact hx pins σ _ _ e s' I2 hq'
 |ok fl =>
  cases fl with
  |ret u =>
   obtain⟨v,H',I3,rv,ev,q3⟩:=I2.after hq'
   subst ev
   exact⟨rv,⟨V.ref (s.heap.objs.size+1),H',I3,rfl,q3⟩⟩
  |next=>exact False.elim hq'
  |brk=>exact False.elim hq'
  |cont=>exact False.elim hq'
theorem VP(M:Mk X.K C f)(F:aB X.prog X.w X.K X.mg X.base CX k f fd ps sp)(hr:bI (k+1) X.A)(hg:Gl X x)(hm:X.mg x=some (.ref C))(hb:Binds X.K fd ps ds)(hd:Vals kY ds)(hx:Ej CX X E)(ha:PA X (e::es) t)(hdb:(x==("__debug__":Str))=false:=by decide)(he:starEach (e::es) X.env=(false,eval e X.env)::starEach es X.env:=by rfl)(hpl:(backTo pos (starEach es X.env)).any (·.1)=false:=by rfl) :
  PE X (.Call (.Name x p) (e::es) [] pos) (BP C sp kY E t):=by
 intro pins s σ H Q I h
 refine wpAny_Call_Name_kw (Qp I hg hm ?_ hdb)
 refine callWith_K (h₀:=X.base) I.ok.mod.Jy M.kp (aO (ha pos pins s σ H _ I h) λus s1 ⟨vs,H1,I1,r,q⟩=>⟨I1.jF,?_⟩) he hpl
 exact zQc M F hr hb hd hx I1 r q
end
section
variable{X:Cx}{CX:pY}{k:Nat}{f C:Addr}{fd:FuncData}{ps ks:List Str}{sp:Sp}{E:XK}{x m:Str}{p pos apos kpos:Pos}{e o:Expr}{es:List Expr}{kws:List Keyword}{te ta:TE}{t tk:TA}{nm:Option Str}
structure QM(K:PySem.W.Frag)(fd:FuncData)(ps ks:List Str)(g:List Value->List Value->List Value)(gV:List V->List V->List V):Prop where
 to:∀(s:Shared)(us ws:List Value),K.In s.heap->(g us ws).length=ps.length->BindsTo s fd ⟨us,ks.zip ws⟩ (ps.zip (g us ws))
 rel:∀{vs:List V}{us:List Value}{zs:List V}{ws:List Value},Vals vs us->Vals zs ws->Vals (gV vs zs) (g us ws)
variable{g:List Value->List Value->List Value}{gV:List V->List V->List V}
end
structure ao(N P:List Str)(sc:Scope):Prop where
 kind:sc.kind=.function
 co:sc.isCoroutine=false
 gen:sc.isGenerator=false
 nd:N.Nodup
 pre:N.take P.length=P
 par:∀x∈P,sc.names.lookup x=some .local\/sc.names.lookup x=some .cell
 Ek:∀y∈sc.names,y.2≠.free
theorem VR{kindOf:Str->Option NameKind}{x:Str}:∀{binds:List (Str×Value)}{m:Str->Option Value},(∀v,(x,v)∉binds)->bindL kindOf binds m x=m x
 |[],_,_=>rfl
 | (n,v)::r,m,h=>by
  unfold bindL
  rw[VR λw hw=>h w (mem_cons_of_mem _ hw)]
  split
  ·have:x≠n:=by rintro rfl;exact h v mem_cons_self
   simp[this]
  ·rfl
theorem V0{kindOf:Str->Option NameKind}{x:Str}:∀{binds:List (Str×Value)}{m:Str->Option Value},(∀v,(x,v)∉binds)->bindC kindOf binds m x=m x
 |[],_,_=>rfl
 | (n,v)::r,m,h=>by
  unfold bindC
  rw[V0 λw hw=>h w (mem_cons_of_mem _ hw)]
  split
  ·rfl
  ·have:x≠n:=by rintro rfl;exact h v mem_cons_self
   simp[this]
theorem V1{kindOf:Str->Option NameKind}:∀{P:List Str}{vs:List Value}{i:Nat}{m:Str->Option Value},P.Nodup->P[i]?=some x->vs[i]?=some v->kindOf x=some .local ->
  bindL kindOf (P.zip vs) m x=some v
 |[],_,_,_,_,h,_,_=>by simp at h
 |_::_,[],_,_,_,_,h,_=>by simp at h
 |p::P,w::vs,0,m,nd,h1,h2,hk=>by
  simp at h1 h2;subst h1;subst h2
  show bindL kindOf ((p,w)::P.zip vs) m p=_
  unfold bindL
  rw[VR λv hv=>(nodup_cons.mp nd).1 (of_mem_zip hv).1,if_pos hk]
  simp
 |p::P,w::vs,i+1,m,nd,h1,h2,hk=>by
  show bindL kindOf ((p,w)::P.zip vs) m x=_
  unfold bindL
  exact V1 (i:=i) (nodup_cons.mp nd).2 (by simpa using h1) (by simpa using h2) hk
theorem V2{kindOf:Str->Option NameKind}:∀{P:List Str}{vs:List Value}{i:Nat}{m:Str->Option Value},P.Nodup->P[i]?=some x->vs[i]?=some v->kindOf x≠some .local ->
  bindC kindOf (P.zip vs) m x=some v
 |[],_,_,_,_,h,_,_=>by simp at h
 |_::_,[],_,_,_,_,h,_=>by simp at h
 |p::P,w::vs,0,m,nd,h1,h2,hk=>by
  simp at h1 h2;subst h1;subst h2
  show bindC kindOf ((p,w)::P.zip vs) m p=_
  unfold bindC
  rw[V0 λv hv=>(nodup_cons.mp nd).1 (of_mem_zip hv).1,if_neg hk]
  simp
 |p::P,w::vs,i+1,m,nd,h1,h2,hk=>by
  show bindC kindOf ((p,w)::P.zip vs) m x=_
  unfold bindC
  exact V2 (i:=i) (nodup_cons.mp nd).2 (by simpa using h1) (by simpa using h2) hk
def start(N:List Str)(vs:List V):St:=vs.map some++replicate (N.length-vs.length) none
def lY(CX:pY)(P:Program)(w:World)(K:PySem.W.Frag)(mg:Str->Option Value)(base:Heap)(N:List Str)(qual:Str)(scope:Scope)(f:Addr)(cd:Value)(A:Around)(outer:List Env)(s:Shared)(H:Hp)(E:XK):Cx where
 prog:=P
 w:=w
 K:=K
 mg:=mg
 base:=base
 A:=A.deeper (envOfC qual scope s.heap.objs.size f cd)
 N:=N
 s₀:=s
 H₀:=H
 env:=envOfC qual scope s.heap.objs.size f cd
 outer:=outer
 stack:=envOfC qual scope s.heap.objs.size f cd::outer
 ex:=[]
 calm:=true
 fn:=λ_=>true
 pn:=[]
 xe:=λe s'=>wpAny (model P w) (A.deeper (envOfC qual scope s.heap.objs.size f cd)) (leaving (envOfC qual scope s.heap.objs.size f cd) e) (λ_ s''=>CX outer H s E e s'') (λe' s''=>CX outer H s E e' s'') s'
theorem V3{sc:Scope}(h:sc.names.lookup x=some .cell):∃c,(cellsFrom n sc.names []).lookup x=some c:=by
 have q:=cellsFrom_some sc.names n [] (.inl h)
 exact Option.isSome_iff_exists.mp q
theorem zOi{CX:pY}{P:Program}{w:World}{K:PySem.W.Frag}{mg:Str->Option Value}{base:Heap}{N ps:List Str}{qual:Str}{scope:Scope}{f:Addr}{cd:Value}{A:Around}{outer:List Env}{s s1:Shared}{H:Hp}{E:XK}{us:List Value}{vs:List V}(S:ao N ps scope)(hd:A.handled=none)(e0:oA P w K mg base A outer s H)(hl:vs.length=ps.length)(r:Vals vs us)(x:InCallC s s.heap.objs.size (bindL (envOfC qual scope s.heap.objs.size f cd).kindOf (ps.zip us) λ_=>none) (cellsFrom (s.heap.objs.size+1) scope.names []) (bindC (envOfC qual scope s.heap.objs.size f cd).kindOf (ps.zip us) λ_=>none) s1) :
  Inv (lY CX P w K mg base N qual scope f cd A outer s H E) [] (start N vs) H s1:=by
 have hpl:ps.length<=N.length:=by have:=congrArg length S.pre;rw[length_take] at this;omega
 obtain⟨h1,tk,rfl,hk⟩:=x.done
 have JQ:∀b:Addr,b∉(lY CX P w K mg base N qual scope f cd A outer s H E).ex:=λb z=>absurd (show b∈([]:List Addr) from z) (by simp)
 refine⟨⟨e0.mod,S.kind,rfl,rfl,Nat.le_refl _,λy z c h1 h2=>?_,λy hy=>?_,λy c _ h=>?_,λ_=>hd,Around.frames_deeper e0.frames,.inr ⟨rfl,rfl⟩,λb z=>absurd z (JQ b),e0.bs,e0.ur,λb _ _=>JQ b,λb z=>absurd z (JQ b),e0.jE,e0.Dz⟩,
  rfl,e0.bare,Un.kept hk,⟨_,x.toInCall.ns,λi y v h1 h2 h3=>?_⟩,λy c h=>⟨_,x.cell y c h⟩,e0.hok.fresh (Nat.le_refl _),λy c h=>?_,λp hp=>absurd (show p∈([]:List (Addr×Obj)) from hp) (by simp),e0.hok.kept hk,?_⟩
 ·exact name_of_addr x.apart (PySem.mem_of_lookup h1) (PySem.mem_of_lookup h2)
 ·have hy:scope.names.lookup y=some .cell\/scope.names.lookup y=some .free:=hy
  rcases hy with hy|hy
  ·exact V3 hy
  ·exact absurd rfl (S.Ek _ (PySem.mem_of_lookup hy))
 ·exact Nat.le_of_lt (x.above y c (PySem.mem_of_lookup h))
 ·have hi:i<vs.length:=by
   unfold start at h2
   by_cases hi:i<vs.length
   ·exact hi
   ·rw[getElem?_append_right (by simpa using hi)] at h2
    rw[getElem?_replicate] at h2
    split at h2<;>cases h2
  have ha:vs[i]?=some v:=by
   unfold start at h2
   rw[getElem?_append_left (by simpa using hi),getElem?_map] at h2
   cases e:vs[i]? with
   |none=>rw[e] at h2;cases h2
   |some a=>rw[e] at h2;cases h2;rfl
  obtain⟨u,hu,rv⟩:=r.get ha
  have hp:ps[i]?=some y:=by
   rw[<-S.pre,getElem?_take_of_lt (by omega)];exact h1
  have V4:ps.Nodup:=by rw[<-S.pre];exact S.nd.sublist (List.take_sublist _ _)
  refine⟨u,rv,?_⟩
  rcases S.par y (mem_of_getElem? hp) with k|k
  ·exact .inl ⟨k,V1 V4 hp hu k⟩
  ·obtain⟨c,e⟩:=V3 (n:=s.heap.objs.size+1) k
   refine .inr ⟨.inl k,c,e,?_⟩
   have q:=x.cell y c e
   rw[V2 V4 hp hu (by show scope.names.lookup y≠_;rw[k];decide)] at q
   exact q
 ·exact e0.hok.fresh (Nat.le_of_lt (x.above y c (PySem.mem_of_lookup h)))
 ·unfold start
  show _=N.length
  rw[length_append,length_map,List.length_replicate]
  omega
theorem BR{CX:pY}{P:Program}{w:World}{K:PySem.W.Frag}{mg:Str->Option Value}{base:Heap}{k:Nat}{f:Addr}{name qual:Str}{params:Arguments}{body:List Stmt}{scope:Scope}{dV kV doc pm cdv ct oc:Value}{an od:Option Addr}{osl:Array (Option Value)}{N ps:List Str}{sp:Sp}(lk:K.lookup f=some ⟨oc,od,.func (fnOf name qual params body scope dV kV doc pm an cdv ct),osl⟩)(hcd:codeIn K cdv qual=true)(S:ao N ps scope)(len:∀vs H Q E,sp vs H Q E->vs.length=ps.length)(hbody:∀(A:Around) (outer:List Env) (s:Shared) (H:Hp) (vs:List V) (Q:VK) (E:XK),bI k (A.deeper (envOfC qual scope s.heap.objs.size f cdv))->sp vs H Q E ->
   ∃t,mY (lY CX P w K mg base N qual scope f cdv A outer s H E) body t/\t { nx:=λ_ H'=>Q .non H',rt:=Q } (start N vs) H) :
  aB P w K mg base CX (k+1) f (fnOf name qual params body scope dV kV doc pm an cdv ct) ps sp:=by
 refine⟨len,λA outer s H args us vs Q E hr e0 hb r hsp=>?_⟩
 have hl:=len _ _ _ _ hsp
 have KX:K.In s.heap:=e0.mod.Jy.keeps λb o e=>(e0.bs b o e).1
 have lim:s.heap.NoLimit:=e0.mod.nolimit.keeps λb o e=>(e0.bs b o e).1
 have hkind:∀y∈ps.zip us,scope.names.lookup y.1=some .local\/(scope.names.lookup y.1=some .cell/\((cellsFrom (s.heap.objs.size+1) scope.names []).lookup y.1).isSome=true):=λ⟨n,v⟩ hy=>by
  rcases S.par n (of_mem_zip hy).1 with q|q
  ·exact .inl q
  ·exact .inr ⟨q,cellsFrom_some _ _ _ (.inl q)⟩
 refine codeAny_call_function hr.depth (KX _ _ lk) rfl S.co S.gen rfl (PySem.W.codeRec_of KX hcd) (hb _ _ _ _ ?_)
 refine wpAny_newFunctionEnv_cells S.kind hkind λenv he s1 x=>?_
 subst he
 refine⟨lim.keeps x.toInCall.keep,codeAny_func ?_⟩
 obtain⟨t,ht,hq⟩:=hbody A outer s H vs Q E (hr.deeper _) hsp
 have I:Inv (lY CX P w K mg base N qual scope f cdv A outer s H E) [] (start N vs) H s1:=zOi S hr.hd e0 hl r x
 refine wpAny_mono (ht [] s1 (start N vs) H _ I hq) (λfl s' hs=>?_) λe s' hs=>hs
 have fin:∀{σ':St}{H':Hp}{v:V}{u:Value},Inv (lY CX P w K mg base N qual scope f cdv A outer s H E) [] σ' H' s'->RelV v u->Q v H'->CE outer P w H s Q u s' :=
  λ{σ' H' v u} J rv q=>⟨v,H',J.os,J.bare,J.base,J.hok,rv,q⟩
 cases fl with
 |ret u =>
  obtain⟨v,σ',H',J,rv,q⟩:=hs
  exact fin J rv q
 |next =>
  obtain⟨σ',H',J,q⟩:=hs
  exact fin (v:=V.non) (u:=Value.none) J rfl q
 |brk =>
  obtain⟨_,_,_,q⟩:=hs
  exact False.elim q
 |cont =>
  obtain⟨_,_,_,q⟩:=hs
  exact False.elim q
section
variable{X:Cx}{x:Str}{p pos:Pos}{e:Expr}{es:List Expr}{t:TA}{id T:String}{r:List V->Hp->VK->Prop}
def pN(r:List V->Hp->VK->Prop)(t:TA):TE:=λσ H Q=>t σ H λvs H1=>r vs H1 Q
theorem zT(hc:lX X (.builtin id) r)(hg:Gl X x)(hm:X.mg x=none)(hv:bootBuiltins x=some (.builtin id))(ha:PA X (e::es) t)(hn:x ≠ "__name__":=by decide)(hdb:(x==("__debug__":Str))=false:=by decide)(he:starEach (e::es) X.env=(false,eval e X.env)::starEach es X.env:=by rfl)(hpl:(backTo pos (starEach es X.env)).any (·.1)=false:=by rfl):PE X (.Call (.Name x p) (e::es) [] pos) (pN r t):=by
 intro pins s σ H Q I h
 refine wpAny_Call_Name_kw (rB I hg hm hv ?_ hn hdb)
 exact PyProof.Rows.callWith_builtin1 (aO (ha pos pins s σ H _ I h) λus s1 ⟨vs,H1,I1,r1,q1⟩=>hc pins s1 σ H1 vs us Q I1 r1 q1) he hpl
theorem wR(hc:lX X (.type T) r)(hg:Gl X x)(hm:X.mg x=none)(hv:bootBuiltins x=some (.type T))(ha:PA X (e::es) t)(hn:x ≠ "__name__":=by decide)(hdb:(x==("__debug__":Str))=false:=by decide)(he:starEach (e::es) X.env=(false,eval e X.env)::starEach es X.env:=by rfl)(hpl:(backTo pos (starEach es X.env)).any (·.1)=false:=by rfl):PE X (.Call (.Name x p) (e::es) [] pos) (pN r t):=by
 intro pins s σ H Q I h
 refine wpAny_Call_Name_kw (rB I hg hm hv ?_ hn hdb)
 exact PyProof.Rows.callWith_type1 (aO (ha pos pins s σ H _ I h) λus s1 ⟨vs,H1,I1,r1,q1⟩=>hc pins s1 σ H1 vs us Q I1 r1 q1) he hpl
end
section
variable{κ:Type}[DecidableEq κ]
def gR(kvs:List (κ×V))(k:κ):Option V:=(kvs.find? λkv=>decide (kv.1=k)).map (·.2)
def putK(kvs:List (κ×V))(k:κ)(v:V):List (κ×V) :=
 if(kvs.any λkv=>decide (kv.1=k))=true then kvs.map (λkv=>if kv.1=k then(kv.1,v) else kv) else kvs++[(k,v)]
theorem QS{p:κ×V}{r:List (κ×V)}{k:κ}(e:p.1=k):gR (p::r) k=some p.2:=by simp[gR,find?_cons,e]
theorem QT{p:κ×V}{r:List (κ×V)}{k:κ}(e:¬p.1=k):gR (p::r) k=gR r k:=by simp[gR,find?_cons,e]
theorem V5(k:κ):∀kvs:List (κ×V),(kvs.any λkv=>decide (kv.1=k))=(gR kvs k).isSome
 |[]=>rfl
 |p::r=>by
  rw[any_cons]
  by_cases e:p.1=k
  ·simp only[QS e,decide_eq_true e,Bool.true_or,Option.isSome_some]
  ·rw[QT e,decide_eq_false e,Bool.false_or];exact V5 k r
theorem V6(kvs:List (κ×V))(k:κ)(v:V):(putK kvs k v).length<=kvs.length+1:=by
 unfold putK
 split
 ·rw[length_map];omega
 ·rw[length_append,length_cons,length_nil];omega
theorem gQ.jm(r:gQ o u):o.isSome=u.isSome:=by
 cases o with
 |none=>cases u with
  |none=>rfl
  |some _=>exact(show False from r).elim
 |some _=>cases u with
  |none=>exact(show False from r).elim
  |some _=>rfl
theorem gQ.getD(r:gQ o u)(rd:RelV d d'):RelV (o.getD d) (u.getD d'):=by
 cases o with
 |none=>cases u with
  |none=>exact rd
  |some _=>exact(show False from r).elim
 |some _=>cases u with
  |none=>exact(show False from r).elim
  |some _=>exact r
theorem KV.val(r:KV kvs vs)(k:κ):gQ (gR kvs k) (valueAt vs k):=by
 unfold KV at r
 induction r with
 |nil=>exact True.intro
 |@cons p q ps qs h t ih =>
  obtain⟨h1,h2⟩:=h
  by_cases e:p.1=k
  ·have e':q.1=k:=h1.symm.trans e
   have b:valueAt (q::qs) k=some q.2:=by simp[valueAt,find?_cons,e']
   rw[QS e,b];exact h2
  ·have e':¬q.1=k:=λz=>e (h1.trans z)
   have b:valueAt (q::qs) k=valueAt qs k:=by simp[valueAt,find?_cons,e']
   rw[QT e,b];exact ih
theorem KV.any(r:KV kvs vs)(k:κ):(kvs.any λkv=>decide (kv.1=k))=vs.any λkv=>decide (kv.1=k):=by
 unfold KV at r
 induction r with
 |nil=>rfl
 |cons h t ih=>rw[any_cons,any_cons,ih,h.1]
theorem KV.repl(r:KV kvs vs)(k:κ)(ry:RelV y u) :
  KV (kvs.map λkv=>if kv.1=k then(kv.1,y) else kv) (vs.map λkv=>if kv.1=k then(kv.1,u) else kv):=by
 unfold KV at r ⊢
 induction r with
 |nil=>exact .nil
 |@cons p q ps qs h t ih =>
  rw[map_cons,map_cons]
  refine .cons ?_ ih
  obtain⟨h1,h2⟩:=h
  by_cases e:p.1=k
  ·rw[if_pos e,if_pos (h1.symm.trans e)];exact⟨h1,ry⟩
  ·rw[if_neg e,if_neg (λz=>e (h1.trans z))];exact⟨h1,h2⟩
theorem KV.put(r:KV kvs vs)(k:κ)(ry:RelV y u):KV (putK kvs k y) (stored vs k u):=by
 unfold putK stored
 rw[r.any k]
 by_cases e:(vs.any λkv=>decide (kv.1=k))=true
 ·rw[if_pos e,if_pos e];exact r.repl k ry
 ·rw[if_neg e,if_neg e];exact Paired.snoc r ⟨rfl,ry⟩
theorem KV.length(r:KV kvs vs):kvs.length=vs.length:=Paired.length r
end
theorem NQ(r:RelV (kV k) u):(wM P w).is k u=true:=by
 cases k with
 |inl i=>obtain⟨t,e⟩:=(show∃t,u=Value.int i t from r);subst e;exact zIp P w i t
 |inr x=>obtain⟨t,e⟩:=(show∃t,u=Value.str x t from r);subst e;exact zIo P w x t
theorem V7:∀{ks:List Key}{us:List Value},Vals (ks.map kV) us->ItemsAre (wM P w) ks us
 |[],_,r=>by rw[map_nil] at r;cases r;exact .nil
 |k::ks,_,r=>by
  rw[map_cons] at r
  cases r with
  |cons h t=>exact .cons (NQ h) (V7 t)
abbrev KT(H:Hp):List (List Key×V)->List (List Key×Addr×Value)->Prop:=Paired λp q=>p.1=q.1/\H q.2.1=some (.tup (p.1.map kV))/\RelV p.2 q.2.2
theorem KT.val(r:KT H kvs xs)(k:List Key):gQ (gR kvs k) ((atKey xs k).map (·.2)):=by
 induction r with
 |nil=>exact True.intro
 |@cons p q ps qs h t ih =>
  obtain⟨h1,_,h2⟩:=h
  by_cases e:p.1=k
  ·have e':q.1=k:=h1.symm.trans e
   have b:atKey (q::qs) k=some q.2:=by simp[atKey,find?_cons,e']
   rw[QS e,b];exact h2
  ·have e':¬q.1=k:=λz=>e (h1.trans z)
   have b:atKey (q::qs) k=atKey qs k:=by simp[atKey,find?_cons,e']
   rw[QT e,b];exact ih
theorem KT.repl(r:KT H kvs xs)(k:List Key)(ry:RelV y u) :
  KT H (kvs.map λkv=>if kv.1=k then(kv.1,y) else kv) (xs.map (putAt k u)):=by
 induction r with
 |nil=>exact .nil
 |@cons p q ps qs h t ih =>
  rw[map_cons,map_cons]
  refine .cons ?_ ih
  obtain⟨h1,h2,h3⟩:=h
  unfold putAt
  by_cases e:p.1=k
  ·rw[if_pos e,if_pos (h1.symm.trans e)];exact⟨h1,h2,ry⟩
  ·rw[if_neg e,if_neg (λz=>e (h1.trans z))];exact⟨h1,h2,h3⟩
theorem KT.put(r:KT H kvs xs)(k:List Key)(hb:H b=some (.tup (k.map kV)))(ry:RelV y u) :
  KT H (putK kvs k y) (storedH xs k b u):=by
 have e:(kvs.any λkv=>decide (kv.1=k))=(atKey xs k).isSome:=by
  rw[V5,(r.val k).jm,Option.isSome_map]
 unfold putK storedH
 rw[e]
 by_cases q:(atKey xs k).isSome=true
 ·rw[if_pos q,if_pos q];exact r.repl k ry
 ·rw[if_neg q,if_neg q];exact Paired.snoc r ⟨rfl,hb,ry⟩
theorem KT.keeps(r:KT H kvs xs)(ht:∀b ys,H b=some (.tup ys)->H' b=some (.tup ys)):KT H' kvs xs :=
 Paired.Dy r λ_ _ z=>⟨z.1,ht _ _ z.2.1,z.2.2⟩
section
variable{P:Program}{w:World}{H:Hp}{h:Heap}{a:Addr}
theorem BW(ok:fD P w H h)(e:Rd H a u):aU P w H h a u:=e.ok ok
theorem BX(ok:fD P w H h)(e:Rd H a (.dK kvs)):kvs.length<=sizeLine/\(a==sysModules)=false/\∃vs,KV kvs vs/\h.DictOf (wM P w) a vs :=
 show aU P w H h a (.dK kvs) from BW ok e
theorem JR(ok:fD P w H h)(e:H a=some (.dK kvs)):kvs.length<=sizeLine/\(a==sysModules)=false/\∃vs,KV kvs vs/\h.DictOf (wM P w) a vs:=BX ok (.inl e)
theorem NT{ks:List Key}(ok:fD P w H h)(e:H a=some (.tup (ks.map kV))):(tupleKind (wM P w)).is h ks a:=by
 obtain⟨_,its,r,o,h1,h2,n,h3⟩:=(show aU P w H h a (.tup (ks.map kV)) from ok a _ e)
 exact⟨o,its.toArray,n,h1,h2,h3,by simpa using V7 r⟩
theorem BZ(ok:fD P w H h)(e:Rd H a (.dT kvs)):kvs.length<=sizeLine/\(a==sysModules)=false /\
  ∃xs,KT H kvs xs/\h.DictOfH (tupleKind (wM P w)) a xs:=by
 obtain⟨z,y,xs,r,o,es,ep,h1,h2,h3,h4,h5⟩:=(show aU P w H h a (.dT kvs) from BW ok e)
 refine⟨z,y,xs,r,o,es,ep,h1,h2,h3,h4,λx hx=>?_,h5⟩
 have all:∀{l:List (List Key×V)}{m:List (List Key×Addr×Value)},KT H l m->∀x∈m,(tupleKind (wM P w)).is h x.1 x.2.1:=by
  intro l m q
  induction q with
  |nil=>intro x hx;exact nomatch hx
  |@cons p q ps qs hq t ih =>
   intro x hx
   rcases mem_cons.mp hx with e|hx
   ·subst e
    exact NT ok (by rw[<-hq.1];exact hq.2.1)
   ·exact ih x hx
 exact all r x hx
theorem JT(ok:fD P w H h)(e:H a=some (.dT kvs)):kvs.length<=sizeLine/\(a==sysModules)=false /\
  ∃xs,KT H kvs xs/\h.DictOfH (tupleKind (wM P w)) a xs:=BZ ok (.inl e)
end
def pZ(H:Hp)(a:Addr)(y:V)(r:Option V):Prop :=
 (∃kvs k,Rd H a (.dK kvs)/\y=kV k/\r=gR kvs k)\/∃kvs k b,Rd H a (.dT kvs)/\y=.ref b/\H b=some (.tup (k.map kV))/\r=gR kvs k
def p7(H:Hp)(a:Addr)(y v:V)(H':Hp):Prop :=
 (∃kvs k,H a=some (.dK kvs)/\y=kV k/\kvs.length<sizeLine/\H'=upd H a (.dK (putK kvs k v))) \/
 ∃kvs k b,H a=some (.dT kvs)/\y=.ref b/\H b=some (.tup (k.map kV))/\kvs.length<sizeLine/\H'=upd H a (.dT (putK kvs k v))
theorem pZ.k{H:Hp}{a:Addr}{kvs:List (Key×V)}{k:Key}(e:H a=some (.dK kvs)):pZ H a (kV k) (gR kvs k):=.inl ⟨kvs,k,.inl e,rfl,rfl⟩
theorem p7.k{H:Hp}{a:Addr}{kvs:List (Key×V)}{k:Key}{v:V}(e:H a=some (.dK kvs))(hl:kvs.length<sizeLine):p7 H a (kV k) v (upd H a (.dK (putK kvs k v))):=.inl ⟨kvs,k,e,rfl,hl,rfl⟩
section
variable{X:Cx}{pins:List (Addr×Obj)}{σ:St}{H:Hp}{s:Shared}{a:Addr}{y v:V}{u r:Value}{o:Option V}{A:Around}{E:Value->Shared->Prop}
theorem Inv.big(I:Inv X pins σ H s):sysModules<s.heap.objs.size:=by
 have h:mainGlobals<s.heap.objs.size:=(I.mod.glob.keeps I.bk).lt
 exact Nat.lt_trans (by decide) h
theorem QV{Q:Value->Shared->Prop}(hu:A.units+1<cLine)(I:Inv X pins σ H s)(g:pZ H a y o)(ry:RelV y u)(h:∀s',Inv X pins σ H s'->Q (.bool o.isSome) s') :
  wpAny (model X.prog X.w) A (compareOp .In u (.ref a)) Q E s:=by
 rcases g with⟨kvs,k,e,ey,l⟩|⟨kvs,k,b,e,ey,eb,l⟩
 ·subst ey
  obtain⟨z,hd,vs,rel,dd⟩:=BX I.hok e
  refine wpAny_in_of (NQ ry) hd dd.mapOf ?_
  rw[<-(rel.val k).jm,<-l]
  exact h _ (I.tok _)
 ·subst ey
  cases(show u=Value.ref b from ry)
  obtain⟨z,hd,xs,rel,dd⟩:=BZ I.hok e
  refine wpAny_in_heap (tupleKind_room_in1 hu) (NT I.hok eb) hd dd ?_
  have q:=(rel.val k).jm
  rw[Option.isSome_map] at q
  rw[<-q,<-l]
  exact h _ (I.tok _)
theorem QW(I:Inv X pins σ H s)(mu:Jw (H a))(hs:SameBut a s.heap h')(he:∃q,h'.get? a=some q)(new:aU X.prog X.w (upd H a ob) h' a ob) :
  Inv X pins σ (upd H a ob) { s with heap:=h',toks:=t' } :=
 I.write (x:=a) (e:=a) mu (.inl rfl) (λb q hb z=>(hs.2 b hb).trans z) he new
theorem Em{h':Heap}{kvs:List (Key×V)}(z:kvs.length<=sizeLine)(hd:(a==sysModules)=false)(rel:KV kvs vs)(dd:h'.DictOf (wM P w) a vs) :
  aU P w H' h' a (.dK kvs):=⟨z,hd,vs,rel,dd⟩
theorem zPg{Q:Unit->Shared->Prop}(hu:A.units+1<cLine)(I:Inv X pins σ H s)(g:p7 H a y v H')(ry:RelV y u)(rv:RelV v r)(h:∀s',Inv X pins σ H' s'->Q () s') :
  wpAny (model X.prog X.w) A (setItem (.ref a) u r) Q E s:=by
 rcases g with⟨kvs,k,e,ey,l,eH⟩|⟨kvs,k,b,e,ey,eb,l,eH⟩
 ·subst ey eH
  obtain⟨z,hd,vs,rel,dd⟩:=JR I.hok e
  have hz:vs.length<=sizeLine:=by rw[<-rel.length];exact z
  have hl:(putK kvs k v).length<=sizeLine:=by have:=V6 kvs k v;omega
  refine wpAny_setItem_pairs (hsz:=hz) (NQ ry) dd λh' Io hs=>h _ ?_
  have he:∃q,h'.get? a=some q:=let⟨q,_,_,hq,_⟩:=Io;⟨q,hq⟩
  exact QW I (by rw[e];exact True.intro) hs he (Em hl hd (rel.put k rv) Io)
 ·subst ey eH
  cases(show u=Value.ref b from ry)
  obtain⟨z,hd,xs,rel,dd⟩:=JT I.hok e
  have hz:xs.length<=sizeLine:=by rw[<-Paired.length rel];exact z
  have hl:(putK kvs k v).length<=sizeLine:=by have:=V6 kvs k v;omega
  refine wpAny_setItem_heap (hsz:=hz) (tupleKind_room_in1 hu) (NT I.hok eb) dd λh' Io hs=>h _ ?_
  obtain⟨q,es,ep,hq,h2,h3,h4,_,h5⟩:=Io
  refine QW I (by rw[e];exact True.intro) hs ⟨q,hq⟩ ⟨hl,hd,_,(rel.put k eb rv).keeps λc ys ec=>?_,q,es,ep,hq,h2,h3,h4,h5⟩
  rw[zP (Jv ec e (λz=>nomatch z))]
  exact ec
end
section
variable{X:Cx}{pins:List (Addr×Obj)}{σ:St}{H:Hp}{s:Shared}{a:Addr}{kvs:List (Key×V)}{k:Key}{u:Value}{A:Around}{E:Value->Shared->Prop}
end
def JV(i:Expr):Prop:=∀ov iv,subscripted i false ov iv=operate [ov,iv] (getItem ov iv)
theorem vm{prog:Program}{w:World}{A:Around}{E:Value->Shared->Prop}{s:Shared}{env:Env}{value slice:Expr}{pos:Pos}{T id:String}{Q:Value->Shared->Prop}(hl:typeLookup (.type T) "__getitem__" = pure (some (.builtin id)))(hs:JV slice)(h:wpAny (model prog w) A (eval value env) (λo s₁=>wpAny (model prog w) A (eval slice env) (λi s₂=>s₂.TypeIs o T/\wpAny (model prog w) A (getItem o i) Q E s₂) E s₁) E s) :
  wpAny (model prog w) A (eval (.Subscript value slice pos) env) Q E s:=by
 refine Subscript_ (wpAny_mono h (λo s₁ h₁=>wpAny_mono h₁ (λi s₂ h₂=>?_) λ_ _ x=>x) λ_ _ x=>x)
 obtain⟨hT,h₂⟩:=h₂
 unfold subscriptTail
 refine wpAny_bind ?_
 rw[getitemInPython_of_ne hT.not_modules]
 refine wpAny_bind (wpAny_specialOf hT hl ?_)
 have fin:wpAny (model prog w) A (subscripted slice false o i) (λr s₃=>wpAny (model prog w) A (letTemporaryGo value o r >>= λ_=>pure r) Q E s₃) E s₂:=by
  rw[hs o i]
  exact wpAny_operating (wpAny_mono h₂ (λr s₃ h₃=>wpAny_bind (wpAny_letTemporaryGo (wpAny_pure h₃))) λ_ _ x=>x)
 first
  |exact wpAny_pure (wpAny_bind fin)
  |exact wpAny_bind (wpAny_pure (wpAny_bind fin))
  |exact wpAny_bind fin
def Ep(ty td:TE):TE:=λσ H Q=>ty σ H λy H1=>td σ H1 λx H2=>∃a o,x=.ref a/\pZ H2 a y o/\Q (.bl o.isSome) H2
def rN(td ty tv:TE):TS:=λD σ H=>tv σ H λv H1=>td σ H1 λx H2=>ty σ H2 λy H3=>∃a H4,x=.ref a/\p7 H3 a y v H4/\D.nx σ H4
section
variable{X:Cx}{o i e value:Expr}{pos pos' tpos:Pos}{td ty tv:TE}
theorem V8(hu:X.A.units+1<cLine)(hi:PE X i ty)(ho:PE X o td):PC X .In i o (Ep ty td):=by
 intro pins s σ H Q I h
 refine aO (hi pins s σ H _ I h) λiv s1 ⟨y,H1,I1,ry,q1⟩=>aO (ho pins s1 σ H1 _ I1 q1) λu s2 ⟨x,H2,I2,rx,a,ov,ex,g,q2⟩=>?_
 subst ex
 obtain rfl:u=Value.ref a:=rx
 exact QV hu I2 g ry λs3 I3=>⟨.bl ov.isSome,H2,I3,rfl,q2⟩
theorem V9(hu:X.A.units+1<cLine)(ho:PE X o td)(hi:PE X i ty)(hv:PE X value tv)(hs:swapsWith value (some (.Subscript o i pos')) pos.line X.env=pure false) :
  PS X (.Assign [.Subscript o i pos'] value pos) (rN td ty tv):=by
 intro pins s σ H D I h
 refine wpAny_Assign_Subscript (aO (hv pins s σ H _ I h) λr s1 ⟨v,H1,I1,rv,q1⟩=>aO (ho pins s1 σ H1 _ I1 q1) λu s2 ⟨x,H2,I2,rx,q2⟩=>aO (hi pins s2 σ H2 _ I2 q2) λiv s3 ⟨y,H3,I3,ry,a,H4,ex,g,q3⟩=>?_) hs
 subst ex
 obtain rfl:u=Value.ref a:=rx
 exact zPg hu I3 g ry rv λs4 I4=>⟨σ,H4,I4,q3⟩
end
theorem V_(h:Heap)(hb:sysModules<h.objs.size):aU P w H (h.push { cls:=.type "dict",data:=.dict #[] }) h.objs.size (.dK []) :=
 ⟨Nat.zero_le _,beq_eq_false_iff_ne.mpr (Ne.symm (Nat.ne_of_lt hb)),[],.nil,Heap.DictOf.new h⟩
def Wa:TE:=λ_ H Q=>∀p,H p=none->Q (.ref p) (upd H p (.dK []))
section
variable{X:Cx}{pos:Pos}
theorem Wb:PE X (.Dict [] [] pos) Wa:=λpins s σ H Q I h =>
 wpAny_Dict_empty ⟨.ref s.heap.objs.size,_,I.laid (a:=s.heap.objs.size) (o:=.dK []) (t':=s.toks) (λ_ _ q=>get?_push_of_some _ q) (Nat.le_refl _) (V_ s.heap I.big),rfl,h _ (I.hok.fresh (Nat.le_refl _))⟩
end
structure M1(X:Cx)(o:Expr)(m:Str)(apos:Pos)(e:Expr)(cpos:Pos):Prop where
 base:attributeBase o m X.env (eval o X.env)=eval o X.env
 few:((backTo cpos (starEach [e] X.env)).all (λx=>!x.1)&&(backToKw cpos (keywordEach [] X.env)).all (λx=>x.1.isSome)
  && decide (([e]:List Expr).length+([]:List Keyword).length+(if([]:List Keyword).isEmpty then 0 else 1)<30))=true
 line:(apos.endLine==cpos.line)=true
 trees:backTo cpos (starEach [e] X.env)=[(false,eval e X.env)]
structure M2(X:Cx)(o:Expr)(m:Str)(apos:Pos)(e f:Expr)(cpos:Pos):Prop where
 base:attributeBase o m X.env (eval o X.env)=eval o X.env
 few:((backTo cpos (starEach [e,f] X.env)).all (λx=>!x.1)&&(backToKw cpos (keywordEach [] X.env)).all (λx=>x.1.isSome)
  && decide (([e,f]:List Expr).length+([]:List Keyword).length+(if([]:List Keyword).isEmpty then 0 else 1)<30))=true
 line:(apos.endLine==cpos.line)=true
 trees:backTo cpos (starEach [e,f] X.env)=[(false,eval e X.env),(false,eval f X.env)]
section
variable{X:Cx}{pins:List (Addr×Obj)}{σ:St}{H:Hp}{s:Shared}{a:Addr}{y d:V}{u r:Value}{o:Option V}{A:Around}{E:Value->Shared->Prop}
end
section
variable{X:Cx}{o e f:Expr}{apos cpos:Pos}{td ty tx:TE}
end
section
variable{X:Cx}{pins:List (Addr×Obj)}{σ:St}{H:Hp}{s:Shared}{a:Addr}{kvs:List (Key×V)}{A:Around}{E:Value->Shared->Prop}
end
section
variable{X:Cx}{pins:List (Addr×Obj)}{σ:St}{H:Hp}{s:Shared}{a:Addr}{y:V}{u:Value}{A:Around}{E:Value->Shared->Prop}
end
end L2
namespace HT
open PySem PyProof.Rows
section
open PySem.SeqAt
open PySem.AutoSeq1 (wpAny_loadPart')
open PySem.MeetsSeq PySem.MeetsSeq2 PySem.MeetsSeq3
end
section
variable{prog:Program}{w:World}{A:Around}{E:Value->Shared->Prop}{s:Shared}
end
end HT
namespace L2
open PySem PySem.Spec PyProof.Rows
abbrev TO:=St->Hp->(Option Int->Hp->Prop)->Prop
def PO(X:Cx)(e:Option Expr)(t:TO):Prop :=
 ∀(pins:List (Addr×Obj))(s:Shared)(σ:St)(H:Hp)(Q:Option Int->Hp->Prop),Inv X pins σ H s->t σ H Q ->
  wpAny (model X.prog X.w) X.A (evalPart e X.env) (λu s'=>∃o H',Inv X pins σ H' s'/\IsPart u o/\Q o H') X.xe s
def Wc:TO:=λ_ H Q=>Q none H
def B_(t:TE):TO:=λσ H Q=>t σ H λx H1=>∃i,x=.int i/\Q (some i) H1
section
variable{X:Cx}{e:Expr}{te:TE}{lo hi:Option Expr}{tl th:TO}{pos p2:Pos}
theorem vo:PO X none Wc:=by
 intro pins s σ H Q I h
 rw[evalPart_none]
 exact wpAny_pure ⟨none,H,I,.none,h⟩
theorem vp(h:PE X e te):PO X (some e) (B_ te):=by
 intro pins s σ H Q I hw
 rw[evalPart_some]
 refine aO (h pins s σ H _ I hw) λu s1 ⟨x,H1,I1,r1,q1⟩=>?_
 obtain⟨i,rfl,q⟩:=q1
 obtain⟨t,rfl⟩:=r1
 exact⟨some i,H1,I1,.int i t,q⟩
def Wd(X:Cx)(r:V->Option Int->Option Int->Hp->VK->Prop):Prop :=
 ∀(pins:List (Addr×Obj))(s:Shared)(σ:St)(H:Hp)(x:V)(v vl vu:Value)(lo hi:Option Int)(sl:Addr)(Q:VK),Inv X pins σ H s->RelV x v->s.heap.IsSliceOf sl vl vu .none->IsPart vl lo->IsPart vu hi->r x lo hi H Q ->
  ∃T id,typeLookup (.type T) "__getitem__" = pure (some (.builtin id))/\s.TypeIs v T/\wpAny (model X.prog X.w) X.A (getItem v (.ref sl)) (EP X pins σ Q) X.xe s
def Wf(r:V->Option Int->Option Int->Hp->VK->Prop)(te:TE)(tl th:TO):TE:=λσ H Q=>te σ H λx H1=>tl σ H1 λl H2=>th σ H2 λu H3=>r x l u H3 Q
theorem zQj(hr:Wd X r)(he:PE X e te)(hl:PO X lo tl)(hu:PO X hi th):PE X (.Subscript e (.Slice lo hi none p2) pos) (Wf r te tl th):=by
 intro pins s σ H Q I h
 refine Subscript_ (aO (he pins s σ H _ I h) λv s1 ⟨x,H1,I1,r1,q1⟩=>?_)
 refine wpAny_Slice (aO (hl pins s1 σ H1 _ I1 q1) λvl s2 ⟨l,H2,I2,pl,q2⟩=>aO (hu pins s2 σ H2 _ I2 q2) λvu s3 ⟨u,H3,I3,pu,q3⟩=>?_)
 rw[evalPart_none]
 refine wpAny_pure ?_
 have I4:Inv X pins σ H3 { s3 with heap:=s3.heap.push { cls:=.type "slice",data:=.fields #[vl,vu,.none] } }:=I3.kept (t':=s3.toks) λb ob q=>get?_push_of_some _ q
 obtain⟨T,id,hT,ht,hg⟩:=hr pins { s3 with heap:=s3.heap.push { cls:=.type "slice",data:=.fields #[vl,vu,.none] } } σ H3 x v vl vu l u s3.heap.objs.size Q I4 r1 (Heap.IsSliceOf.new ..) pl pu q3
 show wpAny (model X.prog X.w) X.A (subscriptTail e (.Slice lo hi none p2) v (.ref s3.heap.objs.size)) (EP X pins σ Q) X.xe { s3 with heap:=s3.heap.push { cls:=.type "slice",data:=.fields #[vl,vu,.none] } }
 exact tail_any (ops:=[.ref s3.heap.objs.size,v]) ht hT hg (by with_unfolding_all rfl)
end
def rO(n:Nat)(i:Int):Option Nat:=if 0<=i then(if i<n then some i.toNat else none) else if -(n:Int)<=i then some (i+n).toNat else none
def aV{α:Type}(xs:List α)(i:Int):Option α:=(rO xs.length i).bind λj=>xs[j]?
theorem vq(h:rO n i=some j):seqIndex? i n=some j/\j<n /\ -(n:Int)<=i/\i<n:=by
 unfold rO at h
 by_cases h0:0<=i
 ·rw[if_pos h0] at h
  by_cases h1:i<n
  ·rw[if_pos h1] at h
   have e:i.toNat=j:=Option.some.inj h
   exact⟨by rw[seqIndex_of h0 h1,e],by omega,by omega,h1⟩
  ·rw[if_neg h1] at h;cases h
 ·rw[if_neg h0] at h
  by_cases h1:-(n:Int)<=i
  ·rw[if_pos h1] at h
   have e:(i+n).toNat=j:=Option.some.inj h
   exact⟨by rw[seqIndex_neg (by omega) h1,e],by omega,h1,by omega⟩
  ·rw[if_neg h1] at h;cases h
theorem v7{α:Type}{xs:List α}{v:α}(h:aV xs i=some v):∃j,seqIndex? i xs.length=some j/\xs[j]?=some v/\j<xs.length /\ -(xs.length:Int)<=i/\i<xs.length:=by
 unfold aV at h
 cases e:rO xs.length i with
 |none=>rw[e] at h;cases h
 |some j =>
  rw[e] at h
  obtain⟨h1,h2,h3,h4⟩:=vq e
  exact⟨j,h1,h,h2,h3,h4⟩
theorem Wg{α:Type}{xs:List α}{j:Nat}{v:α}(h:xs[j]?=some v):aV xs (j:Int)=some v:=by
 have hj:j<xs.length:=(List.getElem?_eq_some_iff.mp h).1
 have e:rO xs.length (j:Int)=some j:=by
  unfold rO
  rw[if_pos (by omega),if_pos (by omega)];simp
 unfold aV;rw[e];exact h
theorem Wh{α:Type}(xs:List α)(v:α):aV (xs++[v]) (-1)=some v:=by
 have hl:(xs++[v]).length=xs.length+1:=by simp
 have e:rO (xs++[v]).length (-1)=some xs.length:=by
  unfold rO
  rw[hl,if_neg (by decide),if_pos (by omega)]
  congr 1
  omega
 unfold aV
 rw[e]
 show(xs++[v])[xs.length]?=some v
 simp
def v8(b:Expr):Prop:=∀o i,subscripted b false o i=operate [o,i] (getItem o i)
def QX(X:Cx)(r:R2):Prop :=
 ∀(value slice:Expr)(pins:List (Addr×Obj))(s:Shared)(σ:St)(H:Hp)(x y:V)(v u:Value)(Q:VK),Inv X pins σ H s->RelV x v->RelV y u->r x y H Q ->
  subscripted slice false v u=operate [v,u] (getItem v u)->wpAny (model X.prog X.w) X.A (subscriptTail value slice v u) (EP X pins σ Q) X.xe s
def Wi(X:Cx)(id:String)(r:V->List V->Hp->VK->Prop):Prop :=
 ∀(pins:List (Addr×Obj))(s:Shared)(σ:St)(H:Hp)(x:V)(xs:List V)(v:Value)(us:List Value)(Q:VK),Inv X pins σ H s->RelV x v->Vals xs us->r x xs H Q ->
  wpAny (model X.prog X.w) X.A (call (.builtin id) (v::us)) (EP X pins σ Q) X.xe s
section
variable{X:Cx}{a b:Expr}{ta tb:TE}{pos:Pos}
theorem wG(hr:QX X r)(ha:PE X a ta)(hb:PE X b tb)(hs:v8 b):PE X (.Subscript a b pos) (jk r ta tb):=by
 intro pins s σ H Q I h
 exact Subscript_ (u5 ha hb I h λv u s2 x y H2 I2 rx ry q=>hr a b pins s2 σ H2 x y v u Q I2 rx ry q (hs _ _))
def rP(K:PySem.W.Frag):R2:=λx y H Q=>∃p xs i v,x=.ref p/\y=.int i/\aZ K H p xs/\aV xs i=some v/\Q v H
theorem Wj:QX X (rP X.K):=by
 intro value slice pins s σ H x y v u Q I rx ry h hs
 obtain⟨p,xs,i,z,rfl,rfl,hq,he,q⟩:=h
 cases rx
 obtain⟨t,rfl⟩:=ry
 obtain⟨its,r,pl,hz⟩:=I.list hq
 obtain⟨j,h1,h2,h3,h4,h5⟩:=v7 he
 obtain⟨w,ew,rw'⟩:=r.get h2
 have hl:=r.length
 have hn:=QG
 have fin:EP X pins σ Q w s:=⟨z,H,I,rw',q⟩
 by_cases h0:0<=i
 ·have hj:i.toNat=j:=by
   rw[seqIndex_of h0 h5] at h1
   exact Option.some.inj h1
  exact item_listR pl.isList h0 (by omega) (by rw[hj];simpa using ew) fin hs
 ·have hj:(i+(its.toArray.size:Int)).toNat=j:=by
   rw[seqIndex_neg (by omega) h4] at h1
   rw[size_toArray,<-hl]
   exact Option.some.inj h1
  exact subscriptTail_builtinR (x:=w) pl.isList.typeIs slot_list_getitem.lookup
   (wpAny_getItem_list_neg (Q:=λr s'=>r=w/\EP X pins σ Q r s') pl.isList (by omega) (by rw[size_toArray]<;>omega) (by omega) (by rw[hj];simpa using ew) ⟨rfl,fin⟩) hs
def t_:V->Bool
 |.non=>true
 |.bl _=>true
 |.int _=>true
 |.str _=>true
 |_=>false
def v9:V->V->Bool
 |.non,.non=>true
 |.bl a,.bl b=>a==b
 |.bl a,.int b=>(if a then 1 else 0)==b
 |.int a,.bl b=>a==(if b then 1 else 0)
 |.int a,.int b=>a==b
 |.str a,.str b=>a==b
 |_,_=>false
theorem Er(ry:RelV y u)(rx:RelV x v)(fy:t_ y=true)(fx:t_ x=true):SeqAt.EqAt A s u v (v9 y x):=by
 cases y with
 |non =>
  cases ry
  cases x with
  |non=>cases rx;exact SeqAt.EqAt.same _
  |bl b=>cases rx;exact SeqAt.EqAt.none_bool b
  |int b=>obtain⟨t,rfl⟩:=rx;exact SeqAt.EqAt.none_int b t
  |str b=>obtain⟨t,rfl⟩:=rx;exact SeqAt.EqAt.none_str b t
  |_=>exact absurd (show false=true from fx) Bool.false_ne_true
 |bl a =>
  cases ry
  cases x with
  |non=>cases rx;exact SeqAt.EqAt.bool_none a
  |bl b=>cases rx;exact SeqAt.EqAt.bool_bool a b
  |int b=>obtain⟨t,rfl⟩:=rx;exact SeqAt.EqAt.bool_int a b t
  |str b=>obtain⟨t,rfl⟩:=rx;exact SeqAt.EqAt.bool_str a b t
  |_=>exact absurd (show false=true from fx) Bool.false_ne_true
 |int a =>
  obtain⟨t',rfl⟩:=ry
  cases x with
  |non=>cases rx;exact SeqAt.EqAt.int_none a t'
  |bl b=>cases rx;exact SeqAt.EqAt.int_bool a t' b
  |int b=>obtain⟨t,rfl⟩:=rx;exact SeqAt.EqAt.int_int a t' b t
  |str b=>obtain⟨t,rfl⟩:=rx;exact SeqAt.EqAt.int_str a t' b t
  |_=>exact absurd (show false=true from fx) Bool.false_ne_true
 |str a =>
  obtain⟨t',rfl⟩:=ry
  cases x with
  |non=>cases rx;exact SeqAt.EqAt.str_none a t'
  |bl b=>cases rx;exact SeqAt.EqAt.str_bool a t' b
  |int b=>obtain⟨t,rfl⟩:=rx;exact SeqAt.EqAt.str_int a t' b t
  |str b=>obtain⟨t,rfl⟩:=rx;exact SeqAt.EqAt.str_str a t' b t
  |_=>exact absurd (show false=true from fx) Bool.false_ne_true
 |_=>exact absurd (show false=true from fy) Bool.false_ne_true
def oE(x:V)(u:Value):Bool:=match u with
 |.none=>v9 .non x
 |.bool b=>v9 (.bl b) x
 |.int i _=>v9 (.int i) x
 |.str z _=>v9 (.str z) x
 |_=>false
theorem Wk(r:RelV y u)(f:t_ y=true):oE x u=v9 y x:=by
 cases y with
 |non=>cases r;rfl
 |bl b=>cases r;rfl
 |int i=>obtain⟨t,rfl⟩:=r;rfl
 |str z=>obtain⟨t,rfl⟩:=r;rfl
 |_=>exact absurd (show false=true from f) Bool.false_ne_true
theorem JW:∀{xs:List V}{us:List Value},Vals xs us->xs.all t_=true->us.any (oE x)=xs.any λy=>v9 y x
 |_,_,.nil,_=>rfl
 |y::xs,u::us,.cons r t,f=>by
  rw[all_cons,Bool.and_eq_true] at f
  rw[any_cons,any_cons,Wk r f.1,JW t f.2]
theorem JX(rx:RelV x v)(fx:t_ x=true):∀{xs:List V}{us:List Value},Vals xs us->xs.all t_=true->∀u∈us,SeqAt.EqAt A s u v (oE x u)
 |_,_,.nil,_=>λu hu=>by cases hu
 |y::xs,u::us,.cons r t,f=>λu' hu=>by
  rw[all_cons,Bool.and_eq_true] at f
  rcases mem_cons.mp hu with rfl|hu
  ·rw[Wk r f.1];exact Er r rx f.1 fx
  ·exact JX rx fx t f.2 u' hu
def inV(x:V)(xs:List V):Bool:=xs.any λy=>v9 y x
def Es(K:PySem.W.Frag)(neg:Bool):R2:=λx y H Q=>∃p xs,y=.ref p/\(aZ K H p xs\/nZ K H p xs)/\t_ x=true/\xs.all t_=true/\Q (.bl (if neg then !inV x xs else inV x xs)) H
theorem zNr:jA X (compareOp .In) (Es X.K false):=by
 intro pins s σ H x y v u Q I rx ry h
 obtain⟨p,xs,rfl,hq,fx,fs,q⟩:=h
 cases ry
 rcases hq with hq|hq
 ·obtain⟨its,r,pl,hz⟩:=I.list hq
  refine SeqAt.in_listAt (oE x) pl.isList (λw hw=>JX rx fx r fs w (by simpa using hw)) ⟨.bl _,H,I,rfl,?_⟩
  rw[show its.toArray.any (oE x)=its.any (oE x) by simp,JW r fs]
  exact q
 ·obtain⟨its,r,pl,hz⟩:=I.tuple hq
  refine SeqAt.in_tupleAt (oE x) pl (λw hw=>JX rx fx r fs w (by simpa using hw)) ⟨.bl _,H,I,rfl,?_⟩
  rw[show its.toArray.any (oE x)=its.any (oE x) by simp,JW r fs]
  exact q
theorem zG1:jA X (compareOp .NotIn) (Es X.K true):=by
 intro pins s σ H x y v u Q I rx ry h
 obtain⟨p,xs,rfl,hq,fx,fs,q⟩:=h
 cases ry
 rcases hq with hq|hq
 ·obtain⟨its,r,pl,hz⟩:=I.list hq
  refine SeqAt.notIn_listAt (oE x) pl.isList (λw hw=>JX rx fx r fs w (by simpa using hw)) ⟨.bl _,H,I,rfl,?_⟩
  rw[show its.toArray.any (oE x)=its.any (oE x) by simp,JW r fs]
  exact q
 ·obtain⟨its,r,pl,hz⟩:=I.tuple hq
  refine SeqAt.notIn_tupleAt (oE x) pl (λw hw=>JX rx fx r fs w (by simpa using hw)) ⟨.bl _,H,I,rfl,?_⟩
  rw[show its.toArray.any (oE x)=its.any (oE x) by simp,JW r fs]
  exact q
theorem zHw:lX X (.builtin "len") (λxs H Q=>∃p ys,xs=[.ref p]/\(aZ X.K H p ys\/nZ X.K H p ys)/\Q (.int ys.length) H):=by
 intro pins s σ H xs us Q I r h
 obtain⟨p,ys,rfl,hq,q⟩:=h
 obtain⟨u,rfl,rx⟩:=tZ r
 cases rx
 have hn:=QG
 rcases hq with hq|hq
 ·obtain⟨its,r',pl,hz⟩:=I.list hq
  have hlen:=r'.length
  exact Calls.call_len_list pl.isList (by simp only[size_toArray]<;>omega) ⟨.int ys.length,H,I.tok _,⟨s.toks+1,by rw[size_toArray,hlen]⟩,q⟩
 ·obtain⟨its,r',pl,hz⟩:=I.tuple hq
  have hlen:=r'.length
  exact len_tuple pl (by simp only[size_toArray]<;>omega) ⟨.int ys.length,H,I.tok _,⟨s.toks+1,by rw[size_toArray,hlen]⟩,q⟩
theorem zHv:lX X (.type "list") (λxs H Q=>∃p ys,xs=[.ref p]/\(aZ X.K H p ys\/nZ X.K H p ys)/\∀l,H l=none->Q (.ref l) (upd H l (.lst ys))):=by
 intro pins s σ H xs us Q I r h
 obtain⟨p,ys,rfl,hq,q⟩:=h
 obtain⟨u,rfl,rx⟩:=tZ r
 cases rx
 have fin:∀(its:List Value),Vals ys its->ys.length<=sizeLine->∀(h':Heap)(c':Nat),(∀b o',s.heap.get? b=some o'->h'.get? b=some o') ->
   h'.get? s.heap.objs.size=some { cls:=.type "list",dict:=none,data:=.seq its.toArray c',slots:=#[] }->EP X pins σ Q (.ref s.heap.objs.size) { s with heap:=h' }:=λits r' hz h' c' kp e =>
  ⟨.ref s.heap.objs.size,_,I.laid (t':=s.toks) kp (Nat.le_refl _) (show aU X.prog X.w _ h' _ (.lst ys) from⟨hz,its,c',r',e⟩),rfl,q _ (I.hok.fresh (Nat.le_refl _))⟩
 rcases hq with hq|hq
 ·obtain⟨its,r',pl,hz⟩:=I.list hq
  have hlen:=r'.length
  obtain⟨o,ho,hc,n,hd⟩:=pl.isList
  exact call_list_seq p (.inl rfl) ho hc hd (λh' c' kp e=>fin its r' hz h' c' kp e) (by simp only[size_toArray]<;>omega)
 ·obtain⟨its,r',pl,hz⟩:=I.tuple hq
  have hlen:=r'.length
  obtain⟨o,ho,hc,n,hd⟩:=pl
  exact call_list_seq p (.inr rfl) ho hc hd (λh' c' kp e=>fin its r' hz h' c' kp e) (by simp only[size_toArray]<;>omega)
theorem zGd:lX X (.type "tuple") (λxs H Q=>∃p ys,xs=[.ref p]/\((aZ X.K H p ys/\∀l,H l=none->Q (.ref l) (upd H l (.tup ys)))\/(nZ X.K H p ys/\Q (.ref p) H))):=by
 intro pins s σ H xs us Q I r h
 obtain⟨p,ys,rfl,h⟩:=h
 obtain⟨u,rfl,rx⟩:=tZ r
 cases rx
 rcases h with⟨hq,q⟩|⟨hq,q⟩
 ·obtain⟨its,r',pl,hz⟩:=I.list hq
  have hlen:=r'.length
  refine call_tuple_list pl.isList (λh' kp=>?_) (by simp only[size_toArray]<;>omega)
  have I1:Inv X pins σ H { s with heap:=h' }:=I.kept (t':=s.toks) kp
  have I2:Inv X pins σ (upd H h'.objs.size (.tup ys)) { s with heap:=h'.push { cls:=.type "tuple",data:=.seq its.toArray } } :=
   I1.laid (t':=s.toks) (λb o e=>get?_push_of_some _ e) (Nat.le_refl _) (show aU X.prog X.w _ _ _ (.tup ys) from⟨hz,its,r',IsTup.new _ _⟩)
  exact⟨.ref h'.objs.size,_,I2,rfl,q _ (I1.hok.fresh (Nat.le_refl _))⟩
 ·obtain⟨its,r',pl,hz⟩:=I.tuple hq
  exact call_tuple_same pl ⟨.ref p,H,I,rfl,q⟩
def QZ(K:PySem.W.Frag)(T:String)(x:V)(H:Hp):Prop:=match x with
 |.str _=>T = "str"
 |.int _=>T = "int"
 |.ref p=>(T = "list" /\ ∃xs,aZ K H p xs)\/(T = "tuple" /\ ∃o,K.lookup p=some o/\o.cls=.type "tuple" /\ o.dict=none) \/
   (T = "dict" /\ ((∃kvs,H p=some (.dK kvs))\/∃kvs,H p=some (.dT kvs)))\/(T = "set" /\ ∃S n,H p=some (.set S n))
 |_=>False
theorem Wm(I:Inv X pins σ H s)(r:RelV x v)(ty:QZ X.K T x H) :
  s.TypeIs v T/\∀a,v=.ref a->∃ob,s.heap.get? a=some ob/\ob.dict=none:=by
 cases x with
 |str z =>
  obtain⟨t,rfl⟩:=r
  cases(show T = "str" from ty)
  exact⟨typeIs_str s z t,λ_ e=>nomatch e⟩
 |int i =>
  obtain⟨t,rfl⟩:=r
  cases(show T = "int" from ty)
  exact⟨typeIs_int s i t,λ_ e=>nomatch e⟩
 |ref p =>
  cases r
  rcases ty with⟨rfl,xs,hq⟩|⟨rfl,o,hk,hc,hd⟩|⟨rfl,hk⟩|⟨rfl,S,n,hk⟩
  ·obtain⟨its,_,pl,_⟩:=I.list hq
   refine⟨pl.isList.typeIs,λa e=>?_⟩
   cases e
   obtain⟨o,n,e,c,hd,_⟩:=pl
   exact⟨o,e,hd⟩
  ·refine⟨⟨o,I.jF p o hk,hc⟩,λa e=>?_⟩
   cases e
   exact⟨o,I.jF _ o hk,hd⟩
  ·have z:∃o,s.heap.get? p=some o/\o.ExactDict:=by
    rcases hk with⟨kvs,hk⟩|⟨kvs,hk⟩
    ·obtain⟨_,_,_,_,o,_,_,e,ex,_⟩:=I.hok p _ hk
     exact⟨o,e,ex⟩
    ·obtain⟨_,_,_,_,o,_,_,e,ex,_⟩:=I.hok p _ hk
     exact⟨o,e,ex⟩
   obtain⟨o,e,ex⟩:=z
   refine⟨⟨o,e,ex.1⟩,λa e2=>?_⟩
   cases e2
   exact⟨o,e,ex.2.1⟩
  ·obtain⟨o,_,_,_,e,ex,_⟩:=I.hok p _ hk
   refine⟨⟨o,e,ex.1⟩,λa e2=>?_⟩
   cases e2
   exact⟨o,e,ex.2.1⟩
 |_=>exact False.elim ty
def Eu(K:PySem.W.Frag)(T:String)(r:V->List V->Hp->VK->Prop)(to:TE):TE:=λσ H Q=>to σ H λx H1=>QZ K T x H1/\r x [] H1 Q
def JZ(K:PySem.W.Frag)(T:String)(r:V->List V->Hp->VK->Prop)(to:TE)(t:TA):TE:=λσ H Q=>to σ H λx H1=>QZ K T x H1/\t σ H1 λxs H2=>r x xs H2 Q
variable{o e:Expr}{es:List Expr}{to:TE}{t:TA}{name:Str}{apos cpos:Pos}{T id:String}{r:V->List V->Hp->VK->Prop}
theorem Ew(pa:PlainAttrs T)(slot:Slot T name id)(hty:typeOf (.builtin id)=pure (.type "method_descriptor"))(hm:Wi X id r)(ho:PE X o to)(hbase:attributeBase o name X.env (eval o X.env)=eval o X.env:=by rfl)(hline:(apos.endLine==cpos.line)=true:=by rfl):PE X (.Call (.Attribute o name apos) [] [] cpos) (Eu X.K T r to):=by
 intro pins s σ H Q I h
 refine wpAny_Call_method0_late hbase hline (aO (ho pins s σ H _ I h) λv s1 ⟨x,H1,I1,r1,ty,q1⟩=>?_)
 obtain⟨h1,h2⟩:=Wm I1 r1 ty
 exact⟨T,id,pa,slot,hty,h1,h2,Calls.callWith_builtin rfl (PySem.evalArgs_none (hm pins s1 σ H1 x [] v [] Q I1 r1 .nil q1))⟩
theorem Ca(pa:PlainAttrs T)(slot:Slot T name id)(hty:typeOf (.builtin id)=pure (.type "method_descriptor"))(hm:Wi X id r)(ho:PE X o to)(ha:PA X (e::es) t)(hbase:attributeBase o name X.env (eval o X.env)=eval o X.env:=by rfl)(hfew:((backTo cpos (starEach (e::es) X.env)).all (λx=>!x.1)&&(backToKw cpos (keywordEach [] X.env)).all (λx=>x.1.isSome)
   && decide ((e::es).length+([]:List Keyword).length+(if([]:List Keyword).isEmpty then 0 else 1)<30))=true:=by rfl)(hline:(apos.endLine==cpos.line)=true:=by rfl)(hs:starEach (e::es) X.env=(false,eval e X.env)::starEach es X.env:=by rfl)(hplain:(backTo cpos (starEach es X.env)).any (·.1)=false:=by rfl) :
  PE X (.Call (.Attribute o name apos) (e::es) [] cpos) (JZ X.K T r to t):=by
 intro pins s σ H Q I h
 refine wpAny_Call_method_late hbase hfew hline rfl (aO (ho pins s σ H _ I h) λv s1 ⟨x,H1,I1,r1,ty,q1⟩=>?_)
 obtain⟨h1,h2⟩:=Wm I1 r1 ty
 refine⟨T,id,pa,slot,hty,h1,h2,?_⟩
 have hA:=ha cpos pins s1 σ H1 _ I1 q1
 rw[hs] at hA ⊢
 refine Calls.callWith_builtin (by show(false||(backTo cpos (starEach es X.env)).any (·.1))=false;rw[hplain]<;>rfl) (Calls.evalArgs_plain ?_)
 exact aO hA λus s2 ⟨vs,H2,I2,r2,q2⟩=>hm pins s2 σ H2 x vs v us Q I2 r1 r2 q2
end
def NZ(X:Cx)(id:String)(r:V->List V->Hp->VK->Prop):Prop :=
 ∀(pins:List (Addr×Obj))(s:Shared)(σ:St)(H:Hp)(x:V)(xs:List V)(v:Value)(us:List Value)(Q:VK),Inv X pins σ H s->RelV x v->Vals xs us->r x xs H Q ->
  wpAny (model X.prog X.w) X.A (call (.builtin id) (v::us)) (EP X pins σ Q) X.xe s
theorem Vals.one:∀{x:V}{us:List Value},Vals [x] us->∃u,us=[u]/\RelV x u
 |_,_,.cons r .nil=>⟨_,rfl,r⟩
theorem Vals.two:∀{x y:V}{us:List Value},Vals [x,y] us->∃u v,us=[u,v]/\RelV x u/\RelV y v
 |_,_,_,.cons r (.cons q .nil)=>⟨_,_,rfl,r,q⟩
theorem Vals.zero:∀{us:List Value},Vals [] us->us=[]
 |_,.nil=>rfl
theorem Vals.dropLast(h:Vals xs us):Vals xs.dropLast us.dropLast:=by
 induction h with
 |nil=>exact .nil
 |cons r t ih =>
  cases t with
  |nil=>exact .nil
  |cons q t'=>exact .cons r ih
theorem Vals.eraseIdx:∀{xs:List V}{us:List Value}(i:Nat),Vals xs us->Vals (xs.eraseIdx i) (us.eraseIdx i)
 |_,_,_,.nil=>.nil
 |_,_,0,.cons _ t=>t
 |_,_,i+1,.cons r t=>.cons r (Vals.eraseIdx i t)
theorem Vals.reverse(h:Vals xs us):Vals xs.reverse us.reverse:=by
 induction h with
 |nil=>exact .nil
 |cons r t ih=>rw[reverse_cons,reverse_cons];exact Vals.append ih (.cons r .nil)
section
variable{X:Cx}{pins:List (Addr×Obj)}{σ:St}{H:Hp}{s:Shared}{l b:Addr}{xs ys zs:List V}
theorem Inv.J0{its its':List Value}{f:Array Value->Array Value}(I:Inv X pins σ H s)(hH:H l=some (.lst xs))(e:s.heap.get? l=some { cls:=.type "list",data:=.seq its.toArray n })(hf:f its.toArray=its'.toArray)(hv:Vals ys its')(hz:ys.length<=sizeLine) :
  Inv X pins σ (upd H l (.lst ys)) { s with heap:=s.heap.update l (Obj.mapSeq f),toks:=t' }:=by
 have q:=PySem.IsL.update e f
 rw[hf] at q
 refine I.write (x:=l) (e:=l) (by rw[hH];exact trivial) (.inl rfl) (λb' u hb hu=>(get?_update_other s.heap (Obj.mapSeq f) (Ne.symm hb)).trans hu) ⟨_,q⟩ ?_
 exact⟨hz,its',_,hv,q⟩
theorem Inv.J2(I:Inv X pins σ H s)(hH:H l=some (.lst xs)):xs.length<=sizeLine/\∃(its:List Value)(n:Nat),Vals xs its/\xs.length=its.length/\s.heap.get? l=some { cls:=.type "list",data:=.seq its.toArray n }:=by
 obtain⟨z,its,n,r,e⟩:=I.hok l _ hH
 exact⟨z,its,n,r,r.length,e⟩
end
section
variable{X:Cx}
def N5:V->List V->Hp->VK->Prop:=λx vs H Q=>∃l xs y,x=.ref l/\vs=[y]/\H l=some (.lst xs)/\xs.length<sizeLine/\Q .non (upd H l (.lst (xs++[y])))
theorem yP:NZ X "list.append" N5:=by
 intro pins s σ H x vs v us Q I rx rv h
 obtain⟨l,xs,y,rfl,rfl,hH,hz,q⟩:=h
 cases rx
 obtain⟨u,rfl,ru⟩:=rv.one
 obtain⟨z,its,n,r,hl,e⟩:=I.J2 hH
 refine call_meets F.slot_list_append ⟨_,e,rfl⟩ F.entry_list_append (F.args_list_append_2 _ _) (PySem.list_append l its.toArray n u (by rw[size_toArray];omega)) ⟨e,?_⟩
 refine⟨.non,_,I.J0 (its':=its++[u]) hH e (by simp) (r.append (.cons ru .nil)) ?_,rfl,q⟩
 rw[length_append,length_singleton]
 omega
def Wn:V->List V->Hp->VK->Prop:=λx vs H Q=>∃l xs,x=.ref l/\vs=[]/\H l=some (.lst xs)/\Q .non (upd H l (.lst xs.reverse))
theorem Wo:NZ X "list.reverse" Wn:=by
 intro pins s σ H x vs v us Q I rx rv h
 obtain⟨l,xs,rfl,rfl,hH,q⟩:=h
 cases rx
 have hus:=rv.zero
 subst hus
 obtain⟨z,its,n,r,hl,e⟩:=I.J2 hH
 refine call_meets F.slot_list_reverse ⟨_,e,rfl⟩ F.entry_list_reverse (F.args_list_reverse_1 _) (AutoSeq1.list_reverse_list_0 l its.toArray n (by rw[size_toArray];omega)) ⟨e,?_⟩
 refine⟨.non,_,I.J0 (its':=its.reverse) hH e (by simp) r.reverse ?_,rfl,q⟩
 rw[List.length_reverse]
 omega
end
section
variable{prog:Program}{w:World}{A:Around}{E:Value->Shared->Prop}{s:Shared}
end
section
variable{X:Cx}
end
end L2
namespace Wq
open PySem PySem.W PySem.Calls PyProof.Rows
theorem zDz:∀(ns:LI)(vs:List Value),WellAll P h vs (ns.map WData.int)->IntsAre vs ns:=by
 intro ns
 induction ns with
 |nil =>
  intro vs w
  rw[map_nil] at w
  cases w
  exact .nil
 |cons n ns ih =>
  intro vs w
  rw[map_cons] at w
  cases w with
  |cons a b =>
   cases a
   exact .cons _ _ (ih _ b)
theorem zMu{l:OpenLaw}(hn:l.most=some n)(hpre:l.row.toRowW.claim.pre args=true)(hwl:WellAll P h vals args) :
  ∃a vs ns,vals=[Value.ref a]/\args=[WData.list (ns.map WData.int)]/\h.get? a=some { cls:=.type "list",data:=.seq vs.toArray }/\IntsAre vs ns/\ns.length<=n:=by
 have hsh:WShape.hasAll [] args [.list .int]=true:=(pre_splitW hpre).1
 have hc:l.pre.holds [] { args:=args }=true:=(pre_splitW hpre).2
 obtain⟨d,r,rfl,h1,h2⟩:=hasAllW_cons hsh
 obtain rfl:=hasAllW_nil h2
 obtain⟨xs,rfl,h3⟩:=hasW_list h1
 obtain⟨ns,rfl⟩:=items_int h3
 have hlen:ns.length<=n:=by
  unfold OpenLaw.pre at hc
  have h4:(WTm.not (.lt (.lit (.int (n:Int))) (.len (.arg 0)))).holds [] { args:=[.list (ns.map .int)] }=true:=by
   have h4:=(holds_andW hc).1
   rw[hn] at h4
   exact h4
  have h5:=condW_of h4 (w_not (w_lt w_lit (w_len_list (w_arg rfl))))
  rw[length_map] at h5
  refine Nat.le_of_not_lt λq=>?_
  have q':(n:Int)<((ns.length:Nat):Int):=by omega
  first
   | (rw[decide_eq_true q'] at h5;exact absurd h5 (by decide))
   | (simp at h5;omega)
 cases hwl with
 |cons w1 w2 =>
  cases w2
  cases w1 with
  |list ho hall=>exact⟨_,_,ns,rfl,rfl,ho,zDz ns _ hall,hlen⟩
theorem zNd(l:OpenLaw)(args:List WData):l.row.toRowW.claim.post args (.bool true) args=true :=
 postW_of (r:=l.row.toRowW) (X:=(true==true))
  (show WShape.has [] (.bool true) .bool=true by first|rfl|decide|simp[WShape.has,WShape.arms,WShape.armsAll])
  (show(WTm.eq .res (.lit (.bool true))).value [] { args:=args,res:=some (.bool true),after:=args }=some (.bool (true==true)) from w_eq_bool (w_res rfl) w_lit) rfl
theorem m6{l:OpenLaw}{YP:World->Heap->Prop}{d:DefRec}(hn:l.most=some n)(hdf:d.params.defaults=[])(call:∀(w:World) (s₀ s₁:Shared) (mg mb:Str->Option Value) (fa:Addr) (o:Obj) (pm cd doc:Value) (a:Addr) (vs:List Value) (ns:LI),
   Ground q loose [] XP w s₀ mg mb s₁.heap->YP w s₁.heap ->
   s₁.heap.get? fa=some o->o.data=.func (docDef d.name d.params d.body d.scope pm cd doc)->s₁.heap.CodeRec cd d.name->mg d.name=some (.ref fa) ->
   s₁.heap.get? a=some { cls:=.type "list",data:=.seq vs.toArray }->IntsAre vs ns->ns.length<=n->s₁.gens=#[] ->
   codeAny (model l.prog w) callerA (.call (.ref fa) ⟨[.ref a],[]⟩) (λr s'=>r=.ok (.ret (.bool true))/\OldK s₁.heap s'.heap/\s'.os=s₁.os/\AllBare s'.gens) s₁) :
  WalkO q loose XP YP l.row.toRowW d [] (λf vs=>PySem.call f vs):=by
 intro w s₀ s₁ mg mb G Y fa o pm cd doc dV kV ho hd hcd hD hmg hg args vals as hpre hlay hrd hwl hlo
 obtain rfl:dV=.none:=Dflts.none hD hdf
 obtain rfl:kV=.none:=Dflts.noKw hD
 obtain⟨a,vs,ns,rfl,rfl,hobj,hints,hlen⟩:=zMu hn hpre hwl
 refine enter_call (codeAny_mono (call w s₀ s₁ mg mb fa o pm cd doc a vs ns G Y ho (fd_plain hd) hcd hmg hobj hints hlen hg) λr s' hq=>?_)
 obtain⟨rfl,h2,h3,h4⟩:=hq
 exact⟨.inl ⟨.bool true,.bool true,[],rfl,λ_=>rfl,.bool true,zNd l _,λ_=>⟨Pairwise.nil,λ_ hm=>(nomatch hm)⟩⟩,h2,h3,h4⟩
section
variable{prog:Program}{w:World}{A:Around}{E:Value->Shared->Prop}{s:Shared}{K:Frag}
end
end Wq
namespace L2
open PySem PySem.Spec PyProof.Rows
theorem Wr:∀{vs:List Value}{ns:LI},IntsAre vs ns->Vals (ns.map V.int) vs
 |_,_,.nil=>.nil
 |_,_,.cons n t h=>.cons ⟨t,rfl⟩ (Wr h)
def Only(H:Hp):Prop:=∀b,H b=none\/∃o xs,H b=some (.pI o (.lst xs))
theorem zQ1{K:PySem.W.Frag}{s₁:Shared}{vs:List Value}(KX:K.In s₁.heap)(hns:s₁.heap.Ns mainGlobals mg)(hb:s₁.heap.Ns builtinsNs mb)(hbb:∀x:Str,x ≠ "__name__"->mb x=bootBuiltins x)(hlim:s₁.heap.NoLimit)(hg:s₁.gens=#[])(ha:s₁.heap.get? a=some { cls:=.type "list",data:=.seq vs.toArray })(hi:IntsAre vs ns)(hl:ns.length<=sizeLine)(hr:bI k callerA)(F:∀base:Heap,K.In base->base.Ns mainGlobals mg->aB P w K mg base CX k fa fd [x] sp)(hbind:∀(s:Shared) (u:Value),BindsTo s fd ⟨[u],[]⟩ [(x,u)])(hsp:∀H:Hp,Only H->aZ K H a (ns.map V.int)->sp [.ref a] H (λv _=>v=.bl true) λ_ _ _=>False)(Q0:∀H e s',CX [] H s₁ (λ_ _ _=>False) e s'->False) :
  codeAny (model P w) callerA (.call (.ref fa) ⟨[.ref a],[]⟩) (λr s'=>r=.ok (.ret (.bool true))/\OldK s₁.heap s'.heap/\s'.os=s₁.os/\AllBare s'.gens) s₁:=by
 have rv:=Wr hi
 have lenV:=hi.length
 have core:∀H:Hp,Only H->aZ K H a (ns.map V.int)->fD P w H s₁.heap->(∀b,H b≠none->b=a)->(H a≠none->K.lookup a=none) ->
   codeAny (model P w) callerA (.call (.ref fa) ⟨[.ref a],[]⟩) (λr s'=>r=.ok (.ret (.bool true))/\OldK s₁.heap s'.heap/\s'.os=s₁.os/\AllBare s'.gens) s₁:=by
  intro H hO hS hok hA hK
  have pO:∀{b:Addr}{o:Obj},s₁.heap.get? b=some o->H b=none->(lV s₁.heap H).get? b=some o:=λe n=>zQ6 e n
  have JQ:∀{b:Addr}{o:Obj}{es:Array DictEntry}{ep:Nat},s₁.heap.get? b=some o->o.data=.dict es ep->H b=none:=λ{b o es ep} e d=>by
   cases q:H b with
   |none=>rfl
   |some u =>
    have e':b=a:=hA b (by rw[q];simp)
    subst e'
    rw[ha] at e;cases e
    have d':Data.seq vs.toArray _=Data.dict es ep:=d
    cases d'
  have N6:∀{b:Addr}{m:Str->Option Value},s₁.heap.Ns b m->(lV s₁.heap H).Ns b m:=λ{b m} ⟨o,es,ep,e,d,r⟩=>⟨o,es,ep,pO e (JQ e d),d,r⟩
  have Ws:K.In (lV s₁.heap H):=λb o e=>pO (KX b o e) (by
   cases q:H b with
   |none=>rfl
   |some u =>
    have e':b=a:=hA b (by rw[q];simp)
    subst e'
    rw[hK (by rw[q];simp)] at e;cases e)
  have hM:Mod K mg (lV s₁.heap H):=⟨Ws,N6 hns,⟨mb,N6 hb,hbb⟩,let⟨mc,h1,h2⟩:=hlim;⟨mc,N6 h1,h2⟩⟩
  have e0:oA P w K mg (lV s₁.heap H) callerA [] s₁ H:=⟨rfl,hM,λb o e=>uo e,Nat.le_of_eq (zOl _ _),trivial,λb hb=>absurd (show b∈([]:List Addr) from hb) (by simp),hok,.of_eq hg⟩
  refine codeAny_mono ((F _ Ws (N6 hns)).run callerA [] s₁ H ⟨[.ref a],[]⟩ [.ref a] [.ref a] _ _ hr e0 (hbind s₁ (.ref a)) (.cons rfl .nil) (hsp H hO hS)) λr s' h=>?_
  cases r with
  |error e=>exact(Q0 H e s' h).elim
  |ok fl =>
   cases fl with
   |next=>exact False.elim h
   |brk=>exact False.elim h
   |cont=>exact False.elim h
   |ret u =>
    obtain⟨v,H',os,bare,un,hok',r',q⟩:=h
    have q':v=.bl true:=q
    subst q'
    obtain rfl:u=Value.bool true:=r'
    refine⟨rfl,OldK.of_keep λb o e=>?_,os,bare⟩
    cases q:H b with
    |none=>exact un.keep b o e q (by intro z;exact absurd (show b∈([]:List Addr) from z) (by simp)) (by simp)
    |some u =>
     rcases hO b with z|⟨ob,xs,z⟩
     ·rw[q] at z;cases z
     ·have z2:=un.jO b ob _ z
      obtain⟨e1,_⟩:=hok b _ z
      obtain⟨e2,_⟩:=hok' b _ z2
      rw[e] at e1;cases e1
      exact e2
 cases hk:K.lookup a with
 |some o =>
  have e:=KX a o hk
  rw[ha] at e
  cases e
  refine core (λ_=>none) (λ_=>.inl rfl) (.inr ⟨_,vs.toArray,_,hk,rfl,rfl,rfl,by rw[size_toArray,lenV];exact hl,by simpa using rv⟩) (λb u z=>by have z':(none:Option HO)=some u:=z;cases z') (λb z=>absurd rfl z) λz=>absurd rfl z
 |none =>
  refine core (λb=>if b=a then some (.pI { cls:=.type "list",data:=.seq vs.toArray } (.lst (ns.map V.int))) else none) (λb=>?_) (.inl (.inr ⟨{ cls:=.type "list",data:=.seq vs.toArray },if_pos rfl⟩)) (λb u z=>?_) (λb z=>?_) λ_=>hk
  ·by_cases hb:b=a
   ·exact .inr ⟨_,_,if_pos hb⟩
   ·exact .inl (if_neg hb)
  ·by_cases hb:b=a
   ·have z':=(if_pos hb).symm.trans z
    cases z'
    subst hb
    exact⟨ha,by rw[length_map];exact hl,vs,_,rv,ha⟩
   ·have z':=(if_neg hb).symm.trans z
    cases z'
  ·by_cases hb:b=a
   ·exact hb
   ·exact absurd (if_neg hb) z
theorem wg{l:PySem.W.OpenLaw}{YP:World->Heap->Prop}{d:DefRec}{K:Params->PySem.W.Frag}{CX:World->pY}{sp:World->Sp}(hn:l.most=some n)(hn2:n<=sizeLine)(hdf:d.params.defaults=[])(hr:bI k callerA)(hY:∀(w:World) (h:Heap),YP w h->(K w.params).In h)(F:∀(w:World) (mg:Str->Option Value) (fa:Addr) (h:Heap),(K w.params).In h->h.Ns mainGlobals mg->mg d.name=some (.ref fa) ->
   ∃fd:FuncData,(∀(s:Shared) (u:Value),BindsTo s fd ⟨[u],[]⟩ [(x,u)]) /\
    ∀base:Heap,(K w.params).In base->base.Ns mainGlobals mg->aB l.prog w (K w.params) mg base (CX w) k fa fd [x] (sp w))(hsp:∀(w:World) (H:Hp) (a:Addr) (ns:LI),ns.length<=n->Only H->aZ (K w.params) H a (ns.map V.int)->sp w [.ref a] H (λv _=>v=.bl true) λ_ _ _=>False)(Q0:∀(w:World) (H:Hp) (s:Shared) (e:Value) (s':Shared),CX w [] H s (λ_ _ _=>False) e s'->False) :
  PySem.W.WalkO q loose XP YP l.row.toRowW d [] (λf vs=>PySem.call f vs):=by
 refine Wq.m6 hn hdf λw s₀ s₁ mg mb fa o pm cd doc a vs ns G Y ho hd hcd hmg hobj hints hlen hg=>?_
 have KX:=hY w _ Y
 obtain⟨fd,hb,hF⟩:=F w mg fa _ KX G.T.g hmg
 exact zQ1 KX G.T.g G.T.b G.T.builtins G.T.nolimit hg hobj hints (Nat.le_trans hlen hn2) hr hF hb (λH hO hS=>hsp w H a ns hlen hO hS) λH e s'=>Q0 w H s₁ e s'
def N7(s:Stmt)(j:Nat):Stmt:=match s with
 |.ClassDef _ _ _ body _ _ _ _ _ _ _=>body.getD j (.Pass ⟨0,0,0,0⟩)
 |_=>.Pass ⟨0,0,0,0⟩
def vT(s:Stmt):Arguments:=match s with
 |.FunctionDef _ a _ _ _ _ _ _ _ _=>a
 |_=>{ posonlyargs:=[],args:=[],vararg:=none,kwonlyargs:=[],kw_defaults:=[],kwarg:=none,defaults:=[] }
def wE(s:Stmt):List Stmt:=match s with
 |.FunctionDef _ _ b _ _ _ _ _ _ _=>b
 |_=>[]
def zI(s:Stmt):Scope:=match s with
 |.FunctionDef _ _ _ _ _ _ sc _ _ _=>sc
 |_=>{ kind:=.function,names:=[],isGenerator:=false,isCoroutine:=false }
abbrev bH:pY:=λ_ _ _ _ _ _=>False
abbrev E0:XK:=λ_ _ _=>False
theorem J3:Ej bH X E0:=λ_ _ _ _ _ _ _ h=>h.elim
structure bR(K:PySem.W.Frag)(x qual:Str)(st:Stmt)(f:Addr)(fd:FuncData):Prop where
 ex:∃(oc:Value)(od:Option Addr)(kV doc pm:Value)(an:Option Addr)(cdv ct:Value)(osl:Array (Option Value)),
  fd=fnOf x qual (vT st) (wE st) (zI st) .none kV doc pm an cdv ct/\K.lookup f=some ⟨oc,od,.func fd,osl⟩/\codeIn K cdv qual=true
 kp:keepIn K (.ref f)=true
section
variable{P:Program}{w:World}{K:PySem.W.Frag}{mg:Str->Option Value}{base:Heap}
theorem bR.ok{x qual:Str}{st:Stmt}{f:Addr}{fd:FuncData}{N ps:List Str}{k:Nat}{sp:Sp}(F:bR K x qual st f fd)(S:ao N ps (zI st))(len:∀vs H Q E,sp vs H Q E->vs.length=ps.length)(hbody:∀(cdv:Value) (A:Around) (outer:List Env) (s:Shared) (H:Hp) (vs:List V) (Q:VK) (E:XK),bI k (A.deeper (envOfC qual (zI st) s.heap.objs.size f cdv))->sp vs H Q E ->
   ∃t,mY (lY bH P w K mg base N qual (zI st) f cdv A outer s H E).BK (wE st) t/\t { nx:=λ_ H'=>Q .non H',rt:=Q } (start N vs) H):aB P w K mg base bH (k+1) f fd ps sp:=by
 obtain⟨oc,od,kV,doc,pm,an,cdv,ct,osl,rfl,lk,hcd⟩:=F.ex
 refine BR lk hcd S len λA outer s H vs Q E hr hsp=>?_
 obtain⟨t,h,q⟩:=hbody cdv A outer s H vs Q E hr hsp
 exact⟨t,h.BK,q⟩
theorem bR.binds{x qual:Str}{st:Stmt}{f:Addr}{fd:FuncData}{ps:List Str}(F:bR K x qual st f fd)(h:∀(kV doc pm:Value) (an:Option Addr) (cdv ct:Value) (us:List Value),us.length=ps.length->bindArgs (fnOf x qual (vT st) (wE st) (zI st) .none kV doc pm an cdv ct) ⟨us,[]⟩=pure (ps.zip us)):Binds K fd ps []:=by
 obtain⟨oc,od,kV,doc,pm,an,cdv,ct,osl,rfl,lk,hcd⟩:=F.ex
 exact .all (h kV doc pm an cdv ct)
theorem oF{x qual:Str}{st:Stmt}{f:Addr}{oc:Value}{od an:Option Addr}{osl:Array (Option Value)}{kV doc pm cdv ct:Value}(l:K.lookup f=some ⟨oc,od,.func (fnOf x qual (vT st) (wE st) (zI st) .none kV doc pm an cdv ct),osl⟩)(c:codeIn K cdv qual=true)(k:keepIn K (.ref f)=true):bR K x qual st f (fnOf x qual (vT st) (wE st) (zI st) .none kV doc pm an cdv ct):=⟨⟨oc,od,kV,doc,pm,an,cdv,ct,osl,rfl,l,c⟩,k⟩
end
theorem Cd(hr:bI k A):A.units+1<cLine:=Nat.lt_of_le_of_lt (Nat.add_le_add_left (by decide:1<=64) _) hr.units
theorem Wt(h:n<=1000):n<sizeLine:=Nat.lt_of_le_of_lt h (by decide)
section
variable{X:Cx}
theorem pv(i:Nat)(hN:X.N[i]?=some x:=by rfl)(hv:Ni X.env.scope x:=by first|exact Or.inl rfl|exact Or.inr (Or.inl rfl)|exact Or.inr (Or.inr rfl))(hd:(x==("__debug__":Str))=false:=by decide)(hcd:(x==("__classdict__":Str))=false:=by decide):PE X (.Name x pos) (dU i):=DN hN hv hd hcd
end
theorem lZ{A B:Prop}(h:B):if false=true then A else B:=by
 rw[if_neg Bool.false_ne_true]
 exact h
theorem mq{A B:Prop}(h:A):if true=true then A else B:=by
 rw[if_pos rfl]
 exact h
def Same(H H':Hp):Prop:=∀b o,H b=some o->H' b=some o
theorem Same.refl(H:Hp):Same H H:=λ_ _ h=>h
theorem Same.trans(a:Same H H1)(b:Same H1 H2):Same H H2:=λc o h=>b c o (a c o h)
theorem Same.free(e:Same H H')(h:H' l=Option.none):H l=Option.none:=by
 cases q:H l with
 |none=>rfl
 |some o =>
  rw[e l o q] at h
  cases h
theorem Same.seq{K:PySem.W.Frag}{H H':Hp}{a:Addr}{xs:List V}(e:Same H H')(h:aZ K H a xs):aZ K H' a xs:=by
 rcases h with(h|⟨o,h⟩)|h
 ·exact .inl (.inl (e _ _ h))
 ·exact .inl (.inr ⟨o,e _ _ h⟩)
 ·exact .inr h
section
variable{κ:Type}[DecidableEq κ]
end
open PySem
section
variable{prog:Program}{w:World}{A:Around}{R:Result->Shared->Prop}{s:Shared}
theorem vH{α:Type}{t:Sem α}{Q Q':α->Shared->Prop}(h:wpAny M A t Q (λ_ _=>False) s)(hQ:∀a s,Q a s->Q' a s):wpAny M A t Q' (notedBy M A env E) s :=
 wpAny_mono h hQ λ_ _ z=>z.elim
theorem zHt(I:Nat->Shared->Prop)(turn:∀n s,I n s->wpAny (model prog w) A (pyNext it) (λr s₁=>match r with
   |none=>R (.ok .next) s₁
   |some v=>wpAny (model prog w) A (letOwnedTupleGo target it v) (λ_ s₂=>wpAny (model prog w) A (assign target env v) (λ_ s₃ =>
     wpAny (model prog w) A (forIn ifs true λc r=>if r=true then do let ok <-isTrue c env (eval c env);pure (ForInStep.yield ok) else pure (ForInStep.yield r)) (λok s₄ =>
      if ok=true then wpAny (model prog w) A (eval elt env) (λx s₅ =>
       wpAny (model prog w) A (call (.builtin "list.append") [acc,x]) (λ_ s₆=>∃m,m<n/\I m s₆) (λ_ _=>False) s₅) (λ_ _=>False) s₄
      else∃m,m<n/\I m s₄) (λ_ _=>False) s₃) (λ_ _=>False) s₂) (λ_ _=>False) s₁) (λ_ _=>False) s)(n:Nat)(h:I n s):codeAny (model prog w) A (.compLoop (.ListComp elt [⟨target,iter,ifs,0⟩] scope pos) 0 it acc env) R s:=by
 refine codeAny_loop rfl I (λn s hI=>?_) n h
 show wpAny _ A ((compTurn (.ListComp elt [⟨target,iter,ifs,0⟩] scope pos) 0 it acc env).onRaise (λx=>do noteFrame x env;theTreesLotGoes x)) _ _ s
 refine wpAny_noted ?_
 rw[compTurn_list]
 refine wpAny_bind (wpAny_standAt (wpAny_bind (vH (turn n s hI) λr s₁ h₁=>?_)))
 cases r with
 |none=>exact wpAny_pure h₁
 |some v =>
  refine wpAny_bind (vH h₁ λ_ s₂ h₂=>?_)
  refine wpAny_bind (vH h₂ λ_ s₃ h₃=>wpAny_bind (vH h₃ λok s₄ h₄=>?_))
  cases ok with
  |false=>exact wpAny_pure ⟨rfl,h₄⟩
  |true =>
   exact wpAny_bind (wpAny_bind (vH h₄ λx s₅ h₅=>wpAny_bind (vH h₅ λ_ s₆ h₆=>wpAny_pure (wpAny_pure ⟨rfl,h₆⟩))))
end
def lH(env:Env):List (Str×NameKind)->List (Str×Addr)->List (Str×Addr)
 |[],acc=>acc
 | (n,k)::r,acc=>if k==.free then lH env r ((n,(env.cells.lookup n).getD 0)::acc) else lH env r acc
theorem Wu{scope:Scope}{env:Env}(h:∀y∈scope.names,y.2=.free->∃c,env.cells.lookup y.1=some c):closureFor scope env=pure (lH env scope.names []):=by
 unfold closureFor
 generalize scope.names=l at h
 have go:∀(l:List (Str×NameKind))(acc:List (Str×Addr)),(∀y∈l,y.2=.free->∃c,env.cells.lookup y.1=some c) ->
    (forIn l acc (λ(x:Str×NameKind) (r:List (Str×Addr))=>match x with
    | (name,kind)=>if(kind==NameKind.free)=true then(do let __do_lift <-cellOf env name;pure (ForInStep.yield ((name,__do_lift)::r))) else pure (ForInStep.yield r)):Sem (List (Str×Addr)))=pure (lH env l acc):=by
  intro l
  induction l with
  |nil=>intro acc _;rfl
  |cons x r ih =>
   intro acc hl
   obtain⟨n,k⟩:=x
   rw[forIn_cons]
   unfold lH
   by_cases hk:(k==NameKind.free)=true
   ·obtain⟨c,hc⟩:=hl (n,k) mem_cons_self (eq_of_beq hk)
    simp only[hk,if_true]
    have hc':env.cells.lookup n=some c:=hc
    unfold cellOf
    rw[hc']
    exact ih _ λy hy=>hl y (mem_cons_of_mem _ hy)
   ·simp only[hk,if_false]
    exact ih _ λy hy=>hl y (mem_cons_of_mem _ hy)
 have e:=go l [] h
 simp only[bind_pure]
 exact e
theorem Q5{env:Env}:∀(l:List (Str×NameKind))(acc:List (Str×Addr)),(∀x c,acc.lookup x=some c->(env.cells.lookup x).getD 0=c)->∀x c,(lH env l acc).lookup x=some c->(env.cells.lookup x).getD 0=c
 |[],_,h,x,c,e=>h x c e
 | (n,k)::r,acc,h,x,c,e=>by
  unfold lH at e
  by_cases hk:(k==NameKind.free)=true
  ·rw[if_pos hk] at e
   refine Q5 r _ (λy d q=>?_) x c e
   cases hy:y==n with
   |true =>
    rw[lookup_cons,hy] at q
    cases q
    rw[eq_of_beq hy]
   |false =>
    rw[lookup_cons,hy] at q
    exact h y d q
  ·rw[if_neg hk] at e
   exact Q5 r acc h x c e
theorem Q6:∀(l:List (Str×NameKind))(acc:List (Str×Addr))(x:Str)(c:Addr),(lH env l acc).lookup x=some c->(acc.lookup x).isSome=true\/(x,NameKind.free)∈l
 |[],_,x,c,e=>.inl (by unfold lH at e;rw[e];rfl)
 | (n,k)::r,acc,x,c,e=>by
  unfold lH at e
  by_cases hk:(k==NameKind.free)=true
  ·rw[if_pos hk] at e
   rcases Q6 r _ x c e with h|h
   ·cases hy:x==n with
    |true =>
     have e1:=eq_of_beq hy
     have e2:=eq_of_beq hk
     subst e1;subst e2
     exact .inr mem_cons_self
    |false =>
     rw[lookup_cons,hy] at h
     exact .inl h
   ·exact .inr (mem_cons_of_mem _ h)
  ·rw[if_neg hk] at e
   rcases Q6 r _ x c e with h|h
   ·exact .inl h
   ·exact .inr (mem_cons_of_mem _ h)
theorem N8:∀(l:List (Str×NameKind))(acc:List (Str×Addr))(x:Str),((acc.lookup x).isSome=true\/(x,NameKind.free)∈l)->((lH env l acc).lookup x).isSome=true
 |[],_,x,h=>by
  rcases h with h|h
  ·exact h
  ·cases h
 | (n,k)::r,acc,x,h=>by
  unfold lH
  by_cases hk:(k==NameKind.free)=true
  ·rw[if_pos hk]
   refine N8 r _ x ?_
   rcases h with h|h
   ·refine .inl ?_
    rw[lookup_cons]
    cases hy:x==n with
    |true=>rfl
    |false=>exact h
   ·rcases mem_cons.mp h with h|h
    ·cases h
     refine .inl ?_
     rw[lookup_cons,beq_self_eq_true]
     rfl
    ·exact .inr h
  ·rw[if_neg hk]
   refine N8 r _ x ?_
   rcases h with h|h
   ·exact .inl h
   ·rcases mem_cons.mp h with h|h
    ·cases h
     exact absurd rfl hk
    ·exact .inr h
theorem Wv{env:Env}:∀{names:List (Str×NameKind)}{x:Str},names.lookup x=some .free ->
  (names.map λ(n,k)=>if(k==NameKind.free&&env.scope.kind==.function&&env.kindOf n==some .cell) then(n,NameKind.cell) else(n,k)).lookup x=some .cell \/
  (names.map λ(n,k)=>if(k==NameKind.free&&env.scope.kind==.function&&env.kindOf n==some .cell) then(n,NameKind.cell) else(n,k)).lookup x=some .free
 |[],_,h=>by simp at h
 | (n,k)::r,x,h=>by
  have ih:=@Wv env r x
  show List.lookup x ((if(k==NameKind.free&&env.scope.kind==.function&&env.kindOf n==some .cell)=true then(n,NameKind.cell) else(n,k))::_)=_\/List.lookup x ((if(k==NameKind.free&&env.scope.kind==.function&&env.kindOf n==some .cell)=true then(n,NameKind.cell) else(n,k))::_)=_
  cases hx:x==n with
  |true =>
   simp only[lookup_cons,hx] at h
   cases h
   by_cases hc:(NameKind.free==NameKind.free&&env.scope.kind==.function&&env.kindOf n==some .cell)=true
   ·rw[if_pos hc];left;simp only[lookup_cons,hx]
   ·rw[if_neg hc];right;simp only[lookup_cons,hx]
  |false =>
   simp only[lookup_cons,hx] at h
   by_cases hc:(k==NameKind.free&&env.scope.kind==.function&&env.kindOf n==some .cell)=true
   ·rw[if_pos hc];simp only[lookup_cons,hx];exact ih h
   ·rw[if_neg hc];simp only[lookup_cons,hx];exact ih h
theorem Q7{env:Env}:∀{names:List (Str×NameKind)}{x:Str}{k:NameKind},(k=.cell\/k=.free) ->
  (names.map λ(n,k)=>if(k==NameKind.free&&env.scope.kind==.function&&env.kindOf n==some .cell) then(n,NameKind.cell) else(n,k)).lookup x=some k->(x,NameKind.free)∈names\/(x,NameKind.cell)∈names
 |[],_,_,_,h=>by simp at h
 | (n,k')::r,x,k,hk,h=>by
  have ih:=@Q7 env r x k hk
  have h':List.lookup x ((if(k'==NameKind.free&&env.scope.kind==.function&&env.kindOf n==some .cell)=true then(n,NameKind.cell) else(n,k'))::(r.map λ(n,k)=>if(k==NameKind.free&&env.scope.kind==.function&&env.kindOf n==some .cell) then(n,NameKind.cell) else(n,k)))=some k:=h
  cases hx:x==n with
  |true =>
   have e:=eq_of_beq hx
   subst e
   by_cases hd:(k'==NameKind.free&&env.scope.kind==.function&&env.kindOf x==some .cell)=true
   ·have e2:k'=.free:=by
     rw[Bool.and_eq_true,Bool.and_eq_true] at hd
     exact eq_of_beq hd.1.1
    subst e2
    exact .inl mem_cons_self
   ·rw[if_neg hd] at h'
    simp only[lookup_cons,hx] at h'
    cases h'
    rcases hk with e|e
    ·subst e;exact .inr mem_cons_self
    ·subst e;exact .inl mem_cons_self
  |false =>
   have g:(x,NameKind.free)∈r\/(x,NameKind.cell)∈r:=by
    refine ih ?_
    by_cases hd:(k'==NameKind.free&&env.scope.kind==.function&&env.kindOf n==some .cell)=true
    ·rw[if_pos hd] at h';simp only[lookup_cons,hx] at h';exact h'
    ·rw[if_neg hd] at h';simp only[lookup_cons,hx] at h';exact h'
   rcases g with g|g
   ·exact .inl (mem_cons_of_mem _ g)
   ·exact .inr (mem_cons_of_mem _ g)
theorem xH:∀(l:List (Str×NameKind))(n:Nat)(acc:List (Str×Addr)),cellsFrom n l acc=cellsFrom n l []++acc
 |[],_,_=>rfl
 | (x,k)::r,n,acc=>by
  unfold cellsFrom
  split
  ·rw[xH r (n+1) ((x,n)::acc),xH r (n+1) [(x,n)]];simp
  ·exact xH r n acc
theorem uV:∀(l:List (Str×NameKind))(n:Nat)(x:Str)(c:Addr),(x,c)∈cellsFrom n l []->(x,NameKind.cell)∈l
 |[],_,_,_,h=>by cases h
 | (y,k)::r,n,x,c,h=>by
  unfold cellsFrom at h
  split at h
  ·rename_i hk
   rw[xH] at h
   rcases mem_append.mp h with h|h
   ·exact mem_cons_of_mem _ (uV r _ x c h)
   ·have e:(x,c)=(y,n):=by simpa using h
    cases e
    rw[eq_of_beq hk]
    exact mem_cons_self
  ·exact mem_cons_of_mem _ (uV r _ x c h)
theorem zC1{s:Shared}{scope:Scope}{Q:Env->Shared->Prop}(hQ:∀h',h'.Ns s.heap.objs.size (λ_=>none)->(∀b o,s.heap.get? b=some o->h'.get? b=some o)->CellsOk h' (s.heap.objs.size+1) (cellsFrom (s.heap.objs.size+1) scope.names []) ->
   Q (newEnv scope s.heap.objs.size globals (cellsFrom (s.heap.objs.size+1) scope.names closure) qual none .none (some outer) builtinsNs) { s with heap:=h' }) :
  wpAny M A (newFunctionEnv scope globals closure [] qual none .none (some outer)) Q E s:=by
 simp only[newFunctionEnv,Option.isSome_some,if_true]
 refine wpAny_bind (wpAny_alloc ?_)
 refine wpAny_bind (wpAny_layCells _ (λname kind cells=>by cases hkc:kind==NameKind.cell<;>simp[hkc]) _ _ _ _ ?_)
 have ok:=cellsFrom_ok scope.names (s.heap.push { cls:=.type "dict",data:=.dict #[] }) (s.heap.objs.size+1) [] ⟨λ_ _ hm=>(nomatch hm),Pairwise.nil⟩ (by rw[size_push];exact Nat.le_refl _)
 rw[size_push] at ok
 rw[show({ s with heap:=s.heap.push { cls:=.type "dict",data:=.dict #[] } }:Shared).heap.objs.size=s.heap.objs.size+1 from size_push ..]
 refine wpAny_bind ?_
 rw[forIn_nil]
 exact wpAny_pure (wpAny_pure (hQ _ ((Heap.Ns.new s.heap (.type "dict")).keeps (pushCells_keeps _ _)) (λb o e=>pushCells_keeps _ _ b o (get?_push_of_some _ e)) ok))
theorem fD.track(x:fD P w H h)(hn:H a=none)(new:aU P w (upd H a o) h a o):fD P w (upd H a o) h:=λb u e=>by
 by_cases hb:b=a
 ·subst hb;rw[zR] at e;cases e;exact new
 ·rw[zP hb] at e
  exact(x b u e).stay (λc v _ q=>q) (λc q=>by rw[zP (zQ q hn)];exact q) λc xs q=>by rw[zP (zQ q hn)];exact q
theorem Un.track(u:Un fs ex H H' h h')(h0:h.get? a=none)(hn:H a=none):Un fs ex H (upd H' a o) h h' where
 keep:=u.keep
 slot:=u.slot
 free:=λb ob q n hx=>by
  rw[zP (λz=>by rw[z,h0] at q;cases q)];exact u.free b ob q n hx
 there:=u.there
 tups:=λb xs q=>by rw[zP (zQ q hn)];exact u.tups b xs q
 jO:=λb ob xs q=>by rw[zP (zQ q hn)];exact u.jO b ob xs q
 kZ:=λb ps q=>by rw[zP (zQ q hn)];exact u.kZ b ps q
def nIn(N:List Str)(own:List Str)(ix:List Nat):List Str:=own++ix.map λj=>N.getD j Str.empty
def jP(σ:St)(n:Nat)(ix:List Nat):St:=replicate n none++ix.map λj=>(σ[j]?).getD none
def cA(X:Cx)(scope:Scope)(own:List Str)(ix:List Nat)(C:Addr)(s:Shared)(H:Hp)(fp:List Addr):Cx :=
 { X with N:=nIn X.N own ix,s₀:=s,H₀:=H,env:=compEnvC scope (cellsFrom (C+1) scope.names (lH X.env scope.names [])) C X.env,outer:=X.stack,stack:=X.stack,ex:=fp,fn:=λx=>scope.names.lookup x==some .cell,pn:=[] }
def N_(Ey:Scope)(oN:List Str)(scope:Scope)(ix:List Nat):Bool :=
 scope.kind==.function &&
 (scope.names.all λy=>(y.2 != .cell||scope.names.lookup y.1==some .cell)&&(y.2 != .local||scope.names.lookup y.1==some .local)&&(y.2 != .free||(Ey.names.lookup y.1==some .cell||Ey.names.lookup y.1==some .free))) &&
 ix.all λj=>match oN[j]? with
  |some x=>scope.names.lookup x==some .free
  |none=>false
structure iy(Ey:Scope)(oN:List Str)(scope:Scope)(ix:List Nat):Prop where
 kind:scope.kind=.function
 Ww:∀y∈scope.names,y.2=.cell->scope.names.lookup y.1=some .cell
 nm:∀y∈scope.names,y.2=.local->scope.names.lookup y.1=some .local
 fr:∀y∈scope.names,y.2=.free->Ey.names.lookup y.1=some .cell\/Ey.names.lookup y.1=some .free
 ix:∀j∈ix,∃x,oN[j]?=some x/\scope.names.lookup x=some .free
theorem Wx(h:N_ Ey oN scope ix=true):iy Ey oN scope ix:=by
 unfold N_ at h
 rw[Bool.and_eq_true,Bool.and_eq_true,all_eq_true,all_eq_true] at h
 obtain⟨⟨h1,h2⟩,h3⟩:=h
 refine⟨eq_of_beq h1,λy hy e=>?_,λy hy e=>?_,λy hy e=>?_,λj hj=>?_⟩
 ·have q:=h2 y hy
  rw[Bool.and_eq_true,Bool.and_eq_true] at q
  rcases Bool.or_eq_true _ _▸q.1.1 with z|z
  ·exact absurd e (bne_iff_ne.mp z)
  ·exact eq_of_beq z
 ·have q:=h2 y hy
  rw[Bool.and_eq_true,Bool.and_eq_true] at q
  rcases Bool.or_eq_true _ _▸q.1.2 with z|z
  ·exact absurd e (bne_iff_ne.mp z)
  ·exact eq_of_beq z
 ·have q:=h2 y hy
  rw[Bool.and_eq_true,Bool.and_eq_true] at q
  rcases Bool.or_eq_true _ _▸q.2 with z|z
  ·exact absurd e (bne_iff_ne.mp z)
  ·rcases Bool.or_eq_true _ _▸z with z|z
   ·exact .inl (eq_of_beq z)
   ·exact .inr (eq_of_beq z)
 ·have q:=h3 j hj
  cases e:oN[j]? with
  |none=>rw[e] at q;cases q
  |some x=>rw[e] at q;exact⟨x,rfl,eq_of_beq q⟩
section
variable{X:Cx}{pins:List (Addr×Obj)}{σ:St}{H:Hp}{s:Shared}{scope:Scope}{own:List Str}{ix:List Nat}
theorem Q8(I:Inv X pins σ H s)(sc:iy X.env.scope X.N scope ix):∀y∈scope.names,y.2=.free->∃c,X.env.cells.lookup y.1=some c:=λy hy e=>by
 rcases sc.fr y hy e with q|q
 ·exact I.ok.has y.1 (.inl q)
 ·exact I.ok.has y.1 (.inr q)
theorem Wy(I:Inv X pins σ H s)(sc:iy X.env.scope X.N scope ix)(e:(lH X.env scope.names []).lookup x=some c):X.env.cells.lookup x=some c:=by
 have h1:=Q5 (env:=X.env) scope.names [] (λx c q=>by simp at q) x c e
 rcases Q6 (env:=X.env) scope.names [] x c e with q|q
 ·simp at q
 ·obtain⟨c',hc⟩:=Q8 I sc (x,.free) q rfl
  have hc':X.env.cells.lookup x=some c':=hc
  rw[hc'] at h1
  rw[hc']
  exact congrArg some h1
theorem zRk(I:Inv X pins σ H s)(sc:iy X.env.scope X.N scope ix)(hx:(x,NameKind.free)∈scope.names)(e:X.env.cells.lookup x=some c):(lH X.env scope.names []).lookup x=some c:=by
 have h1:=N8 (env:=X.env) scope.names [] x (.inr hx)
 obtain⟨c',hc⟩:=Option.isSome_iff_exists.mp h1
 rw[hc]
 have:=Wy I sc hc
 rw[e] at this
 exact this.symm
theorem uM(I:Inv X pins σ H s)(sc:iy X.env.scope X.N scope ix)(e:(cellsFrom (C+1) scope.names (lH X.env scope.names [])).lookup x=some c):(x,c)∈cellsFrom (C+1) scope.names []\/X.env.cells.lookup x=some c:=by
 rw[xH,lookup_append] at e
 cases h:(cellsFrom (C+1) scope.names []).lookup x with
 |some d=>rw[h] at e;cases e;exact .inl (PySem.mem_of_lookup h)
 |none=>rw[h] at e;exact .inr (Wy I sc e)
theorem rQ(h:(jP σ n ix)[i]?=some (some v)):∃j,ix[i-n]?=some j/\σ[j]?=some (some v)/\n<=i:=by
 unfold jP at h
 by_cases hi:i<n
 ·rw[getElem?_append_left (by simpa using hi),getElem?_replicate] at h
  rw[if_pos hi] at h
  cases h
 ·rw[getElem?_append_right (by simpa using hi),List.length_replicate,getElem?_map] at h
  cases e:ix[i-n]? with
  |none=>rw[e] at h;cases h
  |some j =>
   rw[e] at h
   have h':(σ[j]?).getD none=some v:=Option.some.inj h
   refine⟨j,rfl,?_,by omega⟩
   cases e2:σ[j]? with
   |none=>rw[e2] at h';cases h'
   |some o=>rw[e2] at h';exact congrArg some h'
theorem Inv.comp{h₁:Heap}(I:Inv X pins σ H s)(sc:iy X.env.scope X.N scope ix)(fo:∀b∈fp,jj X pins H b)(J4:∀b∈fp,b<s.heap.objs.size)(hC:s.heap.objs.size<=C)(hns:h₁.Ns C m₀)(hk:∀b o,s.heap.get? b=some o->h₁.get? b=some o)(co:CellsOk h₁ (C+1) (cellsFrom (C+1) scope.names [])):Inv (cA X scope own ix C s H fp) [] (jP σ own.length ix) H { s with heap:=h₁,toks:=t' }:=by
 have lt:∀{b:Addr},b<s.heap.objs.size->b≠C:=λ{b} hb=>Nat.ne_of_lt (Nat.lt_of_lt_of_le hb hC)
 have J5:∀{x:Str}{c:Addr},X.env.cells.lookup x=some c->c<C+1:=λ{x c} e=>by
  obtain⟨v,q⟩:=I.cell x c e
  exact Nat.lt_succ_of_lt (Nat.lt_of_lt_of_le q.lt hC)
 have cellK:∀{x:Str}{c:Addr},X.env.cells.lookup x=some c->∀v,s.heap.IsCell c v->h₁.IsCell c v:=λ{x c} _ v ⟨o,ho,hd⟩=>⟨o,hk _ _ ho,hd⟩
 refine⟨⟨I.ok.mod,sc.kind,I.ok.glob,I.ok.blt,hC,λx y c h1 h2=>?_,λx hx=>?_,λx c h e=>by
  have h':scope.names.lookup x=some .cell:=eq_of_beq h
  have e':(cellsFrom (C+1) scope.names (lH X.env scope.names [])).lookup x=some c:=e
  rw[xH,lookup_append] at e'
  obtain⟨d,hd⟩:=Option.isSome_iff_exists.mp (cellsFrom_some scope.names (C+1) [] (.inl h'))
  rw[hd] at e'
  cases e'
  exact Nat.le_trans hC (Nat.le_of_succ_le (co.empty _ _ (PySem.mem_of_lookup hd)).2),I.ok.hd,I.ok.frames,.inl rfl,λb hb=>?_,I.bs,Nat.le_trans I.ok.ur I.sz,λb o e hb=>?_,λb hb z=>?_,I.stack,I.pJ⟩,
  rfl,I.bare,Un.kept hk,⟨m₀,hns,λi x v h1 h2 h3=>?_⟩,λx c h=>?_,I.hok.fresh hC,λx c h=>?_,λp hp=>?_,I.hok.kept hk,?_⟩
 ·rcases uM I sc h1 with q1|q1
  ·rcases uM I sc h2 with q2|q2
   ·exact name_of_addr co.apart q1 q2
   ·exact absurd (Nat.lt_of_lt_of_le (J5 q2) (co.empty _ _ q1).2) (Nat.lt_irrefl _)
  ·rcases uM I sc h2 with q2|q2
   ·exact absurd (Nat.lt_of_lt_of_le (J5 q1) (co.empty _ _ q2).2) (Nat.lt_irrefl _)
   ·exact I.ok.inj x y c q1 q2
 ·have hm:(x,NameKind.free)∈scope.names\/(x,NameKind.cell)∈scope.names:=by
   rcases hx with hx|hx
   ·exact Q7 (env:=X.env) (.inl rfl) hx
   ·exact Q7 (env:=X.env) (.inr rfl) hx
  refine Option.isSome_iff_exists.mp ?_
  show((cellsFrom (C+1) scope.names (lH X.env scope.names [])).lookup x).isSome=true
  rcases hm with hm|hm
  ·exact cellsFrom_some _ _ _ (.inr (N8 (env:=X.env) scope.names [] x (.inr hm)))
  ·exact cellsFrom_some _ _ _ (.inl (sc.Ww _ hm rfl))
 ·obtain⟨f0,f1,f2,f3,f4,f5⟩:=fo b hb
  refine⟨lt (J4 b hb),λx c h=>?_⟩
  rcases uM I sc h with q|q
  ·exactλz=>absurd (Nat.lt_of_lt_of_le (J4 b hb) (Nat.le_trans hC (Nat.le_of_succ_le (z▸(co.empty _ _ q).2)))) (Nat.lt_irrefl _)
  ·exact f4 x c q
 ·obtain⟨f0,f1,f2,f3,f4,f5⟩:=fo b hb
  rcases f3 with z|z
  ·exact I.ok.q_ b o e z
  ·exact absurd (Nat.lt_of_lt_of_le (lt_size e) (Nat.le_trans I.ok.ur z)) (Nat.lt_irrefl _)
 ·obtain⟨f0,f1,f2,f3,f4,f5⟩:=fo b hb
  rcases mem_cons.mp (I.lW b z) with z|z
  ·exact f1 z
  ·exact f2 z
 ·obtain⟨j,hj,hv,hn⟩:=rQ h2
  obtain⟨y,hy,hf⟩:=sc.ix j (mem_of_getElem? hj)
  have e:y=x:=by
   have h1':(nIn X.N own ix)[i]?=some x:=h1
   unfold nIn at h1'
   rw[getElem?_append_right hn,getElem?_map,hj] at h1'
   have J6:X.N.getD j Str.empty=x:=Option.some.inj h1'
   rw[getD_eq_getElem?_getD,hy] at J6
   exact J6
  subst e
  have hm:(y,NameKind.free)∈scope.names:=PySem.mem_of_lookup hf
  have vis:Ni X.env.scope y:=by
   rcases sc.fr _ hm rfl with q|q
   ·exact .inr (.inl q)
   ·exact .inr (.inr q)
  obtain⟨m,_,hl⟩:=I.loc
  obtain⟨u,r,l⟩:=hl j y v hy hv vis
  refine⟨u,r,?_⟩
  rcases l with⟨hk',_⟩|⟨_,c,hc,hcell⟩
  ·have hk'':X.env.scope.names.lookup y=some .local:=hk'
   rcases sc.fr _ hm rfl with q|q
   ·have q':X.env.scope.names.lookup y=some .cell:=q
    rw[hk''] at q';cases q'
   ·have q':X.env.scope.names.lookup y=some .free:=q
    rw[hk''] at q';cases q'
  ·refine .inr ⟨Wv (env:=X.env) hf,c,?_,cellK hc _ hcell⟩
   show(cellsFrom (C+1) scope.names (lH X.env scope.names [])).lookup y=some c
   rw[xH,lookup_append,zRk I sc hm hc]
   cases e:(cellsFrom (C+1) scope.names []).lookup y with
   |none=>rfl
   |some d =>
    have q:=sc.Ww _ (uV _ _ _ _ (PySem.mem_of_lookup e)) rfl
    have q':scope.names.lookup y=some .cell:=q
    rw[hf] at q';cases q'
 ·rcases uM I sc h with q|q
  ·exact⟨_,(co.empty _ _ q).1⟩
  ·obtain⟨v,z⟩:=I.cell x c q
   exact⟨v,cellK q v z⟩
 ·rcases uM I sc h with q|q
  ·exact I.hok.fresh (Nat.le_trans hC (Nat.le_of_succ_le (co.empty _ _ q).2))
  ·exact I.fG x c q
 ·exact absurd (show p∈([]:List (Addr×Obj)) from hp) (by simp)
 ·show(jP σ own.length ix).length=(nIn X.N own ix).length
  unfold jP nIn
  simp
end
def rR(X:Cx)(ifs:List Expr)(t:TT):Prop :=
 ∀(pins:List (Addr×Obj))(s:Shared)(σ:St)(H:Hp)(Q:Bool->Hp->Prop),Inv X pins σ H s->t σ H Q ->
  wpAny (model X.prog X.w) X.A (forIn ifs true λc r=>if r=true then do let ok <-isTrue c X.env (eval c X.env);pure (ForInStep.yield ok) else pure (ForInStep.yield r)) (TP X pins σ Q) X.xe s
def wj:TT:=λ_ H Q=>Q true H
theorem wD:rR X [] wj:=λ_ _ _ H _ I h=>wpAny_tests_nil ⟨H,I,h⟩
theorem J7(h:PT X c t):rR X [c] t:=λpins s σ H Q I q=>wpAny_tests_one (h pins s σ H Q I q)
def Oa(n:Nat)(ix:List Nat)(g:TG)(tc:TT)(te:TE)(σ:St)(Q:VK)(J:It)(H1:Hp):Prop :=
 ∃W:Nat->Nat->List V->St->Hp->Prop,(∃m,W 0 m [] (jP σ n ix) H1)/\∀i m ys σ2 H2,W i m ys σ2 H2 ->
  (J.stop i H2/\ys.length<=sizeLine/\∀p,H2 p=none->Q (.ref p) (upd H2 p (.lst ys))) \/
  (J.go i H2/\ys.length<sizeLine/\∃N:List V->St->Hp->Prop,(∀ys' σ' H',N ys' σ' H'->∃m',m'<m/\W (i+1) m' ys' σ' H') /\
   ∀x H3,J.Il i H2 x H3->g x σ2 H3 λσ4 H4=>tc σ4 H4 λb H5=>if b=true then te σ4 H5 λy H6=>N (ys++[y]) σ4 H6 else N ys σ4 H5)
def Ob(n:Nat)(ix:List Nat)(wi:TI)(g:TG)(tc:TT)(te:TE):TE:=λσ H Q=>wi σ H (Oa n ix g tc te σ Q)
def Q9(X:Cx)(pins:List (Addr×Obj))(σ:St)(Q:VK)(acc:Value)(C:Addr)(s':Shared):Prop :=
 ∃p H',acc=.ref p/\Inv X pins σ H' s'/\(∃m,s'.heap.Ns C m)/\jj X pins H' C/\Q (.ref p) H'
theorem Q_{X:Cx}{α:Type}{t:Sem α}{Q Q':α->Shared->Prop}(hx:X.xe=λ_ _=>False)(h:wpAny M A t Q X.xe s)(hQ:∀a s,Q a s->Q' a s):wpAny M A t Q' E s :=
 wpAny_mono h hQ λe s' z=>by rw[hx] at z;exact z.elim
section
variable{X:Cx}{elt tg iter:Expr}{ifs:List Expr}{scope:Scope}{pos:Pos}{own:List Str}{ix:List Nat}{wi:TI}{g:TG}{tc:TT}{te:TE}
theorem Wz{RR:Value->Addr->Result->Shared->Prop}(hx:X.xe=λ_ _=>False)(hc:X.calm=true)(sc:iy X.env.scope X.N scope ix)(I:Inv X pins σ H s)(T:Turn X.prog X.w X.K tg J fp it tn)(st:tn 0 s.heap)(fo:∀b∈fp,jj X pins H b)(hg:∀C s H fp,PG (cA X scope own ix C s H fp) tg g)(hif:∀C s H fp,rR (cA X scope own ix C s H fp) ifs tc)(he:∀C s H fp,PE (cA X scope own ix C s H fp) elt te)(rd:Oa own.length ix g tc te σ Q J H)(hRR:∀acc C s',Q9 X pins σ Q acc C s'->RR acc C (.ok .next) s') :
  wpAny (model X.prog X.w) X.A (newList []) (λacc s₃=>wpAny (model X.prog X.w) X.A (newFunctionEnv scope X.env.globals (lH X.env scope.names []) [] X.env.qual none .none (some X.env)) (λcenv s₄ =>
   codeAny (model X.prog X.w) X.A (.compStart (.ListComp elt [⟨tg,iter,ifs,0⟩] scope pos) 0 (.ref it) acc { cenv with scope:=relabel scope X.env }) (RR acc cenv.locals) s₄) E s₃) E s:=by
 refine wpAny_newObj_type (zC1 (λh₁ hns₁ hsb₁ co=>?_))
 dsimp only at hns₁ hsb₁ co ⊢
 generalize hD':s.heap.objs.size=D at hns₁ hsb₁ co ⊢
 generalize hH2:s.heap.push { cls:=.type "list",dict:=none,data:=.seq ([]:List Value).toArray }=G at hns₁ hsb₁ co ⊢
 generalize hC':G.objs.size=C at hns₁ hsb₁ co ⊢
 have hC:C=D+1:=by rw[<-hC',<-hH2,size_push,hD']
 have hDC:D≠C:=by rw[hC];exact Nat.ne_of_lt (Nat.lt_succ_self _)
 have hle:s.heap.objs.size<=C:=by rw[hC,hD'];exact Nat.le_succ _
 have old:∀b o,s.heap.get? b=some o->h₁.get? b=some o:=λb o e=>by
  exact hsb₁ b o (hH2▸get?_push_of_some _ e)
 have oD:h₁.get? D=some { cls:=.type "list",data:=.seq ([]:List Value).toArray 0 }:=by
  refine hsb₁ D _ ?_
  rw[<-hH2,<-hD']
  exact get?_push_size _ rfl
 have J4:∀b∈fp,b<s.heap.objs.size:=λb hb=>by
  obtain⟨o,e,_⟩:=T.obj 0 _ st b hb
  exact lt_size e
 have WD:∀b∈fp,b≠D:=λb hb=>by rw[<-hD'];exact Nat.ne_of_lt (J4 b hb)
 have sD:s.heap.get? D=none:=by
  cases e:s.heap.get? D with
  |none=>rfl
  |some o=>exact absurd (lt_size e) (by rw[hD'];exact Nat.lt_irrefl _)
 have WK:H D=none:=I.hok.fresh (by rw[hD'];exact Nat.le_refl _)
 have I0:Inv (cA X scope own ix C s H fp) [] (jP σ own.length ix) H { s with heap:=h₁ }:=I.comp sc fo J4 hle hns₁ old co
 have st0:tn 0 h₁:=T.keep 0 _ _ st λb _ o e=>old b o e
 have hx':(cA X scope own ix C s H fp).xe=λ_ _=>False:=hx
 have J8:D≠(cA X scope own ix C s H fp).env.locals:=hDC
 have Dex:D∈(cA X scope own ix C s H fp).ex\/(cA X scope own ix C s H fp).s₀.heap.objs.size<=D:=.inr (by show s.heap.objs.size<=D;rw[hD'];exact Nat.le_refl _)
 have Dfs:D∉(cA X scope own ix C s H fp).fs:=I0.DG (a:=D) |> λk=>λz=>by
  have z':D∈frs X.stack:=z
  rcases mem_cons.mp (I.lW D z') with q|q
  ·exact absurd (q▸I.lt) (by rw[hD'];exact Nat.lt_irrefl _)
  ·exact I.DG (by rw[hD'];exact Nat.le_refl _) q
 have J9:∀x c,(cA X scope own ix C s H fp).env.cells.lookup x=some c->c≠D:=λx c e z=>by
  rcases uM I sc e with q|q
  ·have w1:=(co.empty _ _ q).2
   rw[z,hC] at w1
   omega
  ·obtain⟨v,q⟩:=I.cell x c q
   exact absurd (Nat.lt_of_lt_of_le q.lt (by rw[z,hD'];exact Nat.le_refl _)) (Nat.lt_irrefl _)
 have Ra:∀{H':Hp}{pl:List (Addr×Obj)},(∀b∈fp,H' b=none)->(∀p∈pl,p.1=D)->∀b∈fp,jj (cA X scope own ix C s H fp) pl H' b:=λ{H' pl} hn hp b hb=>by
  obtain⟨f0,f1,f2,f3,f4,f5⟩:=fo b hb
  refine⟨hn b hb,(I0.ok.Nj b hb).1,I0.ok.rA b hb,.inl hb,(I0.ok.Nj b hb).2,λp hp' z=>?_⟩
  rcases mem_append.mp hp' with q|q
  ·exact absurd (show p∈([]:List (Addr×Obj)) from q) (by simp)
  ·exact WD b hb (by rw[<-z];exact hp p q)
 obtain⟨W,⟨m0,w0⟩,step⟩:=rd
 have loop:codeAny (model X.prog X.w) X.A (.compLoop (.ListComp elt [⟨tg,iter,ifs,0⟩] scope pos) 0 (.ref it) (.ref D) (cA X scope own ix C s H fp).env) (RR (.ref D) C) { s with heap:=h₁ }:=by
  refine zHt (λn s'=>∃i ys σ' H' its k,Inv (cA X scope own ix C s H fp) [] σ' H' s'/\tn i s'.heap/\(∀b∈fp,H' b=none)/\H' D=none/\s'.heap.get? D=some { cls:=.type "list",data:=.seq (toArray its) k }/\Vals ys its/\W i n ys σ' H') ?_ m0
   ⟨0,[],_,H,[],0,I0,st0,λb hb=>(fo b hb).1,WK,oD,.nil,w0⟩
  rintro n s1 ⟨i,ys,σ1,H1,its,k,I1,WL,WM,D1,o1,Oc,w1⟩
  have J1:Inv (cA X scope own ix C s H fp) [(D,{ cls:=.type "list",data:=.seq (toArray its) k })] σ1 H1 s1:=I1.iH λp hp=>by
   have e:p=(D,{ cls:=.type "list",data:=.seq (toArray its) k }):=by simpa using hp
   subst e
   exact⟨o1,D1,J8,Dfs,λv z=>by cases z⟩
  have single:∀p∈[((D,{ cls:=.type "list",data:=.seq (toArray its) k }):Addr×Obj)],p.1=D:=λp hp=>by
   have e:p=(D,{ cls:=.type "list",data:=.seq (toArray its) k }):=by simpa using hp
   rw[e]
  rcases step i n ys σ1 H1 w1 with⟨stop,hz,qn⟩|⟨go,hz,N,hN,stp⟩
  ·refine aO (T.done (cA X scope own ix C s H fp) rfl rfl rfl hc i _ s1 σ1 H1 _ J1 (Ra WM single) WL stop) λr s2 ⟨hr,I2⟩=>?_
   subst hr
   obtain⟨e2,_⟩:=I2.pin (D,{ cls:=.type "list",data:=.seq (toArray its) k }) (mem_append_right _ (by simp))
   obtain⟨m2,Rb,_⟩:=I2.loc
   refine hRR _ _ _ ⟨D,upd H1 D (.lst ys),rfl,?_,⟨m2,Rb⟩,?_,qn D D1⟩
   ·refine I.call' (ch:=fp) I2.os (Un.track I2.base sD WK) (I2.hok.track D1 ⟨hz,its,k,Oc,e2⟩) I2.bare λb hb=>?_
    obtain⟨f0,f1,f2,f3,f4,f5⟩:=fo b hb
    exact⟨f3,f1,f4,f5⟩
   ·refine I.lq hle ?_
    rw[zP hDC.symm]
    exact I2.free
  ·refine aO (T.item (cA X scope own ix C s H fp) rfl rfl rfl hc i _ s1 σ1 H1 _ J1 (Ra WM single) WL go) λr s2 ⟨u,hr,h2⟩=>?_
   subst hr
   refine aO h2 λ_ s3 ⟨x,H3,I3,rx,y3,Rc,Nv⟩=>?_
   have I3':=I3.pinned (Ra Nv single) (T.obj _ _ Rc)
   refine Q_ hx' (hg C s H fp _ s3 σ1 H3 x u _ I3' rx (stp x H3 y3)) λ_ s4 ⟨σ4,H4,I4,q4⟩=>?_
   refine Q_ hx' (hif C s H fp _ s4 σ4 H4 _ I4 q4) λb s5 ⟨H5,I5,q5⟩=>?_
   have back:∀{σ7:St}{H7:Hp}{s7:Shared},Inv (cA X scope own ix C s H fp) ([(D,{ cls:=.type "list",data:=.seq (toArray its) k })]++Eb fp s3.heap) σ7 H7 s7 ->
     tn (i+1) s7.heap/\(∀b∈fp,H7 b=none)/\H7 D=none/\s7.heap.get? D=some { cls:=.type "list",data:=.seq (toArray its) k }:=λ{σ7 H7 s7} I7=>by
    have J_:=I7.pin (D,{ cls:=.type "list",data:=.seq (toArray its) k }) (mem_append_right _ (mem_append_left _ (by simp)))
    refine⟨T.keep _ _ _ Rc λb hb o e=>(I7.pin (b,o) (mem_append_right _ (mem_append_right _ (uC hb e)))).1,λb hb=>?_,J_.2.1,J_.1⟩
    obtain⟨o,e,d⟩:=T.obj _ _ Rc b hb
    exact(I7.pin (b,o) (mem_append_right _ (mem_append_right _ (uC hb e)))).2.1
   cases b with
   |false =>
    obtain⟨m',hm,w'⟩:=hN _ _ _ (show N ys σ4 H5 from q5)
    obtain⟨b1,b2,b3,b4⟩:=back I5
    exact⟨m',hm,i+1,ys,σ4,H5,its,k,I5.iH (λp hp=>absurd hp (by simp)),b1,b2,b3,b4,Oc,w'⟩
   |true =>
    rw[if_pos rfl]
    refine Q_ hx' (he C s H fp _ s5 σ4 H5 _ I5 q5) λv s6 ⟨y,H6,I6,ry,q6⟩=>?_
    obtain⟨m',hm,w'⟩:=hN _ _ _ q6
    obtain⟨b1,b2,b3,b4⟩:=back I6
    have zl:its.length=ys.length:=Oc.length.symm
    refine call_meets F.slot_list_append ⟨_,b4,rfl⟩ F.entry_list_append (F.args_list_append_2 _ _) (PySem.list_append D its.toArray k v (by rw[size_toArray];omega)) ⟨b4,?_⟩
    have q:=PySem.IsL.update b4 (λxs=>xs.push v)
    have keep:∀b o,b≠D->s6.heap.get? b=some o->(s6.heap.update D (Obj.mapSeq λxs=>xs.push v)).get? b=some o:=λb o hb e=>(get?_update_other s6.heap _ (Ne.symm hb)).trans e
    refine⟨m',hm,i+1,ys++[y],σ4,H6,its++[v],(if(its.toArray.push v).size==its.toArray.size then k else k+1),?_,T.keep _ _ _ b1 (λb hb o e=>keep b o (WD b hb) e),b2,b3,?_,Oc.append (.cons ry .nil),w'⟩
    ·exact(I6.iH (Bw:=[]) λp hp=>absurd hp (by simp)).turned (t':=s6.toks) keep b3 J8 Dex J9 λp hp=>absurd (show p∈([]:List (Addr×Obj)) from hp) (by simp)
    ·rw[show(its++[v]).toArray=its.toArray.push v by simp]
     exact q
 exact codeAny_compStart_list loop (T.self X.A 0 _ _ _ st0 loop)
theorem vD(hx:X.xe=λ_ _=>False)(hc:X.calm=true)(ho:N_ X.env.scope X.N scope ix=true)(hi:PI X tg iter wi)(hg:∀C s H fp,PG (cA X scope own ix C s H fp) tg g)(hif:∀C s H fp,rR (cA X scope own ix C s H fp) ifs tc)(he:∀C s H fp,PE (cA X scope own ix C s H fp) elt te)(hs:∀x,foldedSetIterable iter X.env x=pure x:=by intro _;rfl):PE X (.ListComp elt [⟨tg,iter,ifs,0⟩] scope pos) (Ob own.length ix wi g tc te):=by
 intro pins s σ H Q I h
 have sc:=Wx ho
 rw[eval_ListComp]
 refine wpAny_comprehension_free (use:=none) rfl hs (Wu (Q8 I sc)) sc.kind sc.nm (aO (hi pins s σ H _ I h) λv s1 h1=>aO h1 λitv s2 h2=>?_)
 obtain⟨it,fp,tn,J,H2,e,I2,T,st2,f2,rd⟩:=h2
 subst e
 refine Wz (RR:=λacc C=>compPost (model X.prog X.w) X.A X.xe none (EP X pins σ Q) acc C) hx hc sc I2 T st2 f2 hg hif he rd ?_
 rintro acc C s' ⟨p,H',rfl,I',⟨m,hns⟩,fC,q⟩
 obtain⟨f0,f1,f2,f3,f4,f5⟩:=fC
 exact⟨m,hns,λh' hs'=>⟨.ref p,H',I'.turned (t':=s'.toks) (λb o hb e=>(hs'.2 b hb).trans e) f0 f1 f3 f4 f5,rfl,q⟩⟩
theorem Ce{spos:Pos}(hN:X.N.Nodup)(hi':X.N[i]?=some x)(WQ:X.env.scope.names.lookup x=some .local)(hx:X.xe=λ_ _=>False)(hc:X.calm=true)(ho:N_ X.env.scope X.N scope ix=true)(hi:PI X tg iter wi)(hg:∀C s H fp,PG (cA X scope own ix C s H fp) tg g)(hif:∀C s H fp,rR (cA X scope own ix C s H fp) ifs tc)(he:∀C s H fp,PE (cA X scope own ix C s H fp) elt te)(hsw:swapsWith (.ListComp elt [⟨tg,iter,ifs,0⟩] scope pos) (some (.Name x pos')) spos.line X.env=pure true:=by rfl)(hs:∀x,foldedSetIterable iter X.env x=pure x:=by intro _;rfl):PS X (.Assign [.Name x pos'] (.ListComp elt [⟨tg,iter,ifs,0⟩] scope pos) spos) (lg (Ob own.length ix wi g tc te) (m5 i)):=by
 intro pins s σ H D I h
 have sc:=Wx ho
 rw[exec_Assign_Name_used _ _ _ _ hsw]
 refine wpAny_bind (wpAny_standAt (wpAny_bind ?_))
 show wpAny _ X.A (do let _ <-comprehension (.ListComp elt [⟨tg,iter,ifs,0⟩] scope pos) scope X.env _ (newList []) false (eval iter X.env) (some (assign (.Name x pos') X.env))) _ _ s
 refine wpAny_bind (wpAny_mono (wpAny_comprehension_free (use:=some (assign (.Name x pos') X.env)) (Q:=λ_ s'=>SP X pins D .next s') rfl hs (Wu (Q8 I sc)) sc.kind sc.nm
  (aO (hi pins s σ H _ I h) λv s1 h1=>aO h1 λitv s2 h2=>?_)) (λ_ s' hq=>wpAny_pure (wpAny_pure hq)) λ_ _ e=>e)
 obtain⟨it,fp,tn,J,H2,e,I2,T,st2,f2,rd⟩:=h2
 subst e
 refine Wz (RR:=λacc C=>compPost (model X.prog X.w) X.A X.xe (some (assign (.Name x pos') X.env)) (λ_ s'=>SP X pins D .next s') acc C) hx hc sc I2 T st2 f2 hg hif he rd ?_
 rintro acc C s' ⟨p,H',rfl,I',⟨m,hns⟩,fC,q⟩
 obtain⟨f0,f1,f2,f3,f4,f5⟩:=fC
 show wpAny _ X.A (assign (.Name x pos') X.env (.ref p)) _ _ _
 refine wpAny_assign_Name (Vo (v:=.ref p) I' hN hi' (.inl WQ) rfl (λs'' I'' ⟨a,hsa,ha⟩=>?_) (.inr WQ))
 have haC:C≠a:=by
  rcases ha with ha|ha
  ·rw[ha];exact f1
  ·exact(f4 x a ha).symm
 exact⟨m,hns.sameBut hsa haC,λh' hs'=>⟨_,H',I''.turned (t':=s''.toks) (λb o hb e=>(hs'.2 b hb).trans e) f0 f1 f3 f4 f5,q⟩⟩
end
section
variable{n:Nat}{ix:List Nat}{g:TG}{tc:TT}{te:TE}{σ:St}{Q:VK}{H:Hp}
theorem WR{K:PySem.W.Frag}{a:Addr}{xs:List V}(Pv:Nat->List V->St->Hp->Prop)(h0:Pv 0 [] (jP σ n ix) H)(hl:∀i ys σ H,i<=xs.length->Pv i ys σ H->aZ K H a xs/\ys.length<=i)(hz:xs.length<sizeLine)(hs:∀i x ys σ H,xs[i]?=some x->Pv i ys σ H->g x σ H λσ4 H4=>tc σ4 H4 λb H5=>if b=true then te σ4 H5 λy H6=>Pv (i+1) (ys++[y]) σ4 H6 else Pv (i+1) ys σ4 H5)(hd:∀ys σ H,Pv xs.length ys σ H->∀p,H p=none->Q (.ref p) (upd H p (.lst ys))):Oa n ix g tc te σ Q (Im K a) H:=by
 refine⟨λi m ys σ H=>m=xs.length-i/\i<=xs.length/\Pv i ys σ H,⟨xs.length,by simp,Nat.zero_le _,h0⟩,?_⟩
 rintro i m ys σ H ⟨rfl,hi,p⟩
 obtain⟨q,hy⟩:=hl i ys σ H hi p
 by_cases hlt:i<xs.length
 ·refine .inr ⟨⟨xs,xs[i],q,by simp[hlt]⟩,by omega,Pv (i+1),λys' σ' H' p'=>⟨xs.length-(i+1),by omega,rfl,hlt,p'⟩,λx H' y=>?_⟩
  obtain⟨e,y⟩:=y
  subst e
  exact hs i x ys σ _ (y xs q) p
 ·have e:i=xs.length:=by omega
  subst e
  exact .inl ⟨⟨xs,q,Nat.le_refl _⟩,by omega,hd ys σ H p⟩
theorem zLu{lo:Int}{k:Nat}(Pv:Nat->List V->St->Hp->Prop)(h0:Pv 0 [] (jP σ n ix) H)(hl:∀i ys σ H,i<=k->Pv i ys σ H->ys.length<=i)(hz:k<sizeLine)(hs:∀i ys σ H,i<k->Pv i ys σ H->g (.int (lo+i)) σ H λσ4 H4=>tc σ4 H4 λb H5=>if b=true then te σ4 H5 λy H6=>Pv (i+1) (ys++[y]) σ4 H6 else Pv (i+1) ys σ4 H5)(hd:∀ys σ H,Pv k ys σ H->∀p,H p=none->Q (.ref p) (upd H p (.lst ys))):Oa n ix g tc te σ Q (Nu lo k) H:=by
 refine⟨λi m ys σ H=>m=k-i/\i<=k/\Pv i ys σ H,⟨k,by simp,Nat.zero_le _,h0⟩,?_⟩
 rintro i m ys σ H ⟨rfl,hi,p⟩
 have hy:=hl i ys σ H hi p
 by_cases hlt:i<k
 ·refine .inr ⟨hlt,by omega,Pv (i+1),λys' σ' H' p'=>⟨k-(i+1),by omega,rfl,hlt,p'⟩,λx H' y=>?_⟩
  obtain⟨e,y⟩:=y
  subst e y
  exact hs i ys σ _ hlt p
 ·have e:i=k:=by omega
  subst e
  exact .inl ⟨Nat.le_refl _,by omega,hd ys σ H p⟩
end
def Ite(K:PySem.W.Frag)(a:Addr):It :=
 ⟨λi H=>∃xs x,aZ K H a xs/\xs[i]?=some x,λi H v H'=>∃t x,v=.ref t/\H t=none/\H'=upd H t (.tup [.int i,x])/\∀xs,aZ K H a xs->xs[i]?=some x,λi H=>∃xs,aZ K H a xs/\xs.length<=i⟩
theorem zMg{P:Program}{w:World}{K:PySem.W.Frag}{elts:List Expr}{k:Nat}{tp:Pos}(a e it:Addr)(hne:e≠it) :
  Turn P w K (.Tuple elts k tp) (Ite K a) [e,it] e (λi h=>(∃old,IsEnum h e it ((i:Nat):Int) old)/\h.IsListIter it a i) where
 mem:=by simp
 obj:=λi h st b hb=>by
  obtain⟨⟨old,he⟩,o,ho,c,d⟩:=st
  have hb':b=e\/b=it:=by simpa using hb
  rcases hb' with rfl|rfl
  ·exact⟨_,he,λv z=>by
    have z':Data.fields _=Data.cell v:=z
    cases z'⟩
  ·exact⟨o,ho,λv z=>by rw[d] at z;cases z⟩
 keep:=λi h h' st k=>⟨let⟨old,he⟩:=st.1;⟨old,k e (by simp) _ he⟩,st.2.at λo q=>k it (by simp) o q⟩
 item:=by
  intro X hP hw hK hc i pins s σ H E I hf st hg
  subst hP hw hK
  obtain⟨xs,x,hq,hx⟩:=hg
  obtain⟨its,rv,p,hz⟩:=I.list hq
  obtain⟨u,hu,ru⟩:=rv.get hx
  obtain⟨⟨old,he⟩,hit⟩:=st
  obtain⟨f0,f1,f2,f3,f4,f5⟩:=hf e (by simp)
  obtain⟨g0,g1,g2,g3,g4,g5⟩:=hf it (by simp)
  refine wpAny_pyNext_enum_item he hit p.isList (x:=u) (by simpa using hu) hne λh₁ heo hit₁ ht₁ hz₁ hk₁=>?_
  refine⟨_,rfl,wpAny_letOwnedTupleGo_enum (s:={ s with heap:=h₁,toks:=s.toks+1 }) heo λh₂ he₂ hs₂=>?_⟩
  replace hs₂:SameBut e h₁ h₂:=hs₂
  have hel:e<s.heap.objs.size:=lt_size he
  have nT:H s.heap.objs.size=none:=I.hok.fresh (Nat.le_refl _)
  have ht₂:h₂.get? s.heap.objs.size=some { cls:=.type "tuple",data:=.seq #[.int i s.toks,u] }:=(hs₂.2 _ (Nat.ne_of_gt hel)).trans ht₁
  have kk:∀b o,b≠e->b≠it->s.heap.get? b=some o->h₂.get? b=some o:=λb o h1 h2 q=>(hs₂.2 b h1).trans (hk₁ b o h1 h2 q)
  have lt:∀b o,s.heap.get? b=some o->b≠s.heap.objs.size:=λb o q=>Nat.ne_of_lt (lt_size q)
  have there:∀b o,s.heap.get? b=some o->b∉[e,it]->∃o',h₂.get? b=some o':=λb o q hx=>⟨o,kk b o (λz=>hx (by simp[z])) (λz=>hx (by simp[z])) q⟩
  have U:Un (frs X.stack) [e,it] H (upd H s.heap.objs.size (.tup [.int i,x])) s.heap h₂ :=
   ⟨λb o q _ _ hx=>kk b o (λz=>hx (by simp[z])) (λz=>hx (by simp[z])) q,λb o q _ _ hx=>⟨o.slots,kk b o (λz=>hx (by simp[z])) (λz=>hx (by simp[z])) q⟩,
    λb o q n _=>by rw[zP (lt b o q)];exact n,there,λb ys q=>by rw[zP (zQ q nT)];exact q,λb o ys q=>by rw[zP (zQ q nT)];exact q,λb ps q=>⟨#[],by rw[zP (zQ q nT),q];simp⟩⟩
  have ok:fD X.prog X.w (upd H s.heap.objs.size (.tup [.int i,x])) h₂:=λb o q=>by
   by_cases hb:b=s.heap.objs.size
   ·subst hb
    rw[zR] at q
    cases q
    exact⟨by show 2<=sizeLine;decide,[.int i s.toks,u],.cons ⟨_,rfl⟩ (.cons ru .nil),⟨_,ht₂,rfl,_,rfl⟩⟩
   ·rw[zP hb] at q
    refine(I.hok b o q).stay (λc v hc' z=>?_) (λc z=>by rw[zP (zQ z nT)];exact z) λc ys z=>by rw[zP (zQ z nT)];exact z
    have hcs:∃o',H c=some o':=by
     rcases hc' with rfl|hc'
     ·exact⟨o,q⟩
     ·exact⟨_,hc'⟩
    obtain⟨o',ho'⟩:=hcs
    exact kk c v (zQ ho' f0) (zQ ho' g0) z
  have I2:=I.call (h':=h₂) (g':=s.gens) (t':=s.toks+1) (d':=s.drawn) (ch:=[e,it]) U ok I.bare λb hb=>by
   have hb':b=e\/b=it:=by simpa using hb
   rcases hb' with rfl|rfl
   ·exact⟨f3,f1,f4,f5⟩
   ·exact⟨g3,g1,g4,g5⟩
  refine⟨.ref s.heap.objs.size,_,I2,rfl,⟨s.heap.objs.size,x,rfl,nT,rfl,λys hy=>by rw[I.mZ hy hq];exact hx⟩,⟨⟨_,by rw[show((i+1:Nat):Int)=(i:Int)+1 by push_cast;rfl];exact he₂⟩,hit₁.extBut hs₂.extBut hne.symm⟩,λb hb=>?_⟩
  have hb':b=e\/b=it:=by simpa using hb
  obtain⟨o2,ho2,_⟩:=hit
  rcases hb' with rfl|rfl
  ·rw[zP (Nat.ne_of_lt hel)];exact f0
  ·rw[zP (Nat.ne_of_lt (lt_size ho2))];exact g0
 done:=by
  intro X hP hw hK hc i pins s σ H E I hf st hg
  subst hP hw hK
  obtain⟨xs,hq,hx⟩:=hg
  obtain⟨its,rv,p,hz⟩:=I.list hq
  obtain⟨⟨old,he⟩,hit⟩:=st
  obtain⟨g0,g1,g2,g3,g4,g5⟩:=hf it (by simp)
  have hl:=rv.length
  exact wpAny_pyNext_enum_end (I.ok.hd hc) he hit p.isList (by simp;omega) λh' eb=>⟨rfl,I.turned (t':=s.toks) (λb o hb e=>eb b o hb e) g0 g1 g3 g4 g5⟩
 self:=λ_ _ _ _ _ st h=>let⟨⟨_,he⟩,_⟩:=st;wpAny_pyIter_enum he h
def rT(K:PySem.W.Frag)(ta:TA):TI:=λσ H R=>ta σ H λvs H1=>∃a,vs=[.ref a]/\(∃xs,aZ K H1 a xs)/\R (Ite K a) H1
theorem jG:bootBuiltins "enumerate" = some (.type "enumerate"):=by decide +kernel
theorem WT(hg:Gl X "enumerate")(hm:X.mg "enumerate" = none)(ha:PA X [a] ta)(hs:starEach [a] X.env=[(false,eval a X.env)]:=by rfl) :
  PI X (.Tuple elts k tp) (.Call (.Name "enumerate" p) [a] [] pos) (rT X.K ta):=by
 intro pins s σ H R I h
 refine Call_ (rB I hg hm jG (PyProof.Rows.callWith_type1 (aO (ha pos pins s σ H _ I h) λus s1 ⟨vs,H1,I1,r1,q1⟩=>?_) hs rfl))
 obtain⟨l,e,⟨xs,hq⟩,q⟩:=q1
 subst e
 cases r1 with
 |cons r rr =>
  cases rr
  cases r
  obtain⟨its,rv,p,hz⟩:=I1.list hq
  refine call_enumerate_list p.isList λh' hE hI hsz hk=>wpAny_pyIter_enum hE ?_
  have I2:Inv X pins σ H1 { s1 with heap:=h',toks:=s1.toks }:=I1.kept hk
  refine⟨s1.heap.objs.size+1,[s1.heap.objs.size+1,s1.heap.objs.size],_,_,H1,rfl,I2,zMg l _ _ (Nat.succ_ne_self _),⟨⟨.none,hE⟩,hI⟩,λb hb=>?_,q⟩
  have hb':b=s1.heap.objs.size+1\/b=s1.heap.objs.size:=by simpa using hb
  rcases hb' with rfl|rfl
  ·exact I1.lq (Nat.le_succ _) (I1.hok.fresh (Nat.le_succ _))
  ·exact I1.lq (Nat.le_refl _) (I1.hok.fresh (Nat.le_refl _))
theorem zQ9{K:PySem.W.Frag}{a:Addr}{xs:List V}{g:TG}{tb:TS}{D:Ends}{σ:St}{H:Hp}(Pv:Nat->St->Hp->Prop)(h0:Pv 0 σ H)(hl:∀i σ H,i<=xs.length->Pv i σ H->aZ K H a xs)(hs:∀i x t σ H,xs[i]?=some x->H t=none->Pv i σ H->g (.ref t) σ (upd H t (.tup [.int i,x])) λσ2 H2=>tb { D with nx:=Pv (i+1),ct:=Pv (i+1),bk:=D.nx } σ2 H2)(hd:∀σ H,Pv xs.length σ H->D.nx σ H) :
  ∃W:Nat->Nat->St->Hp->Prop,(∃m,W 0 m σ H)/\∀i m σ H,W i m σ H ->
   ((Ite K a).stop i H/\D.nx σ H)\/((Ite K a).go i H/\∃N:St->Hp->Prop,(∀σ' H',N σ' H'->∃m',m'<m/\W (i+1) m' σ' H')/\∀x H',(Ite K a).Il i H x H'->g x σ H' λσ2 H2=>tb { D with nx:=N,ct:=N,bk:=D.nx } σ2 H2):=by
 refine⟨λi m σ H=>m=xs.length-i/\i<=xs.length/\Pv i σ H,⟨xs.length,by simp,Nat.zero_le _,h0⟩,?_⟩
 rintro i m σ H ⟨rfl,hi,p⟩
 have q:=hl i σ H hi p
 by_cases hlt:i<xs.length
 ·refine .inr ⟨⟨xs,xs[i],q,by simp[hlt]⟩,Pv (i+1),λσ' H' p'=>⟨xs.length-(i+1),by omega,rfl,hlt,p'⟩,λx H' y=>?_⟩
  obtain⟨t,x',rfl,ht,rfl,y⟩:=y
  exact hs i x' t σ H (y xs q) ht p
 ·have e:i=xs.length:=by omega
  subst e
  exact .inl ⟨⟨xs,q,Nat.le_refl _⟩,hd σ H p⟩
def Rf(a:Str)(te:TE):TE:=λσ H Q=>te σ H λx H1=>(∃i,x=.int i/\i.natAbs.log2<1920/\Q (.str (a++Str.ofString (toString i))) H1)\/∃z,x=.str z/\z.length<=1000/\Q (.str (a++z)) H1
theorem WW(x y:Str):(x++y).length=x.length+y.length:=by rw[<-strLen_append]
theorem rW{a:Str}(he:PE X e te)(hl:a.length<=1000):PE X (.JoinedStr [.Constant (.str a) j p1,.FormattedValue e (-1) none p2] pos) (Rf a te):=by
 intro pins s σ H Q I h
 refine JoinedStr_many (joinParts_cons (Calls.Constant_str ?_))
 have e0:(Str.empty++a)=a:=by
  cases a with
  |mk c=>show Str.mk _=_;simp[Str.empty]
 refine⟨by rw[e0];exact Nat.le_trans hl (by decide),?_⟩
 rw[e0]
 have I0:=I.tok (s.toks+1)
 refine joinParts_cons (FormattedValue_plain (aO (he pins _ σ H _ I0 h) λu s1 ⟨x,H1,I1,r1,q1⟩=>?_))
 rcases q1 with⟨i,rfl,hd,q⟩|⟨z,rfl,hz,q⟩
 ·obtain⟨t,rfl⟩:=r1
  refine formatField_int_small hd ?_
  have len:(a++Str.ofString (toString i)).length<=sizeLine:=by
   have:=int_text_len_1921 hd
   rw[WW]
   exact Nat.le_trans (show a.length+(Str.ofString (toString i)).length<=4000 by omega) (by decide)
  refine⟨len,joinParts_nil ?_ len⟩
  exact⟨.str (a++Str.ofString (toString i)),H1,(I1.tok (s1.toks+1+1)).tok _,⟨_,rfl⟩,q⟩
 ·obtain⟨t,rfl⟩:=r1
  have len:(a++z).length<=sizeLine:=by
   rw[WW]
   exact Nat.le_trans (show a.length+z.length<=4000 by omega) (by decide)
  refine formatField_str (λt' tk=>?_) (Nat.le_trans hz (by decide))
  refine⟨len,joinParts_nil ?_ len⟩
  exact⟨.str (a++z),H1,(I1.tok tk).tok _,⟨_,rfl⟩,q⟩
def Ez(K:PySem.W.Frag)(c:Value):List V->Hp->VK->Prop:=λxs H Q=>∃x y t b,xs=[x,y]/\RelV y c/\iI K H x t/\kitOne K t c=some b/\Q (.bl b) H
theorem zRm(hc:∀y u,RelV y c->RelV y u->u=c):lX X (.builtin "isinstance") (Ez X.K c):=by
 intro pins s σ H xs us Q I r h
 obtain⟨x,y,t,b,rfl,ry,ty,e,q⟩:=h
 obtain⟨u,v,rfl,ru,rv⟩:=r.two
 obtain rfl:=hc y v ry rv
 exact zOg I ru ty e λtk=>⟨.bl b,H,I.tok tk,rfl,q⟩
theorem Rg:∀y u,RelV y (.type n)->RelV y u->u=.type n:=λy u h1 h2=>by
 cases y<;>first
  | (cases h1;done)
  | (obtain⟨_,e⟩:=h1;cases e;done)
  | (cases h1;cases h2;rfl)
theorem zQv{σ:St}{A B:St->Hp->Prop}(h:A (σ.set i (some x)) H):m5 i x σ H (λσ4 H4=>wj σ4 H4 λb H5=>if b=true then A σ4 H5 else B σ4 H5):=by
 show if true=true then A (σ.set i (some x)) H else B (σ.set i (some x)) H
 rw[if_pos rfl]
 exact h
theorem Ka{X:Cx}{K:PySem.W.Frag}(h:X.K=K){es:List Expr}{k:Nat}{t:Ij}{n:Nat}{pos:Pos}(hc:X.calm=true)(ht:JH X es t)(hn:(assignEach es X.env).length=n:=by rfl)(hst:(assignEach es X.env).findIdx? (·.1)=none:=by rfl):PG X (.Tuple es k pos) (uy K n t):=by
 subst h
 exact uz hc ht hn hst
end L2
namespace Ts
open PySem L2
theorem aJ(h:H p=none)(o:HO):Same H (upd H p o):=λb u q=>by rw[zP (zQ q h)];exact q
theorem _root_.L2.Same.put(s:Same H H')(h:H p=none)(o:HO):Same H (upd H' p o):=λb u q=>by rw[zP (zQ q h)];exact s b u q
def A2{α β:Type}(R:α->β->Prop):List α->List β->Prop
 |[],[]=>True
 |x::xs,y::ys=>R x y/\A2 R xs ys
 |_,_=>False
section
variable{α β:Type}{R R':α->β->Prop}
theorem A2.len:∀{xs:List α}{ys:List β},A2 R xs ys->xs.length=ys.length
 |[],[],_=>rfl
 |_::_,_::_,h=>congrArg (· + 1) (A2.len h.2)
 |[],_::_,h=>h.elim
 |_::_,[],h=>h.elim
theorem A2.imp(f:∀x y,R x y->R' x y):∀{xs:List α}{ys:List β},A2 R xs ys->A2 R' xs ys
 |[],[],_=>trivial
 |_::_,_::_,h=>⟨f _ _ h.1,A2.imp f h.2⟩
 |[],_::_,h=>h.elim
 |_::_,[],h=>h.elim
theorem A2.app:∀{xs:List α}{ys:List β}{xs':List α}{ys':List β},A2 R xs ys->A2 R xs' ys'->A2 R (xs++xs') (ys++ys')
 |[],[],_,_,_,h=>h
 |_::_,_::_,_,_,h,h'=>⟨h.1,A2.app h.2 h'⟩
 |[],_::_,_,_,h,_=>h.elim
 |_::_,[],_,_,h,_=>h.elim
theorem A2.snoc(h:A2 R xs ys)(r:R x y):A2 R (xs++[x]) (ys++[y]):=h.app ⟨r,trivial⟩
theorem A2.at1:∀{xs:List α}{ys:List β}{i:Nat}{x:α},A2 R xs ys->xs[i]?=some x->∃y,ys[i]?=some y/\R x y
 |[],_,_,_,_,e=>by simp at e
 |_::_,_::_,0,_,h,e=>by simp at e;subst e;exact⟨_,rfl,h.1⟩
 |_::_,_::_,i+1,_,h,e=>by
  obtain⟨y,h1,h2⟩:=A2.at1 (i:=i) h.2 (by simpa using e)
  exact⟨y,by simpa using h1,h2⟩
 |_::_,[],_,_,h,_=>h.elim
theorem A2.at2:∀{xs:List α}{ys:List β}{i:Nat}{y:β},A2 R xs ys->ys[i]?=some y->∃x,xs[i]?=some x/\R x y
 |_,[],_,_,_,e=>by simp at e
 |_::_,_::_,0,_,h,e=>by simp at e;subst e;exact⟨_,rfl,h.1⟩
 |_::_,_::_,i+1,_,h,e=>by
  obtain⟨y,h1,h2⟩:=A2.at2 (i:=i) h.2 (by simpa using e)
  exact⟨y,by simpa using h1,h2⟩
 |[],_::_,_,_,h,_=>h.elim
theorem A2.rev:∀{xs:List α}{ys:List β},A2 R xs ys->A2 R xs.reverse ys.reverse
 |[],[],_=>trivial
 |_::_,_::_,h=>by
  rw[reverse_cons,reverse_cons]
  exact(A2.rev h.2).snoc h.1
 |[],_::_,h=>h.elim
 |_::_,[],h=>h.elim
theorem A2.of_map{f:β->α}(h:∀y,R (f y) y):∀ys:List β,A2 R (ys.map f) ys
 |[]=>trivial
 |y::ys=>⟨h y,A2.of_map h ys⟩
end
theorem A2.iz{α β:Type}{f:β->α}:∀{xs:List α}{ys:List β},A2 (λx y=>x=f y) xs ys->xs=ys.map f
 |[],[],_=>rfl
 |_::_,_::_,h=>by rw[map_cons,h.1,A2.iz h.2]
 |[],_::_,h=>h.elim
 |_::_,[],h=>h.elim
class Rp (K:PySem.W.Frag) (α:Type) where
 rp:Hp->V->α->Prop
 mono:∀{F F':Hp}{v:V}{a:α},Same F F'->rp F v a->rp F' v a
abbrev rp(K:PySem.W.Frag){α:Type}[Rp K α]:Hp->V->α->Prop:=Rp.rp (K:=K)
class Nn (K:PySem.W.Frag) (α:Type) [Rp K α]:Prop where
 nn:∀{F:Hp}{v:V}{a:α},rp K F v a->v≠.non
class Sc (K:PySem.W.Frag) (α:Type) [Rp K α] where
 val:α->V
 is:∀{F:Hp}{v:V}{a:α},rp K F v a↔v=val a
 inj:∀{a b:α},val a=val b->a=b
section
variable{K:PySem.W.Frag}
instance:Rp K Int:=⟨λ_ v n=>v=.int n,λ_ h=>h⟩
instance:Rp K Bool:=⟨λ_ v n=>v=.bl n,λ_ h=>h⟩
instance:Rp K Str:=⟨λ_ v n=>v=.str n,λ_ h=>h⟩
instance:Rp K Unit:=⟨λ_ v _=>v=.non,λ_ h=>h⟩
instance{α:Type}[Rp K α]:Rp K (Option α):=⟨λF v a=>match a with
 |none=>v=.non
 |some x=>v≠.non/\rp K F v x,λ{F F' v a} s h=>match a,h with
 |none,h=>h
 |some x,h=>⟨h.1,Rp.mono s h.2⟩⟩
instance{α:Type}[Rp K α]:Rp K (List α):=⟨λF v xs=>∃p vs,v=.ref p/\F p=some (.lst vs)/\A2 (rp K F) vs xs,λs ⟨p,vs,h1,h2,h3⟩=>⟨p,vs,h1,s _ _ h2,h3.imp λ_ _=>Rp.mono s⟩⟩
instance{α β:Type}[Rp K α][Rp K β]:Rp K (α×β):=⟨λF v x=>∃p a b,v=.ref p/\F p=some (.tup [a,b])/\rp K F a x.1/\rp K F b x.2,λs ⟨p,a,b,h1,h2,h3,h4⟩=>⟨p,a,b,h1,s _ _ h2,Rp.mono s h3,Rp.mono s h4⟩⟩
structure lJ where
 ns:LI
instance:Rp K lJ:=⟨λF v x=>∃p,v=.ref p/\aZ K F p (x.ns.map V.int),λs ⟨p,h1,h2⟩=>⟨p,h1,s.seq h2⟩⟩
instance:Nn K Int:=⟨λh=>by cases h;intro e;cases e⟩
instance:Nn K Bool:=⟨λh=>by cases h;intro e;cases e⟩
instance:Nn K Str:=⟨λh=>by cases h;intro e;cases e⟩
instance{α:Type}[Rp K α]:Nn K (List α):=⟨λ⟨_,_,h,_⟩=>by rw[h];intro e;cases e⟩
instance{α β:Type}[Rp K α][Rp K β]:Nn K (α×β):=⟨λ⟨_,_,_,h,_⟩=>by rw[h];intro e;cases e⟩
instance:Sc K Int:=⟨V.int,Iff.rfl,λh=>by cases h;rfl⟩
instance:Sc K Bool:=⟨V.bl,Iff.rfl,λh=>by cases h;rfl⟩
instance:Sc K Str:=⟨V.str,Iff.rfl,λh=>by cases h;rfl⟩
instance{α:Type}[Rp K α][Sc K α][Nn K α]:Sc K (Option α):=⟨λa=>match a with
 |none=>.non
 |some x=>Sc.val K x,λ{F v a}=>match a with
 |none=>Iff.rfl
 |some x=>⟨λh=>Sc.is.mp h.2,λh=>⟨Nn.nn (K:=K) (F:=F) (a:=x) (Sc.is.mpr h),Sc.is.mpr h⟩⟩,λ{a b} h=>match a,b,h with
 |none,none,_=>rfl
 |some x,some y,h=>by rw[Sc.inj (K:=K) (a:=x) (b:=y) h]
 |none,some y,h=>absurd h.symm (Nn.nn (K:=K) (F:=λ_=>none) (a:=y) (Sc.is.mpr rfl))
 |some x,none,h=>absurd h (Nn.nn (K:=K) (F:=λ_=>none) (a:=x) (Sc.is.mpr rfl))⟩
theorem rY{α:Type}[Rp K α][Sc K α]{a:α}(h:rp K F v a):rp K F' v a:=Sc.is.mpr (Sc.is.mp h)
inductive Md|nw|fz|hp
def dif(H H0:Hp):Hp:=λb=>match H0 b with
 |none=>H b
 |some _=>none
def ext(Fa H0 H:Hp):Hp:=λb=>match H0 b with
 |none=>H b
 |some _=>Fa b
structure Bs where
 Fa:Hp
 H0:Hp
abbrev Own:=List (Addr×HO)
def reg(B:Bs)(F H:Hp):Md->Hp
 |.nw=>dif F B.H0
 |.fz=>F
 |.hp=>H
theorem bw:Same (dif H H0) H:=λb o h=>by
 unfold dif at h
 cases e:H0 b with
 |none=>rw[e] at h;exact h
 |some u=>rw[e] at h;cases h
theorem wC(h:H0 b=none):dif H H0 b=H b:=by
 unfold dif
 rw[h]
theorem xZ(s:Same H H'):Same (dif H H0) (dif H' H0):=λb o h=>by
 unfold dif at h ⊢
 cases e:H0 b with
 |none=>rw[e] at h;exact s b o h
 |some u=>rw[e] at h;cases h
structure Ok(B:Bs)(F:Hp)(O:Own)(H:Hp):Prop where
 fh:Same F H
 h0:Same B.H0 H
 fa:∀b o,F b=some o->B.Fa b=some o\/B.H0 b=none
 fo:∀x∈O,F x.1=none/\B.H0 x.1=none/\H x.1=some x.2
 nd:(O.map (·.1)).Nodup
structure bx(B:Bs)(F H:Hp)(O:Own)(F' H':Hp):Prop where
 ff:Same F F'
 hh:Same H H'
 ok:Ok B F' O H'
 nw:∀b,F b=none->H b≠none->F' b=none
section
variable{B:Bs}{F H F' H' F2 H2:Hp}{O:Own}
theorem bx.refl(k:Ok B F O H):bx B F H O F H:=⟨.refl _,.refl _,k,λ_ h _=>h⟩
theorem bx.trans(a:bx B F H O F' H')(b:bx B F' H' O F2 H2):bx B F H O F2 H2 :=
 ⟨a.ff.trans b.ff,a.hh.trans b.hh,b.ok,λq h1 h2=>b.nw q (a.nw q h1 h2) λe=>h2 (a.hh.free e)⟩
theorem bx.new(k:Ok B F O H)(h:H p=none)(o:HO):bx B F H O (upd F p o) (upd H p o):=by
 have fp:=k.fh.free h
 refine⟨aJ fp o,aJ h o,⟨λb u e=>?_,k.h0.put (k.h0.free h) o,λb u e=>?_,λx hx=>?_,k.nd⟩,λb h1 h2=>?_⟩
 ·by_cases q:b=p
  ·subst q;rw[zR] at e ⊢;exact e
  ·rw[zP q] at e ⊢;exact k.fh b u e
 ·by_cases q:b=p
  ·subst q;exact .inr (k.h0.free h)
  ·rw[zP q] at e;exact k.fa b u e
 ·obtain⟨a1,a2,a3⟩:=k.fo x hx
  have q:x.1≠p:=zQ a3 h
  exact⟨by rw[zP q];exact a1,a2,by rw[zP q];exact a3⟩
 ·rw[zP λe=>h2 (by rw[e];exact h)];exact h1
theorem wK(g:bx B F H O F' H')(md:Md):Same (reg B F H md) (reg B F' H' md):=match md with
 |.nw=>xZ g.ff
 |.fz=>g.ff
 |.hp=>g.hh
end
inductive Slot(K:PySem.W.Frag):Type 1
 |un
 |fz (n:Bool) {α:Type} [Rp K α] (a:α)
 |hs {α:Type} [Rp K α] (a:α)
 |nu {α:Type} [Rp K α] (a:α)
 |ow (n:Bool) {α:Type} [Rp K α] (xs:List α)
 |od {α:Type} [Rp K α] (kvs:List (Key×α))
abbrev SL(K:PySem.W.Frag):=List (Slot K)
abbrev jH:Bool->Md
 |true=>.nw
 |false=>.fz
def lo(F:Hp)(O:Own)(H:Hp):Hp:=λb=>if(F b).isSome||(O.any λx=>x.1==b) then none else H b
inductive ak(B:Bs)(F L H:Hp):SL K->St->Own->Prop
 |nil:ak B F L H [] [] []
 |un {sl:SL K} {σ:St} {O:Own} {x:Option V}:ak B F L H sl σ O->ak B F L H (.un::sl) (x::σ) O
 |fz {n:Bool} {α:Type} [Rp K α] {a:α} {sl:SL K} {σ:St} {O:Own} {v:V}:rp K (reg B F H (jH n)) v a->ak B F L H sl σ O->ak B F L H (.fz n a::sl) (some v::σ) O
 |hs {α:Type} [Rp K α] {a:α} {sl:SL K} {σ:St} {O:Own} {v:V}:rp K H v a->ak B F L H sl σ O->ak B F L H (.hs a::sl) (some v::σ) O
 |nu {α:Type} [Rp K α] {a:α} {sl:SL K} {σ:St} {O:Own} {v:V}:rp K (dif L B.H0) v a->ak B F L H sl σ O->ak B F L H (.nu a::sl) (some v::σ) O
 |ow {n:Bool} {α:Type} [Rp K α] {xs:List α} {sl:SL K} {σ:St} {O:Own} {p:Addr} {vs:List V}:A2 (rp K (reg B F H (jH n))) vs xs->ak B F L H sl σ O->ak B F L H (.ow n xs::sl) (some (.ref p)::σ) ((p,.lst vs)::O)
 |od {α:Type} [Rp K α] {kvs:List (Key×α)} {sl:SL K} {σ:St} {O:Own} {p:Addr} {ks:List (Key×V)}:A2 (λ(x:Key×V) (y:Key×α)=>x.1=y.1/\rp K F x.2 y.2) ks kvs->ak B F L H sl σ O->ak B F L H (.od kvs::sl) (some (.ref p)::σ) ((p,.dK ks)::O)
def At(B:Bs)(sl:SL K)(F:Hp)(O:Own)(H:Hp)(σ:St):Prop:=Ok B F O H/\ak B F (lo F O H) H sl σ O
abbrev gU:Slot K->Bool
 |@Slot.ow _ _ _ _ _=>true
 |@Slot.od _ _ _ _=>true
 |_=>false
abbrev oG:Slot K->Bool
 |@Slot.hs _ _ _ _=>true
 |_=>false
section
variable{B:Bs}{F H F' H' L L':Hp}{O O':Own}{sl:SL K}{σ:St}
theorem uE(n:Bool)(hF:Same F F'):Same (reg B F H (jH n)) (reg B F' H' (jH n)):=match n with
 |true=>xZ hF
 |false=>hF
theorem ak.mono(hF:Same F F')(hL:Same L L')(hH:Same H H')(h:ak B F L H sl σ O):ak B F' L' H' sl σ O:=by
 induction h with
 |nil=>exact .nil
 |un _ ih=>exact .un ih
 |fz r _ ih=>exact .fz (Rp.mono (uE _ hF) r) ih
 |hs r _ ih=>exact .hs (Rp.mono hH r) ih
 |nu r _ ih=>exact .nu (Rp.mono (xZ hL) r) ih
 |ow r _ ih=>exact .ow (r.imp λ_ _=>Rp.mono (uE _ hF)) ih
 |od r _ ih=>exact .od (r.imp λ_ _ z=>⟨z.1,Rp.mono hF z.2⟩) ih
theorem ak.mut(hL:Same L L')(h:ak B F L H sl σ O)(hn:sl.all (λs=>!oG s)=true):ak B F L' H' sl σ O:=by
 induction h with
 |nil=>exact .nil
 |un _ ih=>exact .un (ih (by rw[all_cons,Bool.and_eq_true] at hn;exact hn.2))
 |fz r _ ih=>exact .fz (Rp.mono (uE _ (.refl _)) r) (ih (by rw[all_cons,Bool.and_eq_true] at hn;exact hn.2))
 |hs r _ ih=>rw[all_cons,Bool.and_eq_true] at hn;exact absurd hn.1 (by simp)
 |nu r _ ih=>exact .nu (Rp.mono (xZ hL) r) (ih (by rw[all_cons,Bool.and_eq_true] at hn;exact hn.2))
 |ow r _ ih=>exact .ow (r.imp λ_ _=>Rp.mono (uE _ (.refl _))) (ih (by rw[all_cons,Bool.and_eq_true] at hn;exact hn.2))
 |od r _ ih=>exact .od r (ih (by rw[all_cons,Bool.and_eq_true] at hn;exact hn.2))
theorem WX(g:bx B F H O F' H'):Same (lo F O H) (lo F' O H'):=λb o h=>by
 unfold lo at h ⊢
 cases e:(F b).isSome||(O.any λx=>x.1==b) with
 |true=>rw[e] at h;cases h
 |false =>
  rw[e] at h
  have hb:H b=some o:=h
  rw[Bool.or_eq_false_iff] at e
  have f':F' b=none:=g.nw b (by cases q:F b with|none=>rfl|some u=>rw[q] at e;cases e.1) (by rw[hb];intro z;cases z)
  rw[f',e.2]
  exact g.hh b o hb
theorem At.grow(h:At B sl F O H σ)(g:bx B F H O F' H'):At B sl F' O H' σ:=⟨g.ok,h.2.mono g.ff (WX g) g.hh⟩
theorem ak.len(h:ak B F L H sl σ O):σ.length=sl.length:=by
 induction h with
 |nil=>rfl
 |un _ ih=>rw[length_cons,length_cons,ih]
 |fz _ _ ih=>rw[length_cons,length_cons,ih]
 |hs _ _ ih=>rw[length_cons,length_cons,ih]
 |nu _ _ ih=>rw[length_cons,length_cons,ih]
 |ow _ _ ih=>rw[length_cons,length_cons,ih]
 |od _ _ ih=>rw[length_cons,length_cons,ih]
theorem ak.rZ{α:Type}[Rp K α]{a:α}(h:ak B F L H sl σ O):∀{i:Nat},sl[i]?=some (.fz n a)->∃v,σ[i]?=some (some v)/\rp K (reg B F H (jH n)) v a:=by
 induction h with
 |nil=>intro i e;simp at e
 |fz r _ ih =>
  intro i e
  cases i with
  |zero=>simp only[getElem?_cons_zero] at e;cases e;exact⟨_,rfl,r⟩
  |succ i=>exact ih (by simpa using e)
 |_ =>
  rename_i ih
  intro i e
  cases i with
  |zero=>simp only[getElem?_cons_zero] at e;cases e
  |succ i=>exact ih (by simpa using e)
theorem ak.Kc{α:Type}[Rp K α]{a:α}(h:ak B F L H sl σ O):∀{i:Nat},sl[i]?=some (.hs a)->∃v,σ[i]?=some (some v)/\rp K H v a:=by
 induction h with
 |nil=>intro i e;simp at e
 |hs r _ ih =>
  intro i e
  cases i with
  |zero=>simp only[getElem?_cons_zero] at e;cases e;exact⟨_,rfl,r⟩
  |succ i=>exact ih (by simpa using e)
 |_ =>
  rename_i ih
  intro i e
  cases i with
  |zero=>simp only[getElem?_cons_zero] at e;cases e
  |succ i=>exact ih (by simpa using e)
theorem ak.m7{α:Type}[Rp K α]{a:α}(h:ak B F L H sl σ O):∀{i:Nat},sl[i]?=some (.nu a)->∃v,σ[i]?=some (some v)/\rp K (dif L B.H0) v a:=by
 induction h with
 |nil=>intro i e;simp at e
 |nu r _ ih =>
  intro i e
  cases i with
  |zero=>simp only[getElem?_cons_zero] at e;cases e;exact⟨_,rfl,r⟩
  |succ i=>exact ih (by simpa using e)
 |_ =>
  rename_i ih
  intro i e
  cases i with
  |zero=>simp only[getElem?_cons_zero] at e;cases e
  |succ i=>exact ih (by simpa using e)
theorem ak.put(h:ak B F L H sl σ O)(new:∀(sl:SL K) (σ:St) (O:Own),ak B F L H sl σ O->ak B F L H (s'::sl) (x::σ) O):∀{i:Nat},sl[i]?=some s->gU s=false->ak B F L H (sl.set i s') (σ.set i x) O:=by
 induction h with
 |nil=>intro i e;simp at e
 |un g ih =>
  intro i e o
  cases i with
  |zero=>exact new _ _ _ g
  |succ i=>exact .un (ih (by simpa using e) o)
 |fz r g ih =>
  intro i e o
  cases i with
  |zero=>exact new _ _ _ g
  |succ i=>exact .fz r (ih (by simpa using e) o)
 |hs r g ih =>
  intro i e o
  cases i with
  |zero=>exact new _ _ _ g
  |succ i=>exact .hs r (ih (by simpa using e) o)
 |nu r g ih =>
  intro i e o
  cases i with
  |zero=>exact new _ _ _ g
  |succ i=>exact .nu r (ih (by simpa using e) o)
 |ow r g ih =>
  intro i e o
  cases i with
  |zero=>simp only[getElem?_cons_zero] at e;cases e;cases o
  |succ i=>exact .ow r (ih (by simpa using e) o)
 |od r g ih =>
  intro i e o
  cases i with
  |zero=>simp only[getElem?_cons_zero] at e;cases e;cases o
  |succ i=>exact .od r (ih (by simpa using e) o)
theorem ak.own(h:ak B F L H sl σ O)(new:∀(sl:SL K) (σ:St) (O:Own),ak B F L H sl σ O->ak B F L H (s'::sl) (x::σ) (c::O)) :
  ∀{i:Nat},sl[i]?=some s->gU s=false->∃O1 O2,O=O1++O2/\ak B F L H (sl.set i s') (σ.set i x) (O1++c::O2):=by
 induction h with
 |nil=>intro i e;simp at e
 |un g ih =>
  intro i e o
  cases i with
  |zero=>exact⟨[],_,rfl,new _ _ _ g⟩
  |succ i=>obtain⟨O1,O2,q,z⟩:=ih (by simpa using e) o;exact⟨O1,O2,q,.un z⟩
 |fz r g ih =>
  intro i e o
  cases i with
  |zero=>exact⟨[],_,rfl,new _ _ _ g⟩
  |succ i=>obtain⟨O1,O2,q,z⟩:=ih (by simpa using e) o;exact⟨O1,O2,q,.fz r z⟩
 |hs r g ih =>
  intro i e o
  cases i with
  |zero=>exact⟨[],_,rfl,new _ _ _ g⟩
  |succ i=>obtain⟨O1,O2,q,z⟩:=ih (by simpa using e) o;exact⟨O1,O2,q,.hs r z⟩
 |nu r g ih =>
  intro i e o
  cases i with
  |zero=>exact⟨[],_,rfl,new _ _ _ g⟩
  |succ i=>obtain⟨O1,O2,q,z⟩:=ih (by simpa using e) o;exact⟨O1,O2,q,.nu r z⟩
 |ow r g ih =>
  intro i e o
  cases i with
  |zero=>simp only[getElem?_cons_zero] at e;cases e;cases o
  |succ i=>obtain⟨O1,O2,q,z⟩:=ih (by simpa using e) o;exact⟨_::O1,O2,by rw[q]<;>rfl,.ow r z⟩
 |od r g ih =>
  intro i e o
  cases i with
  |zero=>simp only[getElem?_cons_zero] at e;cases e;cases o
  |succ i=>obtain⟨O1,O2,q,z⟩:=ih (by simpa using e) o;exact⟨_::O1,O2,by rw[q]<;>rfl,.od r z⟩
theorem ak.m8{α:Type}[Rp K α]{xs:List α}(h:ak B F L H sl σ O):∀{i:Nat},sl[i]?=some (.ow n xs) ->
  ∃O1 O2 p vs,O=O1++(p,.lst vs)::O2/\σ[i]?=some (some (.ref p))/\A2 (rp K (reg B F H (jH n))) vs xs /\
   (∀(s':Slot K)(x:Option V)(c:Addr×HO),(∀(sl:SL K)(σ:St)(O:Own),ak B F L H sl σ O->ak B F L H (s'::sl) (x::σ) (c::O))->ak B F L H (sl.set i s') (σ.set i x) (O1++c::O2)) /\
   (∀(s':Slot K)(x:Option V),(∀(sl:SL K)(σ:St)(O:Own),ak B F L H sl σ O->ak B F L H (s'::sl) (x::σ) O)->ak B F L H (sl.set i s') (σ.set i x) (O1++O2)):=by
 induction h with
 |nil=>intro i e;simp at e
 |un g ih =>
  intro i e
  cases i with
  |zero=>simp only[getElem?_cons_zero] at e;cases e
  |succ i=>obtain⟨O1,O2,p,vs,q,h1,h2,h3,h4⟩:=ih (by simpa using e);exact⟨O1,O2,p,vs,q,h1,h2,λs' x c z=>.un (h3 s' x c z),λs' x z=>.un (h4 s' x z)⟩
 |fz r g ih =>
  intro i e
  cases i with
  |zero=>simp only[getElem?_cons_zero] at e;cases e
  |succ i=>obtain⟨O1,O2,p,vs,q,h1,h2,h3,h4⟩:=ih (by simpa using e);exact⟨O1,O2,p,vs,q,h1,h2,λs' x c z=>.fz r (h3 s' x c z),λs' x z=>.fz r (h4 s' x z)⟩
 |hs r g ih =>
  intro i e
  cases i with
  |zero=>simp only[getElem?_cons_zero] at e;cases e
  |succ i=>obtain⟨O1,O2,p,vs,q,h1,h2,h3,h4⟩:=ih (by simpa using e);exact⟨O1,O2,p,vs,q,h1,h2,λs' x c z=>.hs r (h3 s' x c z),λs' x z=>.hs r (h4 s' x z)⟩
 |nu r g ih =>
  intro i e
  cases i with
  |zero=>simp only[getElem?_cons_zero] at e;cases e
  |succ i=>obtain⟨O1,O2,p,vs,q,h1,h2,h3,h4⟩:=ih (by simpa using e);exact⟨O1,O2,p,vs,q,h1,h2,λs' x c z=>.nu r (h3 s' x c z),λs' x z=>.nu r (h4 s' x z)⟩
 |ow r g ih =>
  intro i e
  cases i with
  |zero=>simp only[getElem?_cons_zero] at e;cases e;exact⟨[],_,_,_,rfl,rfl,r,λs' x c z=>z _ _ _ g,λs' x z=>z _ _ _ g⟩
  |succ i=>obtain⟨O1,O2,p,vs,q,h1,h2,h3,h4⟩:=ih (by simpa using e);exact⟨_::O1,O2,p,vs,by rw[q]<;>rfl,h1,h2,λs' x c z=>.ow r (h3 s' x c z),λs' x z=>.ow r (h4 s' x z)⟩
 |od r g ih =>
  intro i e
  cases i with
  |zero=>simp only[getElem?_cons_zero] at e;cases e
  |succ i=>obtain⟨O1,O2,p,vs,q,h1,h2,h3,h4⟩:=ih (by simpa using e);exact⟨_::O1,O2,p,vs,by rw[q]<;>rfl,h1,h2,λs' x c z=>.od r (h3 s' x c z),λs' x z=>.od r (h4 s' x z)⟩
theorem ak.Cg{α:Type}[Rp K α]{kvs:List (Key×α)}(h:ak B F L H sl σ O):∀{i:Nat},sl[i]?=some (.od kvs) ->
  ∃O1 O2 p ks,O=O1++(p,.dK ks)::O2/\σ[i]?=some (some (.ref p))/\A2 (λ(x:Key×V) (y:Key×α)=>x.1=y.1/\rp K F x.2 y.2) ks kvs /\
   (∀(s':Slot K)(x:Option V)(c:Addr×HO),(∀(sl:SL K)(σ:St)(O:Own),ak B F L H sl σ O->ak B F L H (s'::sl) (x::σ) (c::O))->ak B F L H (sl.set i s') (σ.set i x) (O1++c::O2)) /\
   (∀(s':Slot K)(x:Option V),(∀(sl:SL K)(σ:St)(O:Own),ak B F L H sl σ O->ak B F L H (s'::sl) (x::σ) O)->ak B F L H (sl.set i s') (σ.set i x) (O1++O2)):=by
 induction h with
 |nil=>intro i e;simp at e
 |un g ih =>
  intro i e
  cases i with
  |zero=>simp only[getElem?_cons_zero] at e;cases e
  |succ i=>obtain⟨O1,O2,p,vs,q,h1,h2,h3,h4⟩:=ih (by simpa using e);exact⟨O1,O2,p,vs,q,h1,h2,λs' x c z=>.un (h3 s' x c z),λs' x z=>.un (h4 s' x z)⟩
 |fz r g ih =>
  intro i e
  cases i with
  |zero=>simp only[getElem?_cons_zero] at e;cases e
  |succ i=>obtain⟨O1,O2,p,vs,q,h1,h2,h3,h4⟩:=ih (by simpa using e);exact⟨O1,O2,p,vs,q,h1,h2,λs' x c z=>.fz r (h3 s' x c z),λs' x z=>.fz r (h4 s' x z)⟩
 |hs r g ih =>
  intro i e
  cases i with
  |zero=>simp only[getElem?_cons_zero] at e;cases e
  |succ i=>obtain⟨O1,O2,p,vs,q,h1,h2,h3,h4⟩:=ih (by simpa using e);exact⟨O1,O2,p,vs,q,h1,h2,λs' x c z=>.hs r (h3 s' x c z),λs' x z=>.hs r (h4 s' x z)⟩
 |nu r g ih =>
  intro i e
  cases i with
  |zero=>simp only[getElem?_cons_zero] at e;cases e
  |succ i=>obtain⟨O1,O2,p,vs,q,h1,h2,h3,h4⟩:=ih (by simpa using e);exact⟨O1,O2,p,vs,q,h1,h2,λs' x c z=>.nu r (h3 s' x c z),λs' x z=>.nu r (h4 s' x z)⟩
 |od r g ih =>
  intro i e
  cases i with
  |zero=>simp only[getElem?_cons_zero] at e;cases e;exact⟨[],_,_,_,rfl,rfl,r,λs' x c z=>z _ _ _ g,λs' x z=>z _ _ _ g⟩
  |succ i=>obtain⟨O1,O2,p,vs,q,h1,h2,h3,h4⟩:=ih (by simpa using e);exact⟨_::O1,O2,p,vs,by rw[q]<;>rfl,h1,h2,λs' x c z=>.od r (h3 s' x c z),λs' x z=>.od r (h4 s' x z)⟩
 |ow r g ih =>
  intro i e
  cases i with
  |zero=>simp only[getElem?_cons_zero] at e;cases e
  |succ i=>obtain⟨O1,O2,p,vs,q,h1,h2,h3,h4⟩:=ih (by simpa using e);exact⟨_::O1,O2,p,vs,by rw[q]<;>rfl,h1,h2,λs' x c z=>.ow r (h3 s' x c z),λs' x z=>.ow r (h4 s' x z)⟩
end
end
section
variable{K:PySem.W.Frag}{B:Bs}{F H F' H' L L':Hp}{O O' O1 O2:Own}{sl:SL K}{σ:St}{p:Addr}{o o':HO}
theorem Rh{α:Type}{a b:List α}{x:α}:(a++x::b).Nodup↔(a++b).Nodup/\x∉a++b:=by
 have q:(a++x::b).Perm (x::(a++b)):=List.perm_middle
 rw[q.nodup_iff,nodup_cons]
 exact⟨λh=>⟨h.2,h.1⟩,λh=>⟨h.2,h.1⟩⟩
theorem Ok.add(k:Ok B F (O1++O2) H)(h:H p=none):Ok B F (O1++(p,o)::O2) (upd H p o):=by
 refine⟨λb u e=>?_,k.h0.put (k.h0.free h) o,k.fa,λx hx=>?_,?_⟩
 ·rw[zP (zQ (k.fh b u e) h)];exact k.fh b u e
 ·have hx':x=(p,o)\/x∈O1++O2:=by
   rcases mem_append.mp hx with z|z
   ·exact .inr (mem_append.mpr (.inl z))
   ·rcases mem_cons.mp z with z|z
    ·exact .inl z
    ·exact .inr (mem_append.mpr (.inr z))
  rcases hx' with rfl|hx'
  ·exact⟨k.fh.free h,k.h0.free h,zR⟩
  ·obtain⟨a1,a2,a3⟩:=k.fo x hx'
   exact⟨a1,a2,by rw[zP (zQ a3 h)];exact a3⟩
 ·rw[map_append,map_cons,Rh,<-map_append]
  refine⟨k.nd,λz=>?_⟩
  obtain⟨x,hx,e⟩:=mem_map.mp z
  obtain⟨_,_,a3⟩:=k.fo x hx
  have e':x.1=p:=e
  rw[e',h] at a3
  cases a3
theorem Ok.one(k:Ok B F (O1++(p,o)::O2) H):F p=none/\B.H0 p=none/\H p=some o:=k.fo (p,o) (mem_append.mpr (.inr mem_cons_self))
theorem Ok.Ri(k:Ok B F (O1++(p,o)::O2) H):∀x∈O1++O2,x.1≠p:=λx hx e=>by
 have q:=k.nd
 rw[map_append,map_cons,Rh,<-map_append] at q
 exact q.2 (mem_map.mpr ⟨x,hx,e⟩)
theorem Ok.drop(k:Ok B F (O1++(p,o)::O2) H):Ok B F (O1++O2) H:=by
 refine⟨k.fh,k.h0,k.fa,λx hx=>k.fo x ?_,?_⟩
 ·rcases mem_append.mp hx with z|z
  ·exact mem_append.mpr (.inl z)
  ·exact mem_append.mpr (.inr (mem_cons_of_mem _ z))
 ·have q:=k.nd
  rw[map_append,map_cons,Rh,<-map_append] at q
  exact q.1
theorem Ok.chg(k:Ok B F (O1++(p,o)::O2) H)(o':HO):Ok B F (O1++(p,o')::O2) (upd H p o'):=by
 obtain⟨a1,a2,a3⟩:=k.one
 refine⟨k.fh.put a1 o',k.h0.put a2 o',k.fa,λx hx=>?_,?_⟩
 ·have hx':x=(p,o')\/x∈O1++O2:=by
   rcases mem_append.mp hx with z|z
   ·exact .inr (mem_append.mpr (.inl z))
   ·rcases mem_cons.mp z with z|z
    ·exact .inl z
    ·exact .inr (mem_append.mpr (.inr z))
  rcases hx' with rfl|hx'
  ·exact⟨a1,a2,zR⟩
  ·obtain⟨b1,b2,b3⟩:=k.drop.fo x hx'
   exact⟨b1,b2,by rw[zP (k.Ri x hx')];exact b3⟩
 ·have q:=k.nd
  rw[map_append,map_cons] at q ⊢
  exact q
theorem Ok.freeze(k:Ok B F (O1++(p,o)::O2) H):Ok B (upd F p o) (O1++O2) H:=by
 obtain⟨a1,a2,a3⟩:=k.one
 refine⟨λb u e=>?_,k.h0,λb u e=>?_,λx hx=>?_,k.drop.nd⟩
 ·by_cases q:b=p
  ·subst q;rw[zR] at e;cases e;exact a3
  ·rw[zP q] at e;exact k.fh b u e
 ·by_cases q:b=p
  ·subst q;exact .inr a2
  ·rw[zP q] at e;exact k.fa b u e
 ·obtain⟨b1,b2,b3⟩:=k.drop.fo x hx
  exact⟨by rw[zP (k.Ri x hx)];exact b1,b2,b3⟩
theorem WY(h:H p=none):Same (lo F (O1++O2) H) (lo F (O1++(p,o)::O2) (upd H p o)):=λb u e=>by
 unfold lo at e ⊢
 by_cases q:b=p
 ·subst q
  split at e
  ·cases e
  ·rw[h] at e;cases e
 ·rw[zP q]
  have z:((O1++(p,o)::O2).any λx=>x.1==b)=((O1++O2).any λx=>x.1==b):=by
   rw[any_append,any_append,any_cons]
   have:(p==b)=false:=by simp;exactλe=>q e.symm
   simp[this]
  rw[z]
  exact e
theorem W0:Same (lo F (O1++(p,o)::O2) H) (lo F (O1++(p,o')::O2) (upd H p o')):=λb u e=>by
 unfold lo at e ⊢
 by_cases q:b=p
 ·subst q
  rw[any_append,any_cons] at e
  simp at e
 ·rw[zP q]
  have z:((O1++(p,o)::O2).any λx=>x.1==b)=((O1++(p,o')::O2).any λx=>x.1==b):=by
   rw[any_append,any_append,any_cons,any_cons]
  rw[<-z]
  exact e
theorem jJ:Same (lo F (O1++(p,o)::O2) H) (lo F (O1++O2) H):=λb u e=>by
 unfold lo at e ⊢
 split at e
 ·cases e
 ·rename_i h
  rw[if_neg]
  ·exact e
  ·rw[any_append,any_cons] at h
   rw[any_append]
   simp at h ⊢
   exact⟨h.1,h.2.1,h.2.2.2⟩
theorem lK:Same (lo F (O1++(p,o)::O2) H) (lo (upd F p o) (O1++O2) H):=λb u e=>by
 unfold lo at e ⊢
 split at e
 ·cases e
 ·rename_i h
  rw[any_append,any_cons] at h
  simp at h
  have q:b≠p:=λz=>h.2.2.1 z.symm
  rw[zP q,if_neg]
  ·exact e
  ·rw[any_append]
   simp
   exact⟨h.1,h.2.1,h.2.2.2⟩
theorem Ok.called(k:Ok B F O H)(s:Same H H'):bx B F H O (ext F H H') H':=by
 have e1:∀b o,ext F H H' b=some o->F b=some o\/H b=none:=λb o h=>by
  unfold ext at h
  cases q:H b with
  |none=>exact .inr rfl
  |some u=>rw[q] at h;exact .inl h
 refine⟨λb o h=>?_,s,⟨λb o h=>?_,k.h0.trans s,λb o h=>?_,λx hx=>?_,k.nd⟩,λb h1 h2=>?_⟩
 ·unfold ext
  rw[k.fh b o h]
  exact h
 ·unfold ext at h
  cases q:H b with
  |none=>rw[q] at h;exact h
  |some u=>rw[q] at h;rw[<-k.fh b o h];exact(s b u q).trans q.symm
 ·rcases e1 b o h with z|z
  ·exact k.fa b o z
  ·exact .inr (k.h0.free z)
 ·obtain⟨a1,a2,a3⟩:=k.fo x hx
  refine⟨?_,a2,s _ _ a3⟩
  unfold ext
  rw[a3]
  exact a1
 ·unfold ext
  cases q:H b with
  |none=>exact absurd q h2
  |some u=>exact h1
theorem Rj(h0:Same B.H0 H)(s:Same H H'):Same (dif H' H) (dif (ext F H H') B.H0):=λb o h=>by
 unfold dif at h
 cases q:H b with
 |none =>
  rw[q] at h
  rw[wC (h0.free q)]
  unfold ext
  rw[q]
  exact h
 |some u=>rw[q] at h;cases h
variable{md W2 md2:Md}{α β γ:Type}[Rp K α][Rp K β][Rp K γ]{t t1 t2:TE}{m:Option α}{m1:Option β}{m2:Option γ}
def Ex(B:Bs)(sl:SL K)(md:Md)(t:TE){α:Type}[Rp K α](m:Option α):Prop :=
 ∀a,m=some a->∀(F:Hp)(O:Own)(H:Hp)(σ:St)(Q:VK),At B sl F O H σ->(∀(v:V)(F' H':Hp),bx B F H O F' H'->rp K (reg B F' H' md) v a->Q v H')->t σ H Q
def Et(B:Bs)(sl:SL K)(t:TT)(m:Option Bool):Prop :=
 ∀a,m=some a->∀(F:Hp)(O:Own)(H:Hp)(σ:St)(Q:Bool->Hp->Prop),At B sl F O H σ->(∀(F' H':Hp),bx B F H O F' H'->Q a H')->t σ H Q
inductive Ar(R:Hp):SL K->List V->Prop
 |nil:Ar R [] []
 |cons {n:Bool} {α:Type} [Rp K α] {a:α} {v:V} {sl:SL K} {vs:List V}:rp K R v a->Ar R sl vs->Ar R (.fz n a::sl) (v::vs)
def Ea(B:Bs)(sl:SL K)(md:Md)(t:TA){A:Type}(as:A->SL K)(m:Option A):Prop :=
 ∀a,m=some a->∀(F:Hp)(O:Own)(H:Hp)(σ:St)(Q:List V->Hp->Prop),At B sl F O H σ->(∀(vs:List V)(F' H':Hp),bx B F H O F' H'->Ar (reg B F' H' md) (as a) vs->Q vs H')->t σ H Q
theorem Ex.sc[Sc K α](h:Ex B sl md t m):Ex B sl W2 t m:=λa ha F O H σ Q s k=>h a ha F O H σ Q s λv F' H' g r=>k v F' H' g (rY r)
theorem W3[Nn K α](h:Ex B sl md t m):Ex B sl md t (m.bind λa=>some (some a)):=λa ha F O H σ Q s k=>by
 cases m with
 |none=>cases ha
 |some a' =>
  cases(show some (some a')=some a from ha)
  exact h a' rfl F O H σ Q s λv F' H' g r=>k v F' H' g ⟨Nn.nn (K:=K) r,r⟩
theorem xC{n:Bool}{a:α}(i:Nat)(hs:sl[i]?=some (.fz n a)):Ex B sl (jH n) (dU i) (some a):=λa' ha F O H σ Q s k=>by
 cases ha
 obtain⟨v,h1,h2⟩:=s.2.rZ hs
 exact⟨v,h1,k v F H (.refl s.1) h2⟩
theorem zE[Sc K α]{n:Bool}{a:α}(i:Nat)(hs:sl[i]?=some (.fz n a)):Ex B sl md (dU i) (some a):=(xC i hs).sc
theorem lo_le:Same (lo F O H) H:=λb o h=>by
 unfold lo at h
 split at h
 ·cases h
 ·exact h
theorem Ip(k:Ok B F O H)(n:Bool):Same (reg B F H (jH n)) H:=match n with
 |true=>bw.trans k.fh
 |false=>k.fh
theorem zG{n:Bool}{a:α}(i:Nat)(hs:sl[i]?=some (.fz n a)):Ex B sl .hp (dU i) (some a):=λa' ha F O H σ Q s k=>by
 cases ha
 obtain⟨v,h1,h2⟩:=s.2.rZ hs
 exact⟨v,h1,k v F H (.refl s.1) (Rp.mono (Ip s.1 n) h2)⟩
theorem uU{n:Bool}{xs:List α}(i:Nat)(hs:sl[i]?=some (.ow n xs)):Ex B sl .hp (dU i) (some xs):=λa' ha F O H σ Q s k=>by
 cases ha
 obtain⟨O1,O2,p,vs,rfl,h1,h2,_⟩:=s.2.m8 hs
 exact⟨_,h1,k _ F H (.refl s.1) ⟨p,vs,rfl,s.1.one.2.2,h2.imp λ_ _=>Rp.mono (Ip s.1 n)⟩⟩
theorem EY[Sc K α](a:α):Ex B sl md (tC (Sc.val K a)) (some a):=λa' ha F O H σ Q s k=>by cases ha;exact k _ F H (.refl s.1) (Sc.is.mpr rfl)
theorem zJ(i:Int):Ex B sl md (tC (.int i)) (some i):=EY (K:=K) i
theorem E_(i:Bool):Ex B sl md (tC (.bl i)) (some i):=EY (K:=K) i
theorem vR(i:Str):Ex B sl md (tC (.str i)) (some i):=EY (K:=K) i
theorem wk:Ex B sl md (tC .non) (some (none:Option α)):=λa' ha F O H σ Q s k=>by cases ha;exact k _ F H (.refl s.1) rfl
theorem qO{f:β->γ->Option α}(h:(m1.bind λa=>m2.bind λb=>f a b)=some c):∃a b,m1=some a/\m2=some b/\f a b=some c:=by
 cases m1 with
 |none=>cases h
 |some a =>
  cases m2 with
  |none=>cases h
  |some b=>exact⟨a,b,rfl,rfl,h⟩
theorem su{f:β->γ->Option α}[Sc K α](hr:∀(a:β) (b:γ) (c:α) (v w:V) (H:Hp) (Q:VK),f a b=some c->rp K H v a->rp K H w b->Q (Sc.val K c) H->r v w H Q)(h1:Ex B sl .hp t1 m1)(h2:Ex B sl .hp t2 m2):Ex B sl md (jk r t1 t2) (m1.bind λa=>m2.bind λb=>f a b):=λc hc F O H σ Q s k=>by
 obtain⟨a,b,ha,hb,hf⟩:=qO hc
 refine h1 a ha F O H σ _ s λv F' H' g r1=>?_
 refine h2 b hb F' O H' σ _ (s.grow g) λw F2 H2 g2 r2=>?_
 exact hr a b c v w H2 Q hf (Rp.mono g2.hh r1) r2 (k _ F2 H2 (g.trans g2) (Sc.is.mpr rfl))
theorem yD(h:Ex B sl md t m'):Et B sl (BL t) m':=λc hc F O H σ Q s k=>h c hc F O H σ _ s λv F' H' g r=>⟨c,r,k F' H' g⟩
theorem oH(h:Ex B sl md t m'):Et B sl (tB t) m':=λc hc F O H σ Q s k=>h c hc F O H σ _ s λv F' H' g r=>⟨c,r,k F' H' g⟩
theorem Rk{t:TT}{n:Option Bool}(h:Et B sl t n):Et B sl (JF t) (n.bind λc=>some !c):=λc hc F O H σ Q s k=>by
 cases n with
 |none=>cases hc
 |some c' =>
  cases(show some (!c')=some c from hc)
  exact h c' rfl F O H σ _ s λF' H' g=>k F' H' g
theorem Fb(h:Ex B sl .hp t n):Ex B sl md (BJ t) (n.bind λc=>some !c):=λc hc F O H σ Q s k=>by
 cases n with
 |none=>cases hc
 |some c' =>
  cases(show some (!c')=some c from hc)
  refine h c' rfl F O H σ _ s λv F' H' g r=>?_
  cases r
  exact⟨c',rfl,k _ F' H' g rfl⟩
theorem W4{t u:TT}{n n':Option Bool}(h:Et B sl t n)(h':Et B sl u n'):Et B sl (JD t u) (n.bind λc=>if c=true then n' else some false):=λc hc F O H σ Q s k=>by
 cases n with
 |none=>cases hc
 |some c' =>
  refine h c' rfl F O H σ _ s λF' H' g=>?_
  cases c' with
  |true=>exact mq (h' c (by simpa using hc) F' O H' σ _ (s.grow g) λF2 H2 g2=>k F2 H2 (g.trans g2))
  |false=>cases(show some false=some c from by simpa using hc);exact lZ (k F' H' g)
theorem Kd{t u:TT}{n n':Option Bool}(h:Et B sl t n)(h':Et B sl u n'):Et B sl (Vr t u) (n.bind λc=>if c=true then some true else n'):=λc hc F O H σ Q s k=>by
 cases n with
 |none=>cases hc
 |some c' =>
  refine h c' rfl F O H σ _ s λF' H' g=>?_
  cases c' with
  |true=>cases(show some true=some c from by simpa using hc);exact mq (k F' H' g)
  |false=>exact lZ (h' c (by simpa using hc) F' O H' σ _ (s.grow g) λF2 H2 g2=>k F2 H2 (g.trans g2))
theorem Rm(h:Ex B sl .hp t1 n)(h':Ex B sl .hp t2 n'):Ex B sl md (Bx t1 t2) (n.bind λc=>if c=true then n' else some false):=λc hc F O H σ Q s k=>by
 cases n with
 |none=>cases hc
 |some c' =>
  refine h c' rfl F O H σ _ s λv F' H' g r=>?_
  cases r
  refine⟨c',rfl,?_⟩
  cases c' with
  |true=>exact mq (h' c (by simpa using hc) F' O H' σ _ (s.grow g) λv F2 H2 g2 r2=>k v F2 H2 (g.trans g2) (rY r2))
  |false=>cases(show some false=some c from by simpa using hc);exact lZ (k _ F' H' g rfl)
theorem W5{t:TT}{n:Option Bool}{m m':Option α}(h:Et B sl t n)(h1:Ex B sl md t1 m)(h2:Ex B sl md t2 m'):Ex B sl md (Vt t t1 t2) (n.bind λc=>if c=true then m else m'):=λc hc F O H σ Q s k=>by
 cases n with
 |none=>cases hc
 |some c' =>
  refine h c' rfl F O H σ _ s λF' H' g=>?_
  cases c' with
  |true=>exact mq (h1 c (by simpa using hc) F' O H' σ _ (s.grow g) λv F2 H2 g2 r2=>k v F2 H2 (g.trans g2) r2)
  |false=>exact lZ (h2 c (by simpa using hc) F' O H' σ _ (s.grow g) λv F2 H2 g2 r2=>k v F2 H2 (g.trans g2) r2)
theorem zM:Ea B sl md bD (λ_:Unit=>[]) (some ()):=λa ha F O H σ Q s k=>k [] F H (.refl s.1) .nil
theorem zF{A:Type}{as:A->SL K}{ma:Option A}(h1:Ex B sl md t m)(h2:Ea B sl md tr as ma):Ea B sl md (xQ t tr) (λx:α×A=>.fz false x.1::as x.2) (m.bind λa=>ma.bind λb=>some (a,b)):=λc hc F O H σ Q s k=>by
 cases m with
 |none=>cases hc
 |some a =>
  cases ma with
  |none=>cases hc
  |some b =>
   cases(show some (a,b)=some c from hc)
   refine h1 a rfl F O H σ _ s λv F' H' g r1=>?_
   refine h2 b rfl F' O H' σ _ (s.grow g) λvs F2 H2 g2 r2=>?_
   exact k (v::vs) F2 H2 (g.trans g2) (.cons (Rp.mono (wK g2 md) r1) r2)
theorem Ke(k:Ok B F O H)(h:H p=none)(md:Md):reg B (upd F p o) (upd H p o) md p=some o:=match md with
 |.nw=>by show dif (upd F p o) B.H0 p=_;rw[wC (k.h0.free h)];exact zR
 |.fz=>zR
 |.hp=>zR
def cap:Nat:=100000
theorem Fd(h:n<cap):n<sizeLine:=Nat.lt_trans h (by decide)
theorem Fe(h:n<=cap):n<=sizeLine:=Nat.le_trans h (by decide)
def El(B:Bs)(sl:SL K)(md:Md)(t:TA){α:Type}[Rp K α](m:Option (List α)):Prop :=
 ∀a,m=some a->∀(F:Hp)(O:Own)(H:Hp)(σ:St)(Q:List V->Hp->Prop),At B sl F O H σ->(∀(vs:List V)(F' H':Hp),bx B F H O F' H'->A2 (rp K (reg B F' H' md)) vs a->Q vs H')->t σ H Q
theorem Ci:El B sl md bD (some ([]:List α)):=λa ha F O H σ Q s k=>by cases ha;exact k [] F H (.refl s.1) trivial
theorem xO(h1:Ex B sl md t m)(h2:El B sl md tr ma):El B sl md (xQ t tr) (m.bind λa=>ma.bind λb=>some (a::b)):=λc hc F O H σ Q s k=>by
 cases m with
 |none=>cases hc
 |some a =>
  cases ma with
  |none=>cases hc
  |some b =>
   cases(show some (a::b)=some c from hc)
   refine h1 a rfl F O H σ _ s λv F' H' g r1=>?_
   refine h2 b rfl F' O H' σ _ (s.grow g) λvs F2 H2 g2 r2=>?_
   exact k (v::vs) F2 H2 (g.trans g2) ⟨Rp.mono (wK g2 md) r1,r2⟩
def Eo(B:Bs)(sl:SL K)(md:Md)(t:TE){α:Type}[Rp K α](m:Option (List α)):Prop :=
 ∀a,m=some a->∀(F:Hp)(O:Own)(H:Hp)(σ:St)(Q:VK),At B sl F O H σ->(∀(p:Addr)(vs:List V)(F' H':Hp),bx B F H O F' H'->H' p=none->A2 (rp K (reg B F' H' md)) vs a->Q (.ref p) (upd H' p (.lst vs)))->t σ H Q
theorem Eo.ex{m:Option (List α)}(h:Eo B sl md t m):Ex B sl md t m:=λa ha F O H σ Q s k=>h a ha F O H σ Q s λp vs F' H' g hp r=>by
 have g2:=bx.new g.ok hp (.lst vs)
 exact k _ _ _ (g.trans g2) ⟨p,vs,rfl,Ke g.ok hp md,r.imp λ_ _=>Rp.mono (wK g2 md)⟩
theorem qP:Eo B sl md (rJ bD) (some ([]:List α)):=λa ha F O H σ Q s k=>by
 cases ha
 exact⟨Nat.zero_le _,λp hp=>k p [] F H (.refl s.1) hp trivial⟩
theorem Cj{t:TA}{ma:Option (List α)}(h:El B sl md t ma)(hl:∀a,ma=some a->a.length<=cap):Eo B sl md (rJ t) ma:=λa ha F O H σ Q s k =>
 h a ha F O H σ _ s λvs F' H' g r=>⟨by rw[r.len];exact Fe (hl a ha),λp hp=>k p vs F' H' g hp r⟩
theorem wW(h1:Ex B sl md t1 m1)(h2:Ex B sl md t2 m2):Ex B sl md (Eh (xQ t1 (xQ t2 bD))) (m1.bind λa=>m2.bind λb=>some (a,b)):=λc hc F O H σ Q s kk=>by
 obtain⟨a,b,ha,hb,hf⟩:=qO hc
 cases hf
 refine h1 a ha F O H σ _ s λv F' H' g r1=>?_
 refine h2 b hb F' O H' σ _ (s.grow g) λw F2 H2 g2 r2=>?_
 refine⟨by show 2<=sizeLine;decide,λp hp=>?_⟩
 have g3:=bx.new g2.ok hp (.tup [v,w])
 exact kk _ _ _ (g.trans (g2.trans g3)) ⟨p,v,w,rfl,Ke g2.ok hp md,Rp.mono (wK (g2.trans g3) md) r1,Rp.mono (wK g3 md) r2⟩
def cu(K:PySem.W.Frag)(al:Bool){A β:Type}[Rp K β](as:A->SL K)(f:A->Option β):Sp:=λvs H Q _ =>
 ∃a b Fa,Same Fa H/\f a=some b/\Ar Fa (as a) vs/\∀v H',Same H H'->rp K (if al=true then ext Fa H H' else dif H' H) v b->Q v H'
theorem zL{A:Type}{as:A->SL K}{f:A->Option β}{ma:Option A}(h:Ea B sl .hp ta as ma):Ex B sl md (rK (cu K false as f) [] E0 ta) (ma.bind f):=λc hc F O H σ Q s kk=>by
 cases ma with
 |none=>cases hc
 |some a =>
  refine h a rfl F O H σ _ s λvs F' H' g r=>?_
  rw[append_nil]
  refine⟨a,c,H',.refl _,hc,r,λv H2 s2 r2=>?_⟩
  have g2:=g.ok.called s2
  refine kk v _ H2 (g.trans g2) ?_
  have r3:=Rp.mono (Rj (F:=F') g.ok.h0 s2) r2
  exact match md with
  |.nw=>r3
  |.fz=>Rp.mono bw r3
  |.hp=>Rp.mono (bw.trans g2.ok.fh) r3
end
def push{α:Type}(xs:List α)(a:α):Option (List α):=if xs.length<cap then some (xs++[a]) else none
def wF(n:Int):Option LI:=if -(2^62)<=n/\n<2^62 then some ((List.range n.toNat).map Int.ofNat) else none
def xR{S α:Type}(step:S->α->Option S):List α->S->Option S
 |[],s=>some s
 |x::xs,s=>(step s x).bind λs'=>xR step xs s'
inductive Out(S β:Type)|nx (s:S)|rt (b:β)
def uB{S α β:Type}(step:S->α->Option (Out S β)):List α->S->Option (Out S β)
 |[],s=>some (.nx s)
 |x::xs,s=>(step s x).bind λo=>match o with
  |.nx s'=>uB step xs s'
  |.rt b=>some (.rt b)
def Ck{S:Type}(c:S->Option Bool)(body:S->Option S):Nat->S->Option S
 |0,_=>none
 |k+1,s=>(c s).bind λb=>if b=true then(body s).bind λs'=>Ck c body k s' else some s
def xL{α β:Type}(c:α->Option Bool)(f:α->Option β):List α->Option (List β)
 |[]=>some []
 |x::xs=>(c x).bind λb=>if b=true then(f x).bind λy=>(xL c f xs).bind λys=>some (y::ys) else xL c f xs
def Out.els{S β:Type}(o:Out S β)(f:S->Option β):Option β:=match o with
 |.nx s=>f s
 |.rt b=>some b
def Out.aO{S S' β:Type}(o:Out S β)(f:S->Option (Out S' β)):Option (Out S' β):=match o with
 |.nx s=>f s
 |.rt b=>some (.rt b)
theorem Rn{S α:Type}(step:S->α->Option S):∀(xs ys:List α)(s:S),xR step (xs++ys) s=(xR step xs s).bind λs'=>xR step ys s'
 |[],ys,s=>rfl
 |x::xs,ys,s=>by
  show(step s x).bind _=((step s x).bind _).bind _
  cases step s x with
  |none=>rfl
  |some s'=>exact Rn step xs ys s'
theorem zLp{S α:Type}{step:S->α->Option S}{xs:List α}{s s1:S}(h:xR step xs s=some s1){x:α}(hx:xs[i]?=some x):∃a b,xR step (xs.take i) s=some a/\step a x=some b/\xR step (xs.take (i+1)) s=some b:=by
 have e:xs=xs.take (i+1)++xs.drop (i+1):=(take_append_drop _ _).symm
 have e2:xs.take (i+1)=xs.take i++[x]:=by rw[take_add_one,hx]<;>rfl
 rw[e,Rn] at h
 cases q:xR step (xs.take (i+1)) s with
 |none=>rw[q] at h;cases h
 |some b =>
  have q':=q
  rw[e2,Rn] at q'
  cases z:xR step (xs.take i) s with
  |none=>rw[z] at q';cases q'
  |some a =>
   rw[z] at q'
   have q2:(step a x).bind (λs'=>some s')=some b:=q'
   refine⟨a,b,rfl,?_,rfl⟩
   cases w:step a x with
   |none=>rw[w] at q2;cases q2
   |some c=>rw[w] at q2;exact q2
section
variable{K:PySem.W.Frag}{B:Bs}{F H F' H' G:Hp}{O:Own}{sl sl2:SL K}{σ:St}{md:Md}{α β γ:Type}[Rp K α][Rp K β][Rp K γ]{t u v:TS}{te:TE}{m:Option α}{S S':Type}{al:Bool}
def Sg(B:Bs)(G:Hp)(sl:SL K)(σ:St)(H:Hp):Prop:=∃F O,Same G F/\At B sl F O H σ
def Rt(K:PySem.W.Frag){β:Type}[Rp K β](B:Bs)(al:Bool)(b:β)(v:V)(H':Hp):Prop:=Same B.H0 H'/\rp K (if al=true then ext B.Fa B.H0 H' else dif H' B.H0) v b
def Sn(B:Bs)(sl:SL K)(t:TS){S:Type}(L:S->SL K)(m:Option S):Prop :=
 ∀a,m=some a->∀(G:Hp)(D:Ends)(σ:St)(H:Hp),Sg B G sl σ H->(∀σ' H',Sg B G (L a) σ' H'->D.nx σ' H')->t D σ H
def SB(B:Bs)(sl:SL K)(t:TS)(al:Bool){β:Type}[Rp K β](m:Option β):Prop :=
 ∀b,m=some b->∀(G:Hp)(D:Ends)(σ:St)(H:Hp),Sg B G sl σ H->(∀v H',Rt K B al b v H'->D.rt v H')->t D σ H
def XE(B:Bs)(G:Hp)(al:Bool)(L:S->SL K)(D:Ends)(o:Out S β):Prop:=match o with
 |.nx s=>∀σ' H',Sg B G (L s) σ' H'->D.nx σ' H'
 |.rt b=>∀v H',Rt K B al b v H'->D.rt v H'
def Sx(B:Bs)(sl:SL K)(t:TS)(al:Bool){S β:Type}[Rp K β](L:S->SL K)(m:Option (Out S β)):Prop :=
 ∀o,m=some o->∀(G:Hp)(D:Ends)(σ:St)(H:Hp),Sg B G sl σ H->XE B G al L D o->t D σ H
theorem SB.of(h:SB B sl t al m)(q:m=m'):SB B sl t al m':=q▸h
theorem Sn.of(h:Sn B sl t L m)(q:m=m'):Sn B sl t L m':=q▸h
inductive Le:SL K->SL K->Prop
 |nil:Le [] []
 |eq {s:Slot K} {a b:SL K}:Le a b->Le (s::a) (s::b)
 |un {s:Slot K} {a b:SL K}:Le a b->Le (s::a) (.un::b)
 |fr {n:Bool} {α:Type} [Rp K α] {xs:List α} {a b:SL K}:Le a b->Le (.ow n xs::a) (.fz n xs::b)
 |old {α:Type} [Rp K α] {x:α} {a b:SL K}:Le a b->Le (.fz true x::a) (.fz false x::b)
theorem ak.le(h:Le sl sl2):∀{F:Hp}{σ:St}{O:Own},Ok B F (P++O) H->ak B F (lo F (P++O) H) H sl σ O->∃F' O',Same F F'/\Ok B F' (P++O') H/\Same (lo F (P++O) H) (lo F' (P++O') H)/\ak B F' (lo F' (P++O') H) H sl2 σ O':=by
 induction h generalizing P with
 |nil=>intro F σ O k h;cases h;exact⟨F,[],.refl _,k,.refl _,.nil⟩
 |eq _ ih =>
  intro F σ O k h
  cases h with
  |un h=>obtain⟨F',O',a,b,c,d⟩:=ih k h;exact⟨F',O',a,b,c,.un d⟩
  |fz r h=>obtain⟨F',O',a,b,c,d⟩:=ih k h;exact⟨F',O',a,b,c,.fz (Rp.mono (uE _ a) r) d⟩
  |hs r h=>obtain⟨F',O',a,b,c,d⟩:=ih k h;exact⟨F',O',a,b,c,.hs r d⟩
  |nu r h=>obtain⟨F',O',a,b,c,d⟩:=ih k h;exact⟨F',O',a,b,c,.nu (Rp.mono (xZ c) r) d⟩
  |@ow _ _ _ _ _ _ O p vs r h =>
   have e:P++(p,HO.lst vs)::O=(P++[(p,HO.lst vs)])++O:=by simp
   rw[e] at k h
   obtain⟨F',O',a,b,c,d⟩:=ih k h
   have e':(P++[(p,HO.lst vs)])++O'=P++(p,HO.lst vs)::O':=by simp
   rw[e'] at b c d
   rw[<-e] at c
   exact⟨F',_::O',a,b,c,.ow (r.imp λ_ _=>Rp.mono (uE _ a)) d⟩
  |@od _ _ _ _ _ O p vs r h =>
   have e:P++(p,HO.dK vs)::O=(P++[(p,HO.dK vs)])++O:=by simp
   rw[e] at k h
   obtain⟨F',O',a,b,c,d⟩:=ih k h
   have e':(P++[(p,HO.dK vs)])++O'=P++(p,HO.dK vs)::O':=by simp
   rw[e'] at b c d
   rw[<-e] at c
   exact⟨F',_::O',a,b,c,.od (r.imp λ_ _ z=>⟨z.1,Rp.mono a z.2⟩) d⟩
 |un _ ih =>
  intro F σ O k h
  cases h with
  |un h=>obtain⟨F',O',a,b,c,d⟩:=ih k h;exact⟨F',O',a,b,c,.un d⟩
  |fz r h=>obtain⟨F',O',a,b,c,d⟩:=ih k h;exact⟨F',O',a,b,c,.un d⟩
  |hs r h=>obtain⟨F',O',a,b,c,d⟩:=ih k h;exact⟨F',O',a,b,c,.un d⟩
  |nu r h=>obtain⟨F',O',a,b,c,d⟩:=ih k h;exact⟨F',O',a,b,c,.un d⟩
  |ow r h=>obtain⟨F',O',a,b,c,d⟩:=ih k.drop (h.mono (.refl _) jJ (.refl _));exact⟨F',O',a,b,jJ.trans c,.un d⟩
  |od r h=>obtain⟨F',O',a,b,c,d⟩:=ih k.drop (h.mono (.refl _) jJ (.refl _));exact⟨F',O',a,b,jJ.trans c,.un d⟩
 |@fr n _ _ _ _ _ _ ih =>
  intro F σ O k h
  cases h with
  |@ow _ _ _ _ _ _ O p vs r h =>
   obtain⟨a1,a2,a3⟩:=k.one
   have sf:Same F (upd F p (.lst vs)):=aJ a1 _
   obtain⟨F',O',a,b,c,d⟩:=ih k.freeze (h.mono sf lK (.refl _))
   refine⟨F',O',sf.trans a,b,lK.trans c,.fz ⟨p,vs,rfl,?_,r.imp λ_ _=>Rp.mono (uE _ (sf.trans a))⟩ d⟩
   cases n with
   |true=>exact(wC a2).trans (a _ _ zR)
   |false=>exact a _ _ zR
 |old _ ih =>
  intro F σ O k h
  cases h with
  |fz r h=>obtain⟨F',O',a,b,c,d⟩:=ih k h;exact⟨F',O',a,b,c,.fz (Rp.mono (bw.trans a) r) d⟩
theorem Sg.le(h:Sg B G sl σ H)(l:Le sl sl2):Sg B G sl2 σ H:=by
 obtain⟨F,O,g,k,s⟩:=h
 obtain⟨F',O',a,b,_,d⟩:=ak.le (P:=[]) l k s
 exact⟨F',O',g.trans a,b,d⟩
theorem Sg.grow(g:Same G F)(h:At B sl F O' H σ)(gr:bx B F H O' F' H'):Sg B G sl σ H':=⟨F',O',g.trans gr.ff,h.grow gr⟩
theorem zY(L:S->SL K)(s:S)(h:Le sl (L s)):Sn B sl JG L (some s):=λa ha G D σ H q k=>by cases ha;exact k σ H (q.le h)
theorem zO{f:S->Option S'}(h1:Sn B sl t L m1)(h2:∀s,Sn B (L s) u L' (f s)):Sn B sl (k_ t u) L' (m1.bind f):=λa ha G D σ H q k=>by
 cases m1 with
 |none=>cases ha
 |some s=>exact h1 s rfl G _ σ H q λσ' H' q'=>h2 s a ha G D σ' H' q' k
theorem zN{f:S->Option β}(h1:Sn B sl t L m1)(h2:∀s,SB B (L s) u al (f s)):SB B sl (k_ t u) al (m1.bind f):=λa ha G D σ H q k=>by
 cases m1 with
 |none=>cases ha
 |some s=>exact h1 s rfl G _ σ H q λσ' H' q'=>h2 s a ha G D σ' H' q' k
theorem W6{f:S->Option β}(h1:Sx B sl t al L m1)(h2:∀s,SB B (L s) u al (f s)):SB B sl (k_ t u) al (m1.bind λo=>o.els f):=λa ha G D σ H q k=>by
 cases m1 with
 |none=>cases ha
 |some o =>
  cases o with
  |nx s=>exact h1 _ rfl G _ σ H q λσ' H' q'=>h2 s a ha G D σ' H' q' k
  |rt b=>cases ha;exact h1 _ rfl G { D with nx:=u D } σ H q k
theorem zP2{f:S->Option (Out S' β)}(h1:Sx B sl t al L m1)(h2:∀s,Sx B (L s) u al L' (f s)):Sx B sl (k_ t u) al L' (m1.bind λo=>o.aO f):=λa ha G D σ H q k=>by
 cases m1 with
 |none=>cases ha
 |some o =>
  cases o with
  |nx s=>exact h1 _ rfl G _ σ H q λσ' H' q'=>h2 s a ha G D σ' H' q' k
  |rt b=>cases ha;exact h1 _ rfl G { D with nx:=u D } σ H q k
theorem Ro(L:S->SL K)(s:S)(h:Le sl (L s)):Sx B sl JG al L (some (.nx s):Option (Out S β)):=λa ha G D σ H q k=>by cases ha;exact k σ H (q.le h)
theorem Cm(k:Ok B F' O H')(n:Bool){v:V}{b:β}(r:rp K (reg B F' H' (jH n)) v b)(hn:n=!al):Rt K B al b v H':=by
 refine⟨k.h0,?_⟩
 cases al with
 |false=>subst hn;exact Rp.mono (xZ k.fh) r
 |true =>
  subst hn
  refine Rp.mono (λb o h=>?_) r
  have h:F' b=some o:=h
  show ext B.Fa B.H0 H' b=some o
  unfold ext
  cases q:B.H0 b with
  |none=>exact k.fh b o h
  |some u =>
   rcases k.fa b o h with z|z
   ·exact z
   ·rw[q] at z;cases z
theorem yK(h:Ex B sl (jH !al) te m):SB B sl (k_ (uw te) u) al m:=λb hb G D σ H s k=>by
 obtain⟨F,O,g,a⟩:=s
 exact h b hb F O H σ _ a λv F' H' gr r=>k v H' (Cm gr.ok (!al) r rfl)
theorem wu(h:F p=none):Same (dif F H0) (dif (upd F p o) H0):=xZ (aJ h o)
theorem Od{n:Bool}{xs:List α}(i:Nat)(hs:sl[i]?=some (.ow n xs))(hn:n=!al):SB B sl (k_ (uw (dU i)) u) al (some xs):=λb hb G D σ H s k=>by
 cases hb
 obtain⟨F,O,g,a⟩:=s
 obtain⟨O1,O2,p,vs,rfl,h1,h2,_⟩:=a.2.m8 hs
 obtain⟨a1,a2,a3⟩:=a.1.one
 refine⟨_,h1,k _ H (Cm a.1.freeze n ⟨p,vs,rfl,?_,h2.imp λ_ _=>Rp.mono ?_⟩ hn)⟩
 ·cases n with
  |true=>exact(wC a2).trans zR
  |false=>exact zR
 ·cases n with
  |true=>exact wu a1
  |false=>exact aJ a1 _
theorem n6(hc:Et B sl c n)(h1:Sn B sl t L m1)(h2:Sn B sl u L m2):Sn B sl (ux c t u) L (n.bind λb=>if b=true then m1 else m2):=λa ha G D σ H s k=>by
 cases n with
 |none=>cases ha
 |some b =>
  obtain⟨F,O,g,z⟩:=s
  refine hc b rfl F O H σ _ z λF' H' gr=>?_
  cases b with
  |true=>exact mq (h1 a (by simpa using ha) G D σ H' (Sg.grow g z gr) k)
  |false=>exact lZ (h2 a (by simpa using ha) G D σ H' (Sg.grow g z gr) k)
theorem Cp{c:TT}{n:Option Bool}{m1 m2:Option β}(hc:Et B sl c n)(h1:SB B sl t al m1)(h2:SB B sl u al m2):SB B sl (k_ (ux c t JG) u) al (n.bind λb=>if b=true then m1 else m2):=λa ha G D σ H s k=>by
 cases n with
 |none=>cases ha
 |some b =>
  obtain⟨F,O,g,z⟩:=s
  refine hc b rfl F O H σ _ z λF' H' gr=>?_
  cases b with
  |true=>exact mq (h1 a (by simpa using ha) G _ σ H' (Sg.grow g z gr) k)
  |false=>exact lZ (h2 a (by simpa using ha) G D σ H' (Sg.grow g z gr) k)
theorem W7{c:TT}{n:Option Bool}{m1:Option β}{L:S->SL K}{m2:Option (Out S β)}(hc:Et B sl c n)(h1:SB B sl t al m1)(h2:Sx B sl u al L m2) :
  Sx B sl (k_ (ux c t JG) u) al L (n.bind λb=>if b=true then m1.bind λb=>some (.rt b) else m2):=λa ha G D σ H s k=>by
 cases n with
 |none=>cases ha
 |some b =>
  obtain⟨F,O,g,z⟩:=s
  refine hc b rfl F O H σ _ z λF' H' gr=>?_
  cases b with
  |true =>
   have e:=(show(m1.bind λb=>some (Out.rt b))=some a by simpa using ha)
   cases m1 with
   |none=>cases e
   |some b=>cases e;exact mq (h1 b rfl G _ σ H' (Sg.grow g z gr) k)
  |false=>exact lZ (h2 a (by simpa using ha) G D σ H' (Sg.grow g z gr) k)
theorem Sg.set{s:Slot K}{i:Nat}{n:Bool}{a:α}{v:V}{O:Own}(g:Same G F)(h:At B sl F O H σ)(hs:sl[i]?=some s)(ho:gU s=false)(r:rp K (reg B F H (jH n)) v a):Sg B G (sl.set i (.fz n a)) (σ.set i (some v)) H :=
 ⟨F,O,g,h.1,h.2.put (λ_ _ _ z=>.fz r z) hs ho⟩
theorem yG(n:Bool)(i:Nat)(hs:sl[i]?=some s)(ho:gU s=false)(h:Ex B sl (jH n) te m):Sn B sl (lg te (m5 i)) (λa=>sl.set i (.fz n a)) m:=λa ha G D σ H s k=>by
 obtain⟨F,O,g,z⟩:=s
 exact h a ha F O H σ _ z λv F' H' gr r=>k _ _ (Sg.set (g.trans gr.ff) (z.grow gr) hs ho r)
theorem Ir(h:Ex B sl md te m):Sn B sl (Ih te) (λ_=>sl) m:=λa ha G D σ H s k=>by
 obtain⟨F,O,g,z⟩:=s
 exact h a ha F O H σ _ z λv F' H' gr r=>k _ _ (Sg.grow g z gr)
theorem At.own{s:Slot K}{i:Nat}{n:Bool}{xs:List α}{vs:List V}{p:Addr}(h:At B sl F O H σ)(hs:sl[i]?=some s)(ho:gU s=false)(hp:H p=none)(r:A2 (rp K (reg B F H (jH n))) vs xs) :
  ∃O',At B (sl.set i (.ow n xs)) F O' (upd H p (.lst vs)) (σ.set i (some (.ref p))):=by
 obtain⟨k,z0⟩:=h
 obtain⟨O1,O2,rfl,z⟩:=z0.own (s':=.ow n xs) (x:=some (.ref p)) (c:=(p,.lst vs)) (λ_ _ _ z=>.ow r z) hs ho
 exact⟨_,k.add hp,z.mono (.refl _) (WY hp) (aJ hp _)⟩
theorem sy{s:Slot K}{m:Option (List α)}(n:Bool)(i:Nat)(hs:sl[i]?=some s)(ho:gU s=false)(h:Eo B sl (jH n) te m):Sn B sl (lg te (m5 i)) (λa=>sl.set i (.ow n a)) m:=λa ha G D σ H s k=>by
 obtain⟨F,O,g,z⟩:=s
 refine h a ha F O H σ _ z λp vs F' H' gr hp r=>k _ _ ?_
 obtain⟨O',z'⟩:=(z.grow gr).own hs ho hp r
 exact⟨F',O',g.trans gr.ff,z'⟩
theorem W8(i:Nat)(hs:sl[i]?=some s)(ho:gU s=false):Sn B sl (lg Wa (m5 i)) (λ_=>sl.set i (.od ([]:List (Key×α)))) (some ()):=λa ha G D σ H s k=>by
 obtain⟨F,O,g,k0,z0⟩:=s
 intro p hp
 refine k _ _ ?_
 obtain⟨O1,O2,rfl,z'⟩:=z0.own (s':=.od ([]:List (Key×α))) (x:=some (.ref p)) (c:=(p,.dK [])) (λ_ _ _ z=>.od trivial z) hs ho
 exact⟨F,_,g,k0.add hp,z'.mono (.refl _) (WY hp) (aJ hp _)⟩
theorem Fg{α:Type}:∀{l:List α}{i:Nat}{x:α},l[i]?=some x->l.set i x=l
 |[],_,_,h=>by simp at h
 |_::_,0,_,h=>by simp at h;subst h;rfl
 |_::l,i+1,_,h=>congrArg _ (Fg (l:=l) (i:=i) (by simpa using h))
theorem Rq{P:Slot K->Bool}(hs:P s=true):∀{l:SL K}{i:Nat},l.all P=true->(l.set i s).all P=true
 |[],_,h=>h
 |_::_,0,h=>by rw[all_cons,Bool.and_eq_true] at h;rw[List.set_cons_zero,all_cons,Bool.and_eq_true];exact⟨hs,h.2⟩
 |_::l,i+1,h=>by rw[all_cons,Bool.and_eq_true] at h;rw[List.set_cons_succ,all_cons,Bool.and_eq_true];exact⟨h.1,Rq hs h.2⟩
theorem At.chg{i:Nat}{n:Bool}{xs:List α}(h:At B sl F O H σ)(hs:sl[i]?=some (.ow n xs))(hh:sl.all (λs=>!oG s)=true):∃p vs,σ[i]?=some (some (.ref p))/\H p=some (.lst vs)/\A2 (rp K (reg B F H (jH n))) vs xs /\
  ∀(ws:List V)(ys:List α),A2 (rp K (reg B F H (jH n))) ws ys->∃O',At B (sl.set i (.ow n ys)) F O' (upd H p (.lst ws)) σ:=by
 obtain⟨k,z0⟩:=h
 obtain⟨O1,O2,p,vs,rfl,h1,h2,h3,_⟩:=z0.m8 hs
 refine⟨p,vs,h1,k.one.2.2,h2,λws ys r=>⟨_,k.chg (.lst ws),?_⟩⟩
 have z:=h3 (.ow n ys) (some (.ref p)) (p,.lst ws) λ_ _ _ z=>.ow r z
 rw[Fg h1] at z
 exact z.mut W0 (Rq rfl hh)
theorem At.wz(h:At B sl F O H σ)(hs:sl[i]?=some (.od kvs))(hh:sl.all (λs=>!oG s)=true):∃p ks,σ[i]?=some (some (.ref p))/\H p=some (.dK ks)/\A2 (λ(x:Key×V) (y:Key×α)=>x.1=y.1/\rp K F x.2 y.2) ks kvs /\
  ∀(ws:List (Key×V))(ys:List (Key×α)),A2 (λ(x:Key×V) (y:Key×α)=>x.1=y.1/\rp K F x.2 y.2) ws ys->∃O',At B (sl.set i (.od ys)) F O' (upd H p (.dK ws)) σ:=by
 obtain⟨k,z0⟩:=h
 obtain⟨O1,O2,p,vs,rfl,h1,h2,h3,_⟩:=z0.Cg hs
 refine⟨p,vs,h1,k.one.2.2,h2,λws ys r=>⟨_,k.chg (.dK ws),?_⟩⟩
 have z:=h3 (.od ys) (some (.ref p)) (p,.dK ws) λ_ _ _ z=>.od r z
 rw[Fg h1] at z
 exact z.mut W0 (Rq rfl hh)
theorem xI(i:Nat)(hs:sl[i]?=some (.ow n xs))(hh:sl.all (λs=>!oG s)=true)(h:Ex B sl (jH n) te m) :
  Sn B sl (Ih (JZ K "list" N5 (dU i) (xQ te bD))) (λys=>sl.set i (.ow n ys)) (m.bind λa=>push xs a):=λys ha G D σ H s k=>by
 cases m with
 |none=>cases ha
 |some a =>
  have ha':push xs a=some ys:=ha
  unfold push at ha'
  split at ha'
  case isFalse=>cases ha'
  rename_i hl
  cases ha'
  obtain⟨F,O,g,z⟩:=s
  obtain⟨p,vs,h1,h2,h3,_⟩:=z.chg hs hh
  refine⟨_,h1,.inl ⟨rfl,_,aZ.of h2⟩,?_⟩
  refine h a rfl F O H σ _ z λv F' H' gr r=>?_
  obtain⟨p',vs',h1',h2',h3',h4'⟩:=(z.grow gr).chg hs hh
  have e:=h1.symm.trans h1'
  cases e
  obtain⟨O',z'⟩:=h4' (vs'++[v]) (xs++[a]) (h3'.snoc r)
  exact⟨p,vs',v,rfl,rfl,h2',Fd (by rw[h3'.len];exact hl),k _ _ ⟨F',O',g.trans gr.ff,z'⟩⟩
end
section
variable{K:PySem.W.Frag}{B:Bs}{F H F' H' G:Hp}{O:Own}{sl sl2:SL K}{σ:St}{md:Md}{α β γ:Type}[Rp K α][Rp K β][Rp K γ]{tb u v:TS}{te:TE}{m:Option α}{S S':Type}{al n:Bool}
theorem Oe{S α β:Type}(step:S->α->Option (Out S β)):∀(xs ys:List α)(s:S),uB step (xs++ys) s=(uB step xs s).bind λo=>o.aO λs'=>uB step ys s'
 |[],ys,s=>rfl
 |x::xs,ys,s=>by
  show(step s x).bind _=((step s x).bind _).bind _
  cases step s x with
  |none=>rfl
  |some o =>
   cases o with
   |nx s'=>exact Oe step xs ys s'
   |rt b=>rfl
theorem zLn{S α β:Type}{step:S->α->Option (Out S β)}{xs:List α}{s a:S}{x:α}(h:uB step (xs.take i) s=some (.nx a))(hx:xs[i]?=some x):uB step (xs.take (i+1)) s=step a x:=by
 have e2:xs.take (i+1)=xs.take i++[x]:=by rw[take_add_one,hx]<;>rfl
 rw[e2,Oe,h]
 show(step a x).bind _=step a x
 cases step a x with
 |none=>rfl
 |some o=>cases o<;>rfl
theorem zOq{S α β:Type}{step:S->α->Option (Out S β)}{xs:List α}{s:S}{o:Out S β}{b:β}(h:uB step xs s=some o)(hi:uB step (xs.take i) s=some (.rt b)):o=.rt b:=by
 rw[<-take_append_drop i xs,Oe,hi] at h
 cases h
 rfl
theorem zLo{S α β:Type}{step:S->α->Option (Out S β)}{xs:List α}{s:S}{o:Out S β}(i:Nat)(h:uB step xs s=some o):∃o',uB step (xs.take i) s=some o':=by
 rw[<-take_append_drop i xs,Oe] at h
 cases q:uB step (xs.take i) s with
 |none=>rw[q] at h;cases h
 |some o'=>exact⟨o',rfl⟩
def Yl(K:PySem.W.Frag)(B:Bs)(F':Hp)(n:Bool)(J:It){α:Type}[Rp K α](xs:List α):Prop:=∀(i:Nat)(F2:Hp)(O2:Own)(H2:Hp),Same F' F2->Ok B F2 O2 H2 ->
 (xs.length<=i->J.stop i H2)/\∀x,xs[i]?=some x->J.go i H2/\∀v H3,J.Il i H2 v H3->∃F3,bx B F2 H2 O2 F3 H3/\rp K (reg B F3 H3 (jH n)) v x
def Ei(B:Bs)(sl:SL K)(n:Bool)(wi:TI){α:Type}[Rp K α](mi:Option (List α)):Prop :=
 ∀xs,mi=some xs->∀(F:Hp)(O:Own)(H:Hp)(σ:St)(R:It->Hp->Prop),At B sl F O H σ->(∀(J:It)(F' H':Hp),bx B F H O F' H'->Yl K B F' n J xs->R J H')->wi σ H R
def Tg(B:Bs)(sl:SL K)(n:Bool)(g:TG){α:Type}[Rp K α](L:α->SL K):Prop :=
 ∀(v:V)(x:α)(F:Hp)(O:Own)(H:Hp)(σ:St)(Q:St->Hp->Prop),At B sl F O H σ->rp K (reg B F H (jH n)) v x->(∀σ',At B (L x) F O H σ'->Q σ' H)->g v σ H Q
theorem yL(i:Nat)(hs:sl[i]?=some s)(ho:gU s=false):Tg B sl n (m5 i) (λx:α=>sl.set i (.fz n x)):=λv x F O H σ Q a r k=>k _ ⟨a.1,a.2.put (λ_ _ _ z=>.fz r z) hs ho⟩
theorem W9(k:Ok B F O H)(h:reg B F H (jH n) p=some o):H p=some o:=Ip k n p o h
theorem sE(i j:Nat)(hs:sl[i]?=some s)(ho:gU s=false)(hs':∀x:Slot K,(sl.set i x)[j]?=some s')(ho':gU s'=false) :
  Tg B sl n (uy K 2 (Ik (m5 i) (Ik (m5 j) DY))) (λx:α×β=>(sl.set i (.fz n x.1)).set j (.fz n x.2)):=λv x F O H σ Q a r k=>by
 obtain⟨p,w1,w2,rfl,h1,h2,h3⟩:=r
 refine⟨p,[w1,w2],rfl,.inl (.inl (W9 a.1 h1)),rfl,w1,[w2],rfl,w2,[],rfl,rfl,?_⟩
 exact k _ ⟨a.1,(a.2.put (s':=.fz n x.1) (λ_ _ _ z=>.fz h2 z) hs ho).put (λ_ _ _ z=>.fz h3 z) (hs' _) ho'⟩
theorem vU{L:S->SL K}{Lx:S->α->SL K}{step:S->α->Option S}(s0:S)(h0:Le sl (L s0))(hi:Ei B (L s0) n wi mi)(hg:∀s,Tg B (L s) n g (Lx s))(hb:∀s x,Sn B (Lx s x) tb L (step s x)) :
  Sn B sl (D_ wi g tb) L (mi.bind λxs=>xR step xs s0):=λs1 hs1 G D σ H q k=>by
 cases mi with
 |none=>cases hs1
 |some xs =>
  have hs1:xR step xs s0=some s1:=hs1
  obtain⟨F,O,g0,a⟩:=q.le h0
  refine hi xs rfl F O H σ _ a λJ F' H' gr yl=>?_
  refine⟨λi m σ H=>m=xs.length-i/\i<=xs.length/\∃s,xR step (xs.take i) s0=some s/\Sg B F' (L s) σ H,⟨xs.length,rfl,Nat.zero_le _,s0,rfl,F',O,.refl _,a.grow gr⟩,?_⟩
  rintro i m σ H ⟨rfl,hil,s,hs,F2,O2,sf,a2⟩
  obtain⟨y1,y2⟩:=yl i F2 O2 H sf a2.1
  by_cases hlt:i<xs.length
  ·obtain⟨go,y3⟩:=y2 xs[i] (List.getElem?_eq_getElem hlt)
   obtain⟨s',s'',e1,e2,e3⟩:=zLp hs1 (List.getElem?_eq_getElem hlt)
   rw[hs] at e1
   cases e1
   refine .inr ⟨go,Sg B F' (L s''),λσ' H' z=>⟨xs.length-(i+1),by omega,rfl,hlt,s'',e3,z⟩,λv H3 yd=>?_⟩
   obtain⟨F3,g3,r3⟩:=y3 v H3 yd
   exact hg s v xs[i] F3 O2 H3 σ _ (a2.grow g3) r3 λσ' a'=>hb s xs[i] s'' e2 F' _ σ' H3 ⟨F3,O2,sf.trans g3.ff,a'⟩ λσ2 H2 z=>z
  ·have e:i=xs.length:=by omega
   subst e
   rw[take_length,hs1] at hs
   cases hs
   exact .inl ⟨y1 (Nat.le_refl _),k σ H ⟨F2,O2,(g0.trans gr.ff).trans sf,a2⟩⟩
theorem Rr{L:S->SL K}{Lx:S->α->SL K}{step:S->α->Option (Out S β)}(s0:S)(h0:Le sl (L s0))(hi:Ei B (L s0) n wi mi)(hg:∀s,Tg B (L s) n g (Lx s))(hb:∀s x,Sx B (Lx s x) tb al L (step s x)) :
  Sx B sl (D_ wi g tb) al L (mi.bind λxs=>uB step xs s0):=λo ho G D σ H q k=>by
 cases mi with
 |none=>cases ho
 |some xs =>
  have ho:uB step xs s0=some o:=ho
  obtain⟨F,O,g0,a⟩:=q.le h0
  refine hi xs rfl F O H σ _ a λJ F' H' gr yl=>?_
  refine⟨λi m σ H=>m=xs.length-i/\i<=xs.length/\∃s,uB step (xs.take i) s0=some (.nx s)/\Sg B F' (L s) σ H,⟨xs.length,rfl,Nat.zero_le _,s0,rfl,F',O,.refl _,a.grow gr⟩,?_⟩
  rintro i m σ H ⟨rfl,hil,s,hs,F2,O2,sf,a2⟩
  obtain⟨y1,y2⟩:=yl i F2 O2 H sf a2.1
  by_cases hlt:i<xs.length
  ·obtain⟨go,y3⟩:=y2 xs[i] (List.getElem?_eq_getElem hlt)
   have e2:=zLn hs (List.getElem?_eq_getElem hlt)
   obtain⟨o',e3⟩:=zLo (i+1) ho
   refine .inr ⟨go,λσ H=>∃s',o'=.nx s'/\Sg B F' (L s') σ H,λσ' H' ⟨s',e,z⟩=>⟨xs.length-(i+1),by omega,rfl,hlt,s',by rw[e3,e],z⟩,λv H3 yd=>?_⟩
   obtain⟨F3,g3,r3⟩:=y3 v H3 yd
   refine hg s v xs[i] F3 O2 H3 σ _ (a2.grow g3) r3 λσ' a'=>hb s xs[i] o' (by rw[<-e2,e3]) F' _ σ' H3 ⟨F3,O2,sf.trans g3.ff,a'⟩ ?_
   cases o' with
   |nx s'=>exactλσ2 H2 z=>⟨s',rfl,z⟩
   |rt b =>
    have:=zOq ho e3
    subst this
    exact k
  ·have e:i=xs.length:=by omega
   subst e
   rw[take_length,ho] at hs
   cases hs
   exact .inl ⟨y1 (Nat.le_refl _),k σ H ⟨F2,O2,(g0.trans gr.ff).trans sf,a2⟩⟩
theorem zP8{L:S->SL K}{cM:S->Option Bool}{bM:S->Option S}(fuel:Nat)(s0:S)(h0:Le sl (L s0))(hc:∀s,Et B (L s) c (cM s))(hb:∀s,Sn B (L s) tb L (bM s)):Sn B sl (Vx c tb) L (Ck cM bM fuel s0):=λs1 hs1 G D σ H q k=>by
 refine⟨λm σ H=>∃s,Ck cM bM m s=some s1/\Sg B G (L s) σ H,⟨fuel,s0,hs1,q.le h0⟩,?_⟩
 rintro m σ H ⟨s,hs,F,O,g,a⟩
 cases m with
 |zero=>cases hs
 |succ m =>
  have hs:((cM s).bind λb=>if b=true then(bM s).bind λs'=>Ck cM bM m s' else some s)=some s1:=hs
  cases e:cM s with
  |none=>rw[e] at hs;cases hs
  |some b =>
   rw[e] at hs
   refine hc s b e F O H σ _ a λF' H' gr=>?_
   cases b with
   |true =>
    have hs:((bM s).bind λs'=>Ck cM bM m s')=some s1:=by simpa using hs
    cases e2:bM s with
    |none=>rw[e2] at hs;cases hs
    |some s' =>
     rw[e2] at hs
     exact mq ⟨Sg B G (L s'),λσ' H' z=>⟨m,Nat.lt_succ_self _,s',hs,z⟩,hb s s' e2 G _ σ H' (Sg.grow g a gr) λ_ _ z=>z⟩
   |false =>
    have hs:some s=some s1:=by simpa using hs
    cases hs
    exact lZ (k σ H' (Sg.grow g a gr))
theorem xP{mi:Option (List α)}(h:Ex B sl (jH n) te mi):Ei B sl n (rD K te) mi:=λxs hx F O H σ R a k=>by
 refine h xs hx F O H σ _ a λv F' H' gr r=>?_
 obtain⟨p,vs,rfl,h1,h2⟩:=r
 refine⟨p,rfl,⟨vs,aZ.of (Ip gr.ok n p _ h1)⟩,k _ F' H' gr λi F2 O2 H2 sf k2=>?_⟩
 have hq:aZ K H2 p vs:=aZ.of (k2.fh _ _ (sf _ _ (by cases n with|true=>exact bw _ _ h1|false=>exact h1)))
 refine⟨λhl=>⟨vs,hq,by rw[h2.len];exact hl⟩,λx hx=>?_⟩
 obtain⟨w,hw,rw⟩:=h2.at2 hx
 refine⟨⟨vs,w,hq,hw⟩,λv H3 yd=>?_⟩
 obtain⟨e,y⟩:=yd
 subst e
 have:=(hw.symm.trans (y vs hq))
 cases this
 exact⟨F2,.refl k2,Rp.mono (uE n sf) rw⟩
theorem Ru{k i:Nat}{x:Int}(h:((List.range k).map Int.ofNat)[i]?=some x):i<k/\x=i:=by
 rw[getElem?_map] at h
 by_cases q:i<k
 ·rw[getElem?_range q] at h;cases h;exact⟨q,rfl⟩
 ·rw[List.getElem?_eq_none (by rw[length_range];omega)] at h;cases h
theorem xY(h:Ex B sl .hp te mi):Ei B sl n (rE (xQ te bD)) (mi.bind wF):=λxs hx F O H σ R a k=>by
 cases mi with
 |none=>cases hx
 |some j =>
  have hx:wF j=some xs:=hx
  unfold wF at hx
  split at hx
  case isFalse=>cases hx
  rename_i hb
  cases hx
  refine h j rfl F O H σ _ a λv F' H' gr r=>?_
  cases r
  refine⟨j,rfl,hb.1,hb.2,k _ F' H' gr λi F2 O2 H2 sf k2=>⟨λhl=>?_,λx hx=>?_⟩⟩
  ·rw[length_map,length_range] at hl;exact hl
  ·obtain⟨h1,rfl⟩:=Ru hx
   refine⟨h1,λv H3 yd=>?_⟩
   obtain⟨rfl,rfl⟩:=yd
   exact⟨F2,.refl k2,by show V.int (0+(i:Int))=V.int i;rw[Int.zero_add]⟩
def p8{α:Type}(xs:List α):List (Int×α):=((List.range xs.length).map Int.ofNat).zip xs
theorem vJ{α:Type}{xs:List α}{i:Nat}{x:Int×α}(h:(p8 xs)[i]?=some x):x.1=i/\xs[i]?=some x.2:=by
 unfold p8 at h
 rw[List.getElem?_zip_eq_some] at h
 exact⟨(Ru h.1).2,h.2⟩
theorem Iu{α:Type}(xs:List α):(p8 xs).length=xs.length:=by unfold p8;simp
theorem Kf{mi:Option (List α)}(h:Ex B sl (jH n) te mi):Ei B sl n (rT K (xQ te bD)) (mi.bind λxs=>some (p8 xs)):=λxs hx F O H σ R a k=>by
 cases mi with
 |none=>cases hx
 |some zs =>
  cases(show some (p8 zs)=some xs from hx)
  refine h zs rfl F O H σ _ a λv F' H' gr r=>?_
  obtain⟨p,vs,rfl,h1,h2⟩:=r
  refine⟨p,rfl,⟨vs,aZ.of (Ip gr.ok n p _ h1)⟩,k _ F' H' gr λi F2 O2 H2 sf k2=>?_⟩
  have hq:aZ K H2 p vs:=aZ.of (k2.fh _ _ (sf _ _ (by cases n with|true=>exact bw _ _ h1|false=>exact h1)))
  refine⟨λhl=>⟨vs,hq,by rw[h2.len,<-Iu];exact hl⟩,λx hx=>?_⟩
  obtain⟨e1,e2⟩:=vJ hx
  obtain⟨w,hw,rw⟩:=h2.at2 e2
  refine⟨⟨vs,w,hq,hw⟩,λv H3 yd=>?_⟩
  obtain⟨t,x',rfl,ht,rfl,y⟩:=yd
  have:=(hw.symm.trans (y vs hq))
  cases this
  have g3:=bx.new k2 ht (.tup [.int i,w])
  refine⟨_,g3,t,.int i,w,rfl,?_,?_,Rp.mono (uE n (sf.trans g3.ff)) rw⟩
  ·exact Ke k2 ht (jH n)
  ·rw[e1];rfl
def xG{α β:Type}(c:α->Option Bool)(f:α->Option β)(xs:List α):Option (List β):=if xs.length<cap then xL c f xs else none
theorem Og{α β:Type}(c:α->Option Bool)(f:α->Option β):∀(xs ys:List α),xL c f (xs++ys)=(xL c f xs).bind λa=>(xL c f ys).bind λb=>some (a++b)
 |[],ys=>by
  rw[nil_append]
  show xL c f ys=(xL c f ys).bind λb=>some ([]++b)
  cases xL c f ys<;>rfl
 |x::xs,ys=>by
  show(c x).bind _=((c x).bind _).bind _
  cases c x with
  |none=>rfl
  |some b =>
   cases b with
   |true =>
    show(f x).bind _=((f x).bind _).bind _
    cases f x with
    |none=>rfl
    |some y =>
     show(xL c f (xs++ys)).bind _=((xL c f xs).bind _).bind _
     rw[Og c f xs ys]
     cases xL c f xs with
     |none=>rfl
     |some a =>
      show((xL c f ys).bind _).bind _=(xL c f ys).bind _
      cases xL c f ys<;>rfl
   |false=>exact Og c f xs ys
theorem Rv{α β:Type}(c:α->Option Bool)(f:α->Option β):∀{xs:List α}{ys:List β},xL c f xs=some ys->ys.length<=xs.length
 |[],ys,h=>by cases h;exact Nat.le_refl _
 |x::xs,ys,h=>by
  have h:((c x).bind λb=>if b=true then(f x).bind λy=>(xL c f xs).bind λys=>some (y::ys) else xL c f xs)=some ys:=h
  cases e:c x with
  |none=>rw[e] at h;cases h
  |some b =>
   rw[e] at h
   cases b with
   |true =>
    have h:((f x).bind λy=>(xL c f xs).bind λys=>some (y::ys))=some ys:=by simpa using h
    cases e2:f x with
    |none=>rw[e2] at h;cases h
    |some y =>
     rw[e2] at h
     cases e3:xL c f xs with
     |none=>rw[e3] at h;cases h
     |some zs =>
      rw[e3] at h
      cases h
      exact Nat.succ_le_succ (Rv c f e3)
   |false =>
    have h:xL c f xs=some ys:=by simpa using h
    exact Nat.le_succ_of_le (Rv c f h)
theorem zLv{α β:Type}{c:α->Option Bool}{f:α->Option β}{xs:List α}{zs:List β}(i:Nat)(h:xL c f xs=some zs):∃ys,xL c f (xs.take i)=some ys:=by
 rw[<-take_append_drop i xs,Og] at h
 cases q:xL c f (xs.take i) with
 |none=>rw[q] at h;cases h
 |some o'=>exact⟨o',rfl⟩
theorem zLw{α β:Type}{c:α->Option Bool}{f:α->Option β}{xs:List α}{zs ys:List β}{x:α}(h:xL c f (xs.take (i+1))=some zs)(hy:xL c f (xs.take i)=some ys)(hx:xs[i]?=some x) :
  (c x=some false/\zs=ys)\/∃y,c x=some true/\f x=some y/\zs=ys++[y]:=by
 have e2:xs.take (i+1)=xs.take i++[x]:=by rw[take_add_one,hx]<;>rfl
 rw[e2,Og,hy] at h
 have h:(((c x).bind λb=>if b=true then(f x).bind λy=>some [y] else some []).bind λb=>some (ys++b))=some zs:=h
 cases e:c x with
 |none=>rw[e] at h;cases h
 |some b =>
  rw[e] at h
  cases b with
  |true =>
   have h:(((f x).bind λy=>some [y]).bind λb=>some (ys++b))=some zs:=by simpa using h
   cases e2:f x with
   |none=>rw[e2] at h;cases h
   |some y=>rw[e2] at h;cases h;exact .inr ⟨y,rfl,rfl,rfl⟩
  |false =>
   have h:some (ys++[])=some zs:=by simpa using h
   rw[append_nil] at h
   cases h
   exact .inl ⟨rfl,rfl⟩
abbrev Kg:Slot K->Slot K
 |.un=>.un
 |@Slot.fz _ n _ i a=>@Slot.fz _ n _ i a
 |@Slot.hs _ _ i a=>@Slot.hs _ _ i a
 |@Slot.nu _ _ i a=>@Slot.hs _ _ i a
 |@Slot.ow _ _ _ i xs=>@Slot.hs _ _ _ xs
 |@Slot.od _ _ _ _=>.un
theorem bx.lift(k:Ok B F O H)(g:bx B F H [] F' H'):bx B F H O F' H' :=
 ⟨g.ff,g.hh,⟨g.ok.fh,g.ok.h0,g.ok.fa,λx hx=>by
  obtain⟨a1,a2,a3⟩:=k.fo x hx
  exact⟨g.nw _ a1 (by rw[a3];intro z;cases z),a2,g.hh _ _ a3⟩,k.nd⟩,g.nw⟩
theorem Ok.nil(k:Ok B F O H):Ok B F [] H:=⟨k.fh,k.h0,k.fa,λx hx=>(by cases hx),(by simp)⟩
theorem ak.one(a:At B sl F O H σ)(L:Hp)(j:Nat)(hs:sl[j]?=some s):∀{sl':SL K}{σ':St},ak B F L H sl' σ' []->ak B F L H (Kg s::sl') ((σ[j]?).getD none::σ') []:=λ{sl' σ'} h=>by
 cases s with
 |un=>exact .un h
 |fz n b=>obtain⟨v,h1,h2⟩:=a.2.rZ hs;rw[h1];exact .fz h2 h
 |hs b=>obtain⟨v,h1,h2⟩:=a.2.Kc hs;rw[h1];exact .hs h2 h
 |nu b=>obtain⟨v,h1,h2⟩:=a.2.m7 hs;rw[h1];exact .hs (Rp.mono (bw.trans lo_le) h2) h
 |ow n xs =>
  obtain⟨k,z0⟩:=a
  obtain⟨O1,O2,p,vs,rfl,h1,h2,_⟩:=z0.m8 hs
  rw[h1]
  exact .hs ⟨p,vs,rfl,k.one.2.2,h2.imp λ_ _=>Rp.mono (Ip k n)⟩ h
 |od kvs=>exact .un h
def Fi(sl:SL K)(n:Nat)(ix:List Nat):SL K:=replicate n .un++ix.map λj=>Kg ((sl[j]?).getD .un)
theorem w5(a:At B sl F O H σ)(L:Hp)(n:Nat):∀(ix:List Nat),(∀j∈ix,j<sl.length)->ak B F L H (Fi sl n ix) (jP σ n ix) []:=λix hix=>by
 unfold Fi jP
 induction n with
 |zero =>
  show ak B F L H ([]++_) ([]++_) []
  rw[nil_append,nil_append]
  induction ix with
  |nil=>exact .nil
  |cons j ix ih =>
   rw[map_cons,map_cons]
   have hl:=hix j mem_cons_self
   have hj:sl[j]?=some sl[j]:=List.getElem?_eq_getElem hl
   have z:=ak.one a L j hj (ih λk hk=>hix k (mem_cons_of_mem _ hk))
   rw[show(sl[j]?).getD .un=sl[j] by rw[hj]<;>rfl]
   exact z
 |succ n ih=>exact .un ih
inductive oJ:SL K->SL K->Prop
 |nil:oJ [] []
 |eq {s:Slot K} {a b:SL K}:oJ a b->oJ (s::a) (s::b)
 |un {s:Slot K} {a b:SL K}:oJ a b->oJ (s::a) (.un::b)
theorem ak.le0(l:oJ sl sl2):∀{σ:St},ak B F L H sl σ []->ak B F L H sl2 σ []:=by
 induction l with
 |nil=>intro σ h;exact h
 |eq _ ih =>
  intro σ h
  cases h with
  |un h=>exact .un (ih h)
  |fz r h=>exact .fz r (ih h)
  |hs r h=>exact .hs r (ih h)
  |nu r h=>exact .nu r (ih h)
 |un _ ih =>
  intro σ h
  cases h with
  |un h=>exact .un (ih h)
  |fz r h=>exact .un (ih h)
  |hs r h=>exact .un (ih h)
  |nu r h=>exact .un (ih h)
theorem xN{c:α->Option Bool}{f:α->Option β}{ix:List Nat}(hix:(ix.all λj=>decide (j<sl.length))=true)(hI:jK=Fi sl no ix)(hi:Ei B sl n wi mi)(hg:Tg B jK n g Lx)(hc:∀x,Et B (Lx x) tc (c x))(he:∀x,Ex B (Lx x) md te (f x))(hle:∀x,oJ (Lx x) jK) :
  Eo B sl md (Ob no ix wi g tc te) (mi.bind λxs=>xG c f xs):=λzs hz F O H σ Q a k=>by
 cases mi with
 |none=>cases hz
 |some xs =>
  have hz:xG c f xs=some zs:=hz
  unfold xG at hz
  split at hz
  case isFalse=>cases hz
  rename_i hcap
  have hcl:=Fd hcap
  refine hi xs rfl F O H σ _ a λJ F' H' gr yl=>?_
  have a':=a.grow gr
  refine⟨λi m ys σ2 H2=>m=xs.length-i/\i<=xs.length/\∃(F2:Hp)(ws:List β),xL c f (xs.take i)=some ws/\bx B F' H' O F2 H2/\ak B F2 (lo F2 [] H2) H2 jK σ2 []/\A2 (rp K (reg B F2 H2 md)) ys ws,
   ⟨xs.length,rfl,Nat.zero_le _,F',[],rfl,.refl a'.1,?_,trivial⟩,?_⟩
  ·rw[hI]
   exact w5 a' _ no ix λj hj=>by simpa using(all_eq_true.mp hix) j hj
  rintro i m ys σ2 H2 ⟨rfl,hil,F2,ws,hw,g2,s2,r2⟩
  have hyl:ys.length<=xs.length:=by
   rw[r2.len]
   exact Nat.le_trans (Rv c f hw) (by rw[length_take];omega)
  obtain⟨y1,y2⟩:=yl i F2 O H2 g2.ff g2.ok
  by_cases hlt:i<xs.length
  ·obtain⟨go,y3⟩:=y2 xs[i] (List.getElem?_eq_getElem hlt)
   obtain⟨ws',hw'⟩:=zLv (i+1) hz
   refine .inr ⟨go,by omega,λys σ2 H2=>∃(F2:Hp),bx B F' H' O F2 H2/\ak B F2 (lo F2 [] H2) H2 jK σ2 []/\A2 (rp K (reg B F2 H2 md)) ys ws',λys' σ' H' ⟨F3,z1,z2,z3⟩=>⟨xs.length-(i+1),by omega,rfl,hlt,F3,ws',hw',z1,z2,z3⟩,λv H3 yd=>?_⟩
   obtain⟨F3,g3,r3⟩:=y3 v H3 yd
   have sH:=g2.trans g3
   have Oh:At B jK F3 [] H3 σ2:=⟨g3.ok.nil,s2.mono g3.ff (WX ⟨g3.ff,g3.hh,g3.ok.nil,g3.nw⟩) g3.hh⟩
   refine hg v xs[i] F3 [] H3 σ2 _ Oh r3 λσ4 a4=>?_
   have back:∀{F5 H5:Hp},bx B F3 H3 [] F5 H5->bx B F' H' O F5 H5/\ak B F5 (lo F5 [] H5) H5 jK σ4 []:=λ{F5 H5} g5=>⟨sH.trans (bx.lift g3.ok g5),(a4.grow g5).2.le0 (hle xs[i])⟩
   rcases zLw hw' hw (List.getElem?_eq_getElem hlt) with⟨e1,rfl⟩|⟨y,e1,e2,rfl⟩
   ·refine hc xs[i] false e1 F3 [] H3 σ4 _ a4 λF5 H5 g5=>lZ ?_
    obtain⟨z1,z2⟩:=back g5
    exact⟨F5,z1,z2,r2.imp λ_ _=>Rp.mono (wK (g3.trans (bx.lift g3.ok g5)) md)⟩
   ·refine hc xs[i] true e1 F3 [] H3 σ4 _ a4 λF5 H5 g5=>mq ?_
    refine he xs[i] y e2 F5 [] H5 σ4 _ (a4.grow g5) λw F6 H6 g6 r6=>?_
    obtain⟨z1,z2⟩:=back (g5.trans g6)
    exact⟨F6,z1,z2,(r2.imp λ_ _=>Rp.mono (wK (g3.trans (bx.lift g3.ok (g5.trans g6))) md)).snoc r6⟩
  ·have e:i=xs.length:=by omega
   subst e
   rw[take_length,hz] at hw
   cases hw
   exact .inl ⟨y1 (Nat.le_refl _),by omega,λp hp=>k p ys F2 H2 (gr.trans g2) hp r2⟩
abbrev isF:Slot K->Bool
 |@Slot.fz _ false _ _ _=>true
 |_=>false
theorem W_{as:SL K}(k:Nat)(hf:as.all isF=true)(r:Ar F as vs):ak ⟨F,H⟩ F L' H (as++replicate k .un) (vs.map some++replicate k none) []:=by
 induction r with
 |nil =>
  show ak _ _ _ _ ([]++_) ([]++_) []
  rw[nil_append,nil_append]
  induction k with
  |zero=>exact .nil
  |succ k ih=>exact .un ih
 |@cons n _ _ _ _ _ _ r _ ih =>
  rw[all_cons,Bool.and_eq_true] at hf
  cases n with
  |false=>exact .fz r (ih hf.2)
  |true=>exact absurd hf.1 (by simp)
theorem Ar.len(r:Ar F as vs):vs.length=as.length:=by
 induction r with
 |nil=>rfl
 |cons _ _ ih=>rw[length_cons,length_cons,ih]
theorem zP5{A:Type}{as:A->SL K}{f:A->Option β}{N:List Str}(hf:∀a,(as a).all isF=true)(hl:∀a,(as a).length=np)(hb:∀Fa a,SB ⟨Fa,H⟩ (as a++replicate (N.length-np) .un) t al (f a))(h:cu K al as f vs H Q E):t { nx:=λ_ H'=>Q .non H',rt:=Q } (L2.start N vs) H:=by
 obtain⟨a,b,Fa,s,hfa,r,q⟩:=h
 have e:L2.start N vs=vs.map some++replicate (N.length-np) none:=by
  unfold L2.start
  rw[r.len,hl]
 rw[e]
 refine hb Fa a b hfa Fa _ _ H ⟨Fa,[],.refl _,⟨s,.refl _,λb o h=>.inl h,λx hx=>(by cases hx),(by simp)⟩,W_ _ (hf a) r⟩ (λv H' z=>q v H' z.1 z.2)
theorem Xa{A:Type}{as:A->SL K}{f:A->Option β}(hl:∀a,(as a).length=np)(h:cu K al as f vs H Q E):vs.length=np:=by
 obtain⟨a,b,Fa,s,hfa,r,q⟩:=h
 rw[r.len,hl]
end
open PySem.SeqAt (EqAt RcAt RcNeAt)
class Eqv (K:PySem.W.Frag) (α:Type) [Rp K α] [DecidableEq α] where
 dep:Nat
 det:∀{H:Hp}{v:V}{a b:α},rp K H v a->rp K H v b->a=b
 sI:∀{X:Cx}{pins:List (Addr×Obj)}{σ:St}{H:Hp}{s:Shared},Inv X pins σ H s->∀{A:Around},A.units+dep<cLine->∀{v w:V}{u u':Value}{a b:α},rp K H v a->rp K H w b->RelV v u->RelV w u'->EqAt A s u u' (decide (a=b))
 Fj:∀{X:Cx}{pins:List (Addr×Obj)}{σ:St}{H:Hp}{s:Shared},Inv X pins σ H s->∀{A:Around},A.units+dep<cLine->∀{v w:V}{u u':Value}{a b:α},rp K H v a->rp K H w b->RelV v u->RelV w u'->RcAt A s u u' (decide (a=b))
 Fo:∀{X:Cx}{pins:List (Addr×Obj)}{σ:St}{H:Hp}{s:Shared},Inv X pins σ H s->∀{A:Around},A.units+dep<cLine->∀{v w:V}{u u':Value}{a b:α},rp K H v a->rp K H w b->RelV v u->RelV w u'->RcNeAt A s u u' (!decide (a=b))
section
variable{K:PySem.W.Frag}
theorem gW{α:Type}[BEq α][LawfulBEq α][DecidableEq α](a b:α):(a==b)=decide (a=b):=by
 by_cases h:a=b
 ·subst h;simp
 ·simp[h]
instance:Eqv K Int where
 dep:=0
 det h1 h2:=by cases h1;cases h2;rfl
 sI _ _ _ _ _ _ _ _ _ h1 h2 r1 r2:=by cases h1;cases h2;obtain⟨t,rfl⟩:=r1;obtain⟨t',rfl⟩:=r2;rw[<-gW];exact EqAt.int_int _ _ _ _
 Fj _ _ _ _ _ _ _ _ _ h1 h2 r1 r2:=by cases h1;cases h2;obtain⟨t,rfl⟩:=r1;obtain⟨t',rfl⟩:=r2;rw[<-gW];exact RcAt.int_int _ _ _ _
 Fo _ _ _ _ _ _ _ _ _ h1 h2 r1 r2:=by cases h1;cases h2;obtain⟨t,rfl⟩:=r1;obtain⟨t',rfl⟩:=r2;rw[<-gW];exact RcNeAt.int_int _ _ _ _
instance:Eqv K Str where
 dep:=0
 det h1 h2:=by cases h1;cases h2;rfl
 sI _ _ _ _ _ _ _ _ _ h1 h2 r1 r2:=by cases h1;cases h2;obtain⟨t,rfl⟩:=r1;obtain⟨t',rfl⟩:=r2;rw[<-gW];exact EqAt.str_str _ _ _ _
 Fj _ _ _ _ _ _ _ _ _ h1 h2 r1 r2:=by cases h1;cases h2;obtain⟨t,rfl⟩:=r1;obtain⟨t',rfl⟩:=r2;rw[<-gW];exact RcAt.str_str _ _ _ _
 Fo _ _ _ _ _ _ _ _ _ h1 h2 r1 r2:=by cases h1;cases h2;obtain⟨t,rfl⟩:=r1;obtain⟨t',rfl⟩:=r2;rw[<-gW];exact RcNeAt.str_str _ _ _ _
instance:Eqv K Bool where
 dep:=0
 det h1 h2:=by cases h1;cases h2;rfl
 sI _ _ _ _ _ _ _ _ _ h1 h2 r1 r2:=by cases h1;cases h2;cases r1;cases r2;rw[<-gW];exact EqAt.bool_bool _ _
 Fj _ _ _ _ _ _ _ _ _ h1 h2 r1 r2:=by cases h1;cases h2;cases r1;cases r2;rw[<-gW];exact RcAt.bool_bool _ _
 Fo _ _ _ _ _ _ _ _ _ h1 h2 r1 r2:=by cases h1;cases h2;cases r1;cases r2;rw[<-gW];exact RcNeAt.bool_bool _ _
theorem Rw{a b:Int}:decide (some a=some b)=decide (a=b):=by simp
instance:Eqv K (Option Int) where
 dep:=0
 det {H v a b} h1 h2:=by
  cases a with
  |none=>cases b with
   |none=>rfl
   |some y=>exact absurd h1 h2.1
  |some x=>cases b with
   |none=>exact absurd h2 h1.1
   |some y=>cases h1.2;cases h2.2;rfl
 sI {X pins σ H s} _ {A} _ {v w u u' a b} h1 h2 r1 r2:=by
  cases a with
  |none =>
   cases h1;cases r1
   cases b with
   |none=>cases h2;cases r2;exact EqAt.same _
   |some y=>cases h2.2;obtain⟨t',rfl⟩:=r2;exact EqAt.none_int _ _
  |some x =>
   cases h1.2;obtain⟨t,rfl⟩:=r1
   cases b with
   |none=>cases h2;cases r2;exact EqAt.int_none _ _
   |some y=>cases h2.2;obtain⟨t',rfl⟩:=r2;rw[Rw,<-gW];exact EqAt.int_int _ _ _ _
 Fj {X pins σ H s} _ {A} _ {v w u u' a b} h1 h2 r1 r2:=by
  cases a with
  |none =>
   cases h1;cases r1
   cases b with
   |none=>cases h2;cases r2;exact RcAt.none_none
   |some y=>cases h2.2;obtain⟨t',rfl⟩:=r2;exact RcAt.none_int _ _
  |some x =>
   cases h1.2;obtain⟨t,rfl⟩:=r1
   cases b with
   |none=>cases h2;cases r2;exact RcAt.int_none _ _
   |some y=>cases h2.2;obtain⟨t',rfl⟩:=r2;rw[Rw,<-gW];exact RcAt.int_int _ _ _ _
 Fo {X pins σ H s} _ {A} _ {v w u u' a b} h1 h2 r1 r2:=by
  cases a with
  |none =>
   cases h1;cases r1
   cases b with
   |none=>cases h2;cases r2;exact RcNeAt.none_none
   |some y=>cases h2.2;obtain⟨t',rfl⟩:=r2;exact RcNeAt.none_int _ _
  |some x =>
   cases h1.2;obtain⟨t,rfl⟩:=r1
   cases b with
   |none=>cases h2;cases r2;exact RcNeAt.int_none _ _
   |some y=>cases h2.2;obtain⟨t',rfl⟩:=r2;rw[Rw,<-gW];exact RcNeAt.int_int _ _ _ _
theorem A2.det{α β:Type}{R:α->β->Prop}(h:∀x y z,R x y->R x z->y=z):∀{xs:List α}{ys zs:List β},A2 R xs ys->A2 R xs zs->ys=zs
 |[],[],[],_,_=>rfl
 |_::_,_::_,_::_,h1,h2=>by rw[h _ _ _ h1.1 h2.1,A2.det h h1.2 h2.2]
 |[],_::_,_,h1,_=>h1.elim
 |[],[],_::_,_,h2=>h2.elim
 |_::_,[],_,h1,_=>h1.elim
 |_::_,_::_,[],_,h2=>h2.elim
theorem uP{α:Type}[DecidableEq α]:∀{xs ys:List α},xs.length=ys.length->((List.range xs.length).all λj=>decide (xs[j]?=ys[j]?))=decide (xs=ys)
 |[],[],_=>by simp
 |x::xs,y::ys,h=>by
  have ih:=uP (xs:=xs) (ys:=ys) (by simpa using h)
  rw[length_cons,range_succ_eq_map,all_cons,List.all_map]
  have e:((λj=>decide ((x::xs)[j]?=(y::ys)[j]?))∘Nat.succ)=λj=>decide (xs[j]?=ys[j]?):=by
   funext j
   simp
  rw[e,ih]
  by_cases h1:x=y<;>by_cases h2:xs=ys<;>simp[h1,h2]
 |[],_::_,h=>by simp at h
 |_::_,[],h=>by simp at h
theorem Iv{α:Type}[Rp K α]{xs:List α}(r:Vals vs us)(h:A2 (rp K H) vs xs)(j:Nat)(hj:j<us.toArray.size):∃v x,xs[j]?=some x/\rp K H v x/\RelV v us.toArray[j]:=by
 have l1:j<vs.length:=by rw[r.length];simpa using hj
 obtain⟨u,hu,ru⟩:=r.get (List.getElem?_eq_getElem l1)
 obtain⟨x,hx,rx⟩:=h.at1 (List.getElem?_eq_getElem l1)
 refine⟨vs[j],x,hx,rx,?_⟩
 have e1:us.toArray[j]=u:=by
  have:us[j]?=some u:=hu
  rw[List.getElem?_eq_getElem (by simpa using hj)] at this
  simpa using this
 rw[e1]
 exact ru
theorem Kh{A:Around}:A.in1.units=A.units+1:=rfl
instance{α:Type}[Rp K α][DecidableEq α][Eqv K α]:Eqv K (List α) where
 dep:=Eqv.dep K α+1
 det {H v a b} h1 h2:=by
  obtain⟨p,vs,rfl,h1,r1⟩:=h1
  obtain⟨p',vs',e,h2,r2⟩:=h2
  cases e
  cases h1.symm.trans h2
  exact A2.det (R:=rp K H) (λ_ _ _ z1 z2=>Eqv.det (K:=K) z1 z2) r1 r2
 Fj {X pins σ H s} I {A} hu {v w u u' a b} h1 h2 q1 q2:=by
  obtain⟨p,vs,rfl,h1,r1⟩:=h1
  obtain⟨p',ws,rfl,h2,r2⟩:=h2
  cases q1;cases q2
  obtain⟨us,s1,p1,_⟩:=I.list (aZ.of h1)
  obtain⟨us',s2,p2,_⟩:=I.list (aZ.of h2)
  have n1:us.toArray.size=a.length:=by rw[size_toArray,<-r1.len];exact s1.length.symm
  have n2:us'.toArray.size=b.length:=by rw[size_toArray,<-r2.len];exact s2.length.symm
  by_cases hl:a.length=b.length
  ·have z:=RcAt.lists (e:=λj=>decide (a[j]?=b[j]?)) p1.isList p2.isList (by rw[n1,n2];exact hl) (Nat.lt_of_le_of_lt (Nat.le_add_right _ _) hu) (λj h1 h2=>by
    obtain⟨v,x,e1,e2,e3⟩:=Iv s1 r1 j h1
    obtain⟨w,y,f1,f2,f3⟩:=Iv s2 r2 j h2
    rw[e1,f1]
    have z:=Eqv.sI (K:=K) I (A:=A.in1) (by rw[Kh];omega) e2 f2 e3 f3
    simpa using z)
   rw[n1,uP hl] at z
   exact z
  ·rw[show decide (a=b)=false by simp;intro e;exact hl (by rw[e])]
   exact RcAt.lists_lengths p1.isList p2.isList (by rw[n1,n2];exact bne_iff_ne.mpr hl) (Nat.lt_of_le_of_lt (Nat.le_add_right _ _) hu)
 Fo {X pins σ H s} I {A} hu {v w u u' a b} h1 h2 q1 q2:=by
  obtain⟨p,vs,rfl,h1,r1⟩:=h1
  obtain⟨p',ws,rfl,h2,r2⟩:=h2
  cases q1;cases q2
  obtain⟨us,s1,p1,_⟩:=I.list (aZ.of h1)
  obtain⟨us',s2,p2,_⟩:=I.list (aZ.of h2)
  have n1:us.toArray.size=a.length:=by rw[size_toArray,<-r1.len];exact s1.length.symm
  have n2:us'.toArray.size=b.length:=by rw[size_toArray,<-r2.len];exact s2.length.symm
  by_cases hl:a.length=b.length
  ·have z:=RcNeAt.lists (e:=λj=>decide (a[j]?=b[j]?)) p1.isList p2.isList (by rw[n1,n2];exact hl) (Nat.lt_of_le_of_lt (Nat.le_add_right _ _) hu) (λj h1 h2=>by
    obtain⟨v,x,e1,e2,e3⟩:=Iv s1 r1 j h1
    obtain⟨w,y,f1,f2,f3⟩:=Iv s2 r2 j h2
    rw[e1,f1]
    have z:=Eqv.sI (K:=K) I (A:=A.in1) (by rw[Kh];omega) e2 f2 e3 f3
    simpa using z)
   rw[n1,uP hl] at z
   exact z
  ·rw[show decide (a=b)=false by simp;intro e;exact hl (by rw[e])]
   exact RcNeAt.lists_lengths p1.isList p2.isList (by rw[n1,n2];exact bne_iff_ne.mpr hl) (Nat.lt_of_le_of_lt (Nat.le_add_right _ _) hu)
 sI {X pins σ H s} I {A} hu {v w u u' a b} h1 h2 q1 q2:=by
  obtain⟨p,vs,rfl,h1,r1⟩:=h1
  obtain⟨p',ws,rfl,h2,r2⟩:=h2
  cases q1;cases q2
  by_cases hp:p=p'
  ·subst hp
   cases h1.symm.trans h2
   rw[show a=b from A2.det (R:=rp K H) (λ_ _ _ z1 z2=>Eqv.det (K:=K) z1 z2) r1 r2]
   simp
   exact EqAt.same _
  ·refine EqAt.of_refs hp ?_
   obtain⟨us,s1,p1,_⟩:=I.list (aZ.of h1)
   obtain⟨us',s2,p2,_⟩:=I.list (aZ.of h2)
   have n1:us.toArray.size=a.length:=by rw[size_toArray,<-r1.len];exact s1.length.symm
   have n2:us'.toArray.size=b.length:=by rw[size_toArray,<-r2.len];exact s2.length.symm
   by_cases hl:a.length=b.length
   ·have z:=RcAt.lists (e:=λj=>decide (a[j]?=b[j]?)) p1.isList p2.isList (by rw[n1,n2];exact hl) (Nat.lt_of_le_of_lt (Nat.le_add_right _ _) hu) (λj h1 h2=>by
     obtain⟨v,x,e1,e2,e3⟩:=Iv s1 r1 j h1
     obtain⟨w,y,f1,f2,f3⟩:=Iv s2 r2 j h2
     rw[e1,f1]
     have z:=Eqv.sI (K:=K) I (A:=A.in1) (by rw[Kh];omega) e2 f2 e3 f3
     simpa using z)
    rw[n1,uP hl] at z
    exact z
   ·rw[show decide (a=b)=false by simp;intro e;exact hl (by rw[e])]
    exact RcAt.lists_lengths p1.isList p2.isList (by rw[n1,n2];exact bne_iff_ne.mpr hl) (Nat.lt_of_le_of_lt (Nat.le_add_right _ _) hu)
theorem zQp{α β:Type}[DecidableEq α][DecidableEq β](a b:α×β):((List.range (min 2 2)).all (λj=>if j=0 then decide (a.1=b.1) else decide (a.2=b.2))&&((2:Nat)==2))=decide (a=b):=by
 obtain⟨a1,a2⟩:=a
 obtain⟨b1,b2⟩:=b
 by_cases h1:a1=b1<;>by_cases h2:a2=b2<;>simp[range_succ,h1,h2]
theorem vals2(h:Vals [v1,v2] us):∃u1 u2,us=[u1,u2]/\RelV v1 u1/\RelV v2 u2:=by
 cases h with
 |cons a1 h=>cases h with
  |cons a2 h=>cases h;exact⟨_,_,rfl,a1,a2⟩
section
variable{α β:Type}[Rp K α][DecidableEq α][Eqv K α][Rp K β][DecidableEq β][Eqv K β]{X:Cx}{pins:List (Addr×Obj)}{σ:St}{H:Hp}{s:Shared}{A:Around}{a b:α×β}{p p':Addr}{v1 v2 w1 w2:V}
theorem zLa(I:Inv X pins σ H s)(hu:A.units+(Eqv.dep K α+Eqv.dep K β+1)<cLine)(r1:rp K H v1 a.1)(r2:rp K H v2 a.2)(z1:rp K H w1 b.1)(z2:rp K H w2 b.2)(a1:RelV v1 u1)(a2:RelV v2 u2)(b1:RelV w1 t1)(b2:RelV w2 t2) :
  ∀(j:Nat)(h1:j < #[u1,u2].size)(h2:j < #[t1,t2].size),EqAt A.in1 s #[u1,u2][j] #[t1,t2][j] (if j=0 then decide (a.1=b.1) else decide (a.2=b.2)):=by
 intro j h1 h2
 have hj:j=0\/j=1:=by
  have:j<2:=h1
  omega
 rcases hj with rfl|rfl
 ·exact Eqv.sI (K:=K) I (A:=A.in1) (by rw[Kh];omega) r1 z1 a1 b1
 ·exact Eqv.sI (K:=K) I (A:=A.in1) (by rw[Kh];omega) r2 z2 a2 b2
theorem Rx(I:Inv X pins σ H s)(hu:A.units+(Eqv.dep K α+Eqv.dep K β+1)<cLine)(h1:H p=some (.tup [v1,v2]))(h2:H p'=some (.tup [w1,w2]))(r1:rp K H v1 a.1)(r2:rp K H v2 a.2)(z1:rp K H w1 b.1)(z2:rp K H w2 b.2) :
  RcAt A s (.ref p) (.ref p') (decide (a=b))/\RcNeAt A s (.ref p) (.ref p') (!decide (a=b)):=by
 obtain⟨us,s1,p1,_⟩:=I.tuple (.inl (.inl h1))
 obtain⟨us',s2,p2,_⟩:=I.tuple (.inl (.inl h2))
 obtain⟨u1,u2,rfl,a1,a2⟩:=vals2 s1
 obtain⟨t1,t2,rfl,b1,b2⟩:=vals2 s2
 have he:=zLa (A:=A) I hu r1 r2 z1 z2 a1 a2 b1 b2
 have hu':A.units<cLine:=Nat.lt_of_le_of_lt (Nat.le_add_right _ _) hu
 have q1:=RcAt.tuples p1 p2 hu' he
 have q2:=RcNeAt.tuples p1 p2 hu' he
 rw[<-zQp]
 exact⟨q1,q2⟩
end
instance{α β:Type}[Rp K α][DecidableEq α][Eqv K α][Rp K β][DecidableEq β][Eqv K β]:Eqv K (α×β) where
 dep:=Eqv.dep K α+Eqv.dep K β+1
 det {H v a b} h1 h2:=by
  obtain⟨p,v1,v2,rfl,h1,r1,r2⟩:=h1
  obtain⟨p',w1,w2,e,h2,q1,q2⟩:=h2
  cases e
  cases h1.symm.trans h2
  exact Prod.ext (Eqv.det (K:=K) r1 q1) (Eqv.det (K:=K) r2 q2)
 Fj {X pins σ H s} I {A} hu {v w u u' a b} h1 h2 q1 q2:=by
  obtain⟨p,v1,v2,rfl,h1,r1,r2⟩:=h1
  obtain⟨p',w1,w2,rfl,h2,z1,z2⟩:=h2
  cases q1;cases q2
  exact(Rx I hu h1 h2 r1 r2 z1 z2).1
 Fo {X pins σ H s} I {A} hu {v w u u' a b} h1 h2 q1 q2:=by
  obtain⟨p,v1,v2,rfl,h1,r1,r2⟩:=h1
  obtain⟨p',w1,w2,rfl,h2,z1,z2⟩:=h2
  cases q1;cases q2
  exact(Rx I hu h1 h2 r1 r2 z1 z2).2
 sI {X pins σ H s} I {A} hu {v w u u' a b} h1 h2 q1 q2:=by
  obtain⟨p,v1,v2,rfl,h1,r1,r2⟩:=h1
  obtain⟨p',w1,w2,rfl,h2,z1,z2⟩:=h2
  cases q1;cases q2
  by_cases hp:p=p'
  ·subst hp
   cases h1.symm.trans h2
   rw[show a=b from Prod.ext (Eqv.det (K:=K) r1 z1) (Eqv.det (K:=K) r2 z2)]
   simp
   exact EqAt.same _
  ·exact EqAt.of_refs hp (Rx I hu h1 h2 r1 r2 z1 z2).1
def w6(K:PySem.W.Frag)(α:Type)[Rp K α][DecidableEq α](neg:Bool):R2:=λx y H Q=>∃a b:α,rp K H x a/\rp K H y b/\Q (.bl (if neg=true then !decide (a=b) else decide (a=b))) H
theorem qQ(K:PySem.W.Frag)(α:Type)[Rp K α][DecidableEq α][Eqv K α]{X:Cx}(hr:bI k X.A)(hd:Eqv.dep K α<=64:=by exact Nat.le_of_ble_eq_true rfl):jA X (compareOp .Eq) (w6 K α false):=by
 intro pins s σ H x y v u Q I rx ry h
 obtain⟨a,b,h1,h2,q⟩:=h
 exact Eqv.Fj (K:=K) I (A:=X.A) (by have:=hr.units;omega) h1 h2 rx ry _ _ _ _ ⟨.bl (decide (a=b)),H,I,rfl,q⟩
theorem Cq(K:PySem.W.Frag)(α:Type)[Rp K α][DecidableEq α][Eqv K α]{X:Cx}(hr:bI k X.A)(hd:Eqv.dep K α<=64:=by exact Nat.le_of_ble_eq_true rfl):jA X (compareOp .NotEq) (w6 K α true):=by
 intro pins s σ H x y v u Q I rx ry h
 obtain⟨a,b,h1,h2,q⟩:=h
 exact Eqv.Fo (K:=K) I (A:=X.A) (by have:=hr.units;omega) h1 h2 rx ry _ _ _ _ ⟨.bl (!decide (a=b)),H,I,rfl,q⟩
variable{B:Bs}{sl:SL K}{md W2:Md}{α β:Type}[Rp K α][Rp K β]{t1 t2 t:TE}
theorem qR[DecidableEq α]{m1 m2:Option α}(h1:Ex B sl .hp t1 m1)(h2:Ex B sl .hp t2 m2):Ex B sl md (jk (w6 K α false) t1 t2) (m1.bind λa=>m2.bind λb=>some (decide (a=b))) :=
 su (f:=λa b=>some (decide (a=b))) (λa b c v w H Q e r1 r2 q=>by cases e;exact⟨a,b,r1,r2,q⟩) h1 h2
theorem Cr[DecidableEq α]{m1 m2:Option α}(h1:Ex B sl .hp t1 m1)(h2:Ex B sl .hp t2 m2):Ex B sl md (jk (w6 K α true) t1 t2) (m1.bind λa=>m2.bind λb=>some (!decide (a=b))) :=
 su (f:=λa b=>some (!decide (a=b))) (λa b c v w H Q e r1 r2 q=>by cases e;exact⟨a,b,r1,r2,q⟩) h1 h2
section
variable{m1 m2:Option Int}
theorem Oi{g:Int->Int->V}{f:Int->Int->α}[Sc K α](hg:∀i j,g i j=Sc.val K (f i j))(h1:Ex B sl .hp t1 m1)(h2:Ex B sl .hp t2 m2):Ex B sl md (jk (pL g) t1 t2) (m1.bind λa=>m2.bind λb=>some (f a b)) :=
 su (f:=λa b=>some (f a b)) (λa b c v w H Q e r1 r2 q=>by cases e;cases r1;cases r2;exact⟨a,b,rfl,rfl,by rw[hg];exact q⟩) h1 h2
theorem vY(h1:Ex B sl .hp t1 m1)(h2:Ex B sl .hp t2 m2):Ex B sl md (jk (pL λi j=>.int (i+j)) t1 t2) (m1.bind λa=>m2.bind λb=>some (a+b)):=Oi (λ_ _=>rfl) h1 h2
theorem Ry(h1:Ex B sl .hp t1 m1)(h2:Ex B sl .hp t2 m2):Ex B sl md (jk (pL λi j=>.int (i-j)) t1 t2) (m1.bind λa=>m2.bind λb=>some (a-b)):=Oi (λ_ _=>rfl) h1 h2
theorem sJ(h1:Ex B sl .hp t1 m1)(h2:Ex B sl .hp t2 m2):Ex B sl md (jk (pL λi j=>.bl (decide (i<j))) t1 t2) (m1.bind λa=>m2.bind λb=>some (decide (a<b))):=Oi (λ_ _=>rfl) h1 h2
theorem Oj(h1:Ex B sl .hp t1 m1)(h2:Ex B sl .hp t2 m2):Ex B sl md (jk (pL λi j=>.bl (decide (j<i))) t1 t2) (m1.bind λa=>m2.bind λb=>some (decide (b<a))):=Oi (λ_ _=>rfl) h1 h2
def mulM(a b:Int):Option Int:=if(-(2^64)<a/\a<2^64)\/(-(2^64)<b/\b<2^64) then some (a*b) else none
def aQ(a b:Int):Option Int:=if 0<b then some (a%b) else none
def bF(a b:Int):Option Int:=if 0<b/\b<1073741824 then some (a/b) else none
def qb(a b:Int):Option Int:=if 0<=b/\b<=1000000/\a.natAbs<2^64 then some (a^b.toNat) else none
theorem RB(h1:Ex B sl .hp t1 m1)(h2:Ex B sl .hp t2 m2):Ex B sl md (jk (rI u_ λi j=>.int (i*j)) t1 t2) (m1.bind λa=>m2.bind λb=>mulM a b) :=
 su (f:=mulM) (λa b c v w H Q e r1 r2 q=>by
  unfold mulM at e
  split at e
  case isFalse=>cases e
  rename_i hc
  cases e;cases r1;cases r2
  exact⟨a,b,rfl,rfl,hc,q⟩) h1 h2
theorem yX(h1:Ex B sl .hp t1 m1)(h2:Ex B sl .hp t2 m2):Ex B sl md (jk (rI (λ_ j=>0<j) λi j=>.int (i%j)) t1 t2) (m1.bind λa=>m2.bind λb=>aQ a b) :=
 su (f:=aQ) (λa b c v w H Q e r1 r2 q=>by
  unfold aQ at e
  split at e
  case isFalse=>cases e
  rename_i hc
  cases e;cases r1;cases r2
  exact⟨a,b,rfl,rfl,hc,q⟩) h1 h2
theorem wQ(h1:Ex B sl .hp t1 m1)(h2:Ex B sl .hp t2 m2):Ex B sl md (jk (rI JL λi j=>.int (i/j)) t1 t2) (m1.bind λa=>m2.bind λb=>bF a b) :=
 su (f:=bF) (λa b c v w H Q e r1 r2 q=>by
  unfold bF at e
  split at e
  case isFalse=>cases e
  rename_i hc
  cases e;cases r1;cases r2
  exact⟨a,b,rfl,rfl,hc,q⟩) h1 h2
theorem Fp(h1:Ex B sl .hp t1 m1)(h2:Ex B sl .hp t2 m2):Ex B sl md (jk (rI JM λi j=>.int (i^j.toNat)) t1 t2) (m1.bind λa=>m2.bind λb=>qb a b) :=
 su (f:=qb) (λa b c v w H Q e r1 r2 q=>by
  unfold qb at e
  split at e
  case isFalse=>cases e
  rename_i hc
  cases e;cases r1;cases r2
  exact⟨a,b,rfl,rfl,hc,q⟩) h1 h2
end
theorem A2.aV(h:A2 R vs xs)(e:L2.aV xs i=some a):∃v,L2.aV vs i=some v/\R v a:=by
 unfold L2.aV at e ⊢
 rw[h.len]
 cases q:rO xs.length i with
 |none=>rw[q] at e;cases e
 |some j=>rw[q] at e;exact h.at2 e
theorem wY{m1:Option (List α)}{m2:Option Int}(h1:Ex B sl md t1 m1)(h2:Ex B sl .hp t2 m2):Ex B sl md (jk (rP K) t1 t2) (m1.bind λxs=>m2.bind λi=>L2.aV xs i):=λc hc F O H σ Q s k=>by
 obtain⟨xs,i,e1,e2,e3⟩:=qO hc
 refine h1 xs e1 F O H σ _ s λv F' H' g r1=>?_
 refine h2 i e2 F' O H' σ _ (s.grow g) λw F2 H2 g2 r2=>?_
 cases r2
 obtain⟨p,vs,rfl,z1,z2⟩:=r1
 obtain⟨u,y1,y2⟩:=z2.aV e3
 have hle:Same (reg B F' H' md) H2:=(match md with
  |.nw=>bw.trans g.ok.fh
  |.fz=>g.ok.fh
  |.hp=>.refl _:Same (reg B F' H' md) H').trans g2.hh
 exact⟨p,vs,i,u,rfl,rfl,aZ.of (hle _ _ z1),y1,k u F2 H2 (g.trans g2) (Rp.mono (wK g2 md) y2)⟩
abbrev Fq(K:PySem.W.Frag):List V->Hp->VK->Prop:=λxs H Q=>∃p ys,xs=[.ref p]/\(aZ K H p ys\/nZ K H p ys)/\Q (.int ys.length) H
theorem wP{m:Option (List α)}(h:Ex B sl .hp t m):Ex B sl md (pN (Fq K) (xQ t bD)) (m.bind λxs=>some (xs.length:Int)):=λc hc F O H σ Q s k=>by
 cases m with
 |none=>cases hc
 |some xs =>
  cases(show some (xs.length:Int)=some c from hc)
  refine h xs rfl F O H σ _ s λv F' H' g r1=>?_
  obtain⟨p,vs,rfl,z1,z2⟩:=r1
  exact⟨p,vs,rfl,.inl (aZ.of z1),k _ F' H' g (by show V.int vs.length=V.int xs.length;rw[z2.len])⟩
abbrev Cu(K:PySem.W.Frag):List V->Hp->VK->Prop:=λxs H Q=>∃p ys,xs=[V.ref p]/\(aZ K H p ys\/nZ K H p ys)/\∀l,H l=none->Q (.ref l) (upd H l (.lst ys))
theorem A2.sc{F F':Hp}[Sc K α]{vs:List V}{xs:List α}(h:A2 (rp K F) vs xs):A2 (rp K F') vs xs:=h.imp λ_ _=>rY
theorem Kl[Sc K α]{m:Option (List α)}(h:Ex B sl .hp t m):Eo B sl md (pN (Cu K) (xQ t bD)) m:=λc hc F O H σ Q s k=>by
 refine h c hc F O H σ _ s λv F' H' g r1=>?_
 obtain⟨p,vs,rfl,z1,z2⟩:=r1
 exact⟨p,vs,rfl,.inl (aZ.of z1),λl hl=>k l vs F' H' g hl z2.sc⟩
class Fl (K:PySem.W.Frag) (α:Type) [Rp K α] [Sc K α] [DecidableEq α]:Prop where
 flat:∀a:α,t_ (Sc.val K a)=true
 eq:∀a b:α,v9 (Sc.val K a) (Sc.val K b)=decide (a=b)
instance:Fl K Int:=⟨λ_=>rfl,λa b=>by show(a==b)=_;exact gW a b⟩
instance:Fl K Str:=⟨λ_=>rfl,λa b=>by show(a==b)=_;exact gW a b⟩
instance:Fl K Bool:=⟨λ_=>rfl,λa b=>by show(a==b)=_;exact gW a b⟩
instance:Fl K (Option Int):=⟨λa=>by cases a<;>rfl,λa b=>by
 cases a with
 |none=>cases b with
  |none=>rfl
  |some y=>rfl
 |some x=>cases b with
  |none=>rfl
  |some y=>show(x==y)=_;rw[gW];simp⟩
theorem A2.vals[Sc K α]:∀{vs:List V}{xs:List α},A2 (rp K F) vs xs->vs=xs.map (Sc.val K)
 |[],[],_=>rfl
 |_::_,_::_,h=>by rw[map_cons,Sc.is.mp h.1,A2.vals h.2]
 |[],_::_,h=>h.elim
 |_::_,[],h=>h.elim
theorem Ol[Sc K α][DecidableEq α][Fl K α](a:α):∀xs:List α,inV (Sc.val K a) (xs.map (Sc.val K))=decide (a∈xs)
 |[]=>by simp[inV]
 |x::xs=>by
  have ih:=Ol a xs
  unfold inV at ih ⊢
  rw[map_cons,any_cons,ih,Fl.eq]
  by_cases h1:x=a
  ·subst h1;simp
  ·by_cases h2:a∈xs<;>simp[h1,h2,Ne.symm h1]
theorem RD[Sc K α][DecidableEq α][Fl K α](xs:List α):(xs.map (Sc.val K)).all t_=true:=by
 rw[List.all_map,all_eq_true]
 intro x _
 exact Fl.flat x
theorem Om[Sc K α][DecidableEq α][Fl K α]{m1:Option α}{m2:Option (List α)}(h1:Ex B sl .hp t1 m1)(h2:Ex B sl .hp t2 m2):Ex B sl md (jk (Es K false) t1 t2) (m1.bind λa=>m2.bind λxs=>some (decide (a∈xs))) :=
 su (f:=λa xs=>some (decide (a∈xs))) (λa b c v w H Q e r1 r2 q=>by
  cases e
  obtain⟨p,vs,rfl,z1,z2⟩:=r2
  have ev:=Sc.is.mp r1
  have es:=z2.vals
  subst ev es
  refine⟨p,_,rfl,.inl (aZ.of z1),Fl.flat a,RD b,?_⟩
  have:=Ol (K:=K) a b
  simp only[Bool.false_eq_true,if_false]
  rw[this]
  exact q) h1 h2
theorem Oo[Sc K α][DecidableEq α][Fl K α]{m1:Option α}{m2:Option (List α)}(h1:Ex B sl .hp t1 m1)(h2:Ex B sl .hp t2 m2):Ex B sl md (jk (Es K true) t1 t2) (m1.bind λa=>m2.bind λxs=>some (!decide (a∈xs))) :=
 su (f:=λa xs=>some (!decide (a∈xs))) (λa b c v w H Q e r1 r2 q=>by
  cases e
  obtain⟨p,vs,rfl,z1,z2⟩:=r2
  have ev:=Sc.is.mp r1
  have es:=z2.vals
  subst ev es
  refine⟨p,_,rfl,.inl (aZ.of z1),Fl.flat a,RD b,?_⟩
  have:=Ol (K:=K) a b
  simp only[if_true]
  rw[this]
  exact q) h1 h2
theorem RG{m:Option (Option α)}(h:Ex B sl .hp t m):Ex B sl md (JC t) (m.bind λa=>some a.isNone):=λc hc F O H σ Q s k=>by
 cases m with
 |none=>cases hc
 |some a =>
  cases(show some a.isNone=some c from hc)
  refine h a rfl F O H σ _ s λv F' H' g r1=>?_
  cases a with
  |none=>cases r1;exact k _ F' H' g rfl
  |some x=>rw[decide_eq_false r1.1];exact k _ F' H' g rfl
theorem Xb{m:Option (Option α)}(h:Ex B sl md t m):Ex B sl md t (m.bind λa=>a):=λc hc F O H σ Q s k=>by
 cases m with
 |none=>cases hc
 |some a =>
  cases a with
  |none=>cases hc
  |some x =>
   have e:x=c:=Option.some.inj hc
   subst e
   exact h (some x) rfl F O H σ _ s λv F' H' g r1=>k v F' H' g r1.2
theorem xq{m:Option lJ}(h:Ex B sl .hp t m):Ex B sl md (pN (Fq K) (xQ t bD)) (m.bind λxs=>some (xs.ns.length:Int)):=λc hc F O H σ Q s k=>by
 cases m with
 |none=>cases hc
 |some xs =>
  cases(show some (xs.ns.length:Int)=some c from hc)
  refine h xs rfl F O H σ _ s λv F' H' g r1=>?_
  obtain⟨p,rfl,z1⟩:=r1
  exact⟨p,_,rfl,.inl z1,k _ F' H' g (by show V.int (xs.ns.map V.int).length=V.int xs.ns.length;rw[length_map])⟩
theorem xu(h:L2.aV ns i=some z):L2.aV (ns.map V.int) i=some (.int z):=by
 unfold L2.aV at h ⊢
 rw[length_map]
 cases q:rO ns.length i with
 |none=>rw[q] at h;cases h
 |some j =>
  rw[q] at h
  show(ns.map V.int)[j]?=_
  have h:ns[j]?=some z:=h
  rw[getElem?_map,h]<;>rfl
theorem Ft{m1:Option lJ}{m2:Option Int}(h1:Ex B sl .hp t1 m1)(h2:Ex B sl .hp t2 m2):Ex B sl md (jk (rP K) t1 t2) (m1.bind λxs=>m2.bind λi=>L2.aV xs.ns i) :=
 su (f:=λ(xs:lJ) (i:Int)=>L2.aV xs.ns i) (λa b c v w H Q e r1 r2 q=>by
  have r2:w=.int b:=r2
  subst r2
  obtain⟨p,rfl,z1⟩:=r1
  have q:Q (.int c) H:=q
  exact⟨p,a.ns.map V.int,b,.int c,rfl,rfl,z1,xu e,q⟩) h1 h2
theorem Xc{m1 m2:Option Int}(h1:Ex B sl .hp t1 m1)(h2:Ex B sl .hp t2 m2):Ex B sl md (pN (λxs H Q=>∃i j,xs=[.int i,.int j]/\Q (.int (if j<i then j else i)) H) (xQ t1 (xQ t2 bD))) (m1.bind λa=>m2.bind λb=>some (min a b)):=λc hc F O H σ Q s k=>by
 obtain⟨a,b,e1,e2,e3⟩:=qO hc
 cases e3
 refine h1 a e1 F O H σ _ s λv F' H' g r1=>?_
 refine h2 b e2 F' O H' σ _ (s.grow g) λw F2 H2 g2 r2=>?_
 cases r1;cases r2
 exact⟨a,b,rfl,by rw[show(if b<a then b else a)=min a b by split<;>omega];exact k _ F2 H2 (g.trans g2) rfl⟩
class Ty (K:PySem.W.Frag) (α:Type) [Rp K α] where
 ty:Value
 is:∀{H:Hp}{v:V}{a:α},rp K H v a->iI K H v ty
instance:Ty K Int:=⟨.type "int",λh=>by cases h;exact .int _⟩
instance:Ty K Bool:=⟨.type "bool",λh=>by cases h;exact .bl _⟩
instance:Ty K Str:=⟨.type "str",λh=>by cases h;exact .str _⟩
instance:Ty K (List α):=⟨.type "list",λ⟨p,vs,e,h,_⟩=>by rw[e];exact .lst h⟩
instance:Ty K (α×β):=⟨.type "tuple",λ⟨p,_,_,e,h,_⟩=>by rw[e];exact .tup h⟩
theorem RJ[Ty K α]{c:Value}{y:V}{b:Bool}{m:Option α}(hb:kitOne K (Ty.ty K α) c=some b)(hy:RelV y c)(h:Ex B sl .hp t m):Ex B sl md (pN (Ez K c) (xQ t (xQ (tC y) bD))) (m.bind λ_=>some b):=λd hd F O H σ Q s k=>by
 cases m with
 |none=>cases hd
 |some a =>
  cases(show some b=some d from hd)
  refine h a rfl F O H σ _ s λv F' H' g r1=>?_
  exact⟨v,y,_,b,rfl,hy,Ty.is r1,hb,k _ F' H' g rfl⟩
end
def src(xss:List LI)(j:Nat):LI:=((List.range xss.length).filter λk=>decide ((j:Int)∈xss.getD k [])).map Int.ofNat
theorem gZ{α:Type}{p q:α->Bool}:∀{l:List α},(∀x∈l,p x=q x)->l.filter p=l.filter q
 |[],_=>rfl
 |a::l,h=>by
  rw[filter_cons,filter_cons,h a mem_cons_self,gZ λx hx=>h x (mem_cons_of_mem _ hx)]
theorem zP4(xss:List LI)(xs:LI)(j:Nat):src (xss++[xs]) j=src xss j++(if(j:Int)∈xs then[(xss.length:Int)] else[]):=by
 unfold src
 rw[length_append,length_singleton,range_succ,List.filter_append,map_append]
 congr 1
 ·congr 1
  refine gZ λk hk=>?_
  have hk':k<xss.length:=mem_range.mp hk
  rw[getD_eq_getElem?_getD,getD_eq_getElem?_getD,getElem?_append_left hk']
 ·rw[filter_cons,List.filter_nil,getD_eq_getElem?_getD,getElem?_append_right (Nat.le_refl _),Nat.sub_self]
  by_cases h:(j:Int)∈xs
  ·simp[h]
  ·simp[h]
theorem zP3{xss:List LI}{i:Nat}{xs:LI}(h:xss[i]?=some xs)(j:Nat):src (xss.take (i+1)) j=src (xss.take i) j++(if(j:Int)∈xs then[(i:Int)] else[]):=by
 have hi:i<xss.length:=(List.getElem?_eq_some_iff.mp h).1
 rw[take_add_one,h]
 have e:(some xs:Option LI).toList=[xs]:=rfl
 rw[e,zP4,length_take,Nat.min_eq_left (Nat.le_of_lt hi)]
theorem yc(xss:List LI)(j:Nat):(src xss j).length<=xss.length:=by
 unfold src
 rw[length_map]
 exact Nat.le_trans (length_filter_le _ _) (by rw[length_range];exact Nat.le_refl _)
theorem int_at{ns:LI}{i:Nat}{y:V}(h:(ns.map V.int)[i]?=some y):∃z,y=.int z/\ns[i]?=some z:=by
 rw[getElem?_map] at h
 cases e:ns[i]? with
 |none=>rw[e] at h;cases h
 |some z=>rw[e] at h;exact⟨z,(Option.some.inj h).symm,rfl⟩
theorem RK{bs:List Addr}{i:Nat}{y:V}(h:(bs.map V.ref)[i]?=some y):∃b,y=.ref b/\bs[i]?=some b:=by
 rw[getElem?_map] at h
 cases e:bs[i]? with
 |none=>rw[e] at h;cases h
 |some z=>rw[e] at h;exact⟨z,(Option.some.inj h).symm,rfl⟩
theorem Xd{bs:List Addr}{i:Nat}{b:Addr}(h:bs[i]?=some b):(bs.map V.ref)[i]?=some (.ref b):=by rw[getElem?_map,h]<;>rfl
theorem yC{α:Type}{xs:List α}{x:α}(h:xs[i]?=some x):i<xs.length:=(List.getElem?_eq_some_iff.mp h).1
theorem zN7{i:Nat}(h:i<1920):((i:Int)).natAbs.log2<1920:=by
 rw[Int.natAbs_natCast]
 exact Nat.lt_of_le_of_lt (Nat.log2_le_self i) h
theorem RM{ns:LI}(nd:ns.Nodup)(h:ns[i]?=some z):¬z∈ns.take i:=λhz=>by
 obtain⟨j,hj⟩:=mem_iff_getElem?.mp hz
 have hji:j<i:=by
  have:=yC hj
  rw[length_take] at this
  omega
 rw[getElem?_take_of_lt hji] at hj
 have hi:=yC h
 have hjl:=yC hj
 rw[List.getElem?_eq_getElem hi] at h
 rw[List.getElem?_eq_getElem hjl] at hj
 have e:ns[j]=ns[i]:=(Option.some.inj hj).trans (Option.some.inj h).symm
 have:=(getElem_inj nd).mp e
 omega
theorem uA{α:Type}{ns:List α}{z x:α}(h:ns[i]?=some z):x∈ns.take (i+1)↔x∈ns.take i\/x=z:=by
 rw[take_add_one,h]
 simp
def m9(K:PySem.W.Frag)(H:Hp)(bs:List Addr)(xss:List LI):Prop:=bs.length=xss.length/\∀(i:Nat)(b:Addr),bs[i]?=some b->∃xs:LI,xss[i]?=some xs/\aZ K H b (xs.map V.int)
theorem m9.same(r:m9 K H bs xss)(s:Same H H'):m9 K H' bs xss:=⟨r.1,λi b h=>let⟨xs,h1,h2⟩:=r.2 i b h;⟨xs,h1,s.seq h2⟩⟩
def Oq(n:Nat)(xss:List LI):Prop:=xss.length=n/\∀xs∈xss,xs≠[]/\xs.Nodup/\xs.length<=100/\∀z∈xs,0<=z/\z<(n:Int)
def m_(H:Hp)(cs:List Addr)(row:Nat->LI):Prop:=∀(j:Nat)(c:Addr),cs[j]?=some c->H c=some (.lst ((row j).map V.int))
structure Bl(K:PySem.W.Frag)(mg:Str->Option Value):Prop where
 len:mg "len" = none
 range:mg "range" = none
 Ot:mg "isinstance" = none
 int:mg "int" = none
 bool:mg "bool" = none
 list:mg "list" = none
 enum:mg "enumerate" = none
 ii:kitOne K (.type "int") (.type "int")=some true
 ib:kitOne K (.type "int") (.type "bool")=some false
 ll:kitOne K (.type "list") (.type "list")=some true
theorem Km:kitOne K (.type "int") (.type "int")=some true:=rfl
theorem Ko:kitOne K (.type "list") (.type "list")=some true:=rfl
theorem Kq:kitOne K (.type "int") (.type "bool")=some false:=by
 first|rfl|(unfold kitOne PySem.W.kitCls;decide +kernel)
theorem RN:bootBuiltins "isinstance" = some (.builtin "isinstance"):=by decide +kernel
theorem Xe:bootBuiltins "int" = some (.type "int"):=by decide +kernel
theorem yh:bootBuiltins "bool" = some (.type "bool"):=by decide +kernel
theorem Kr:bootBuiltins "list" = some (.type "list"):=by decide +kernel
structure News(H H':Hp)(cs:List Addr)(xss:List (List V)):Prop where
 len:cs.length=xss.length
 at_:∀(i:Nat)(c:Addr),cs[i]?=some c->∃xs,xss[i]?=some xs/\H' c=some (.lst xs)
 new:∀c∈cs,H c=none
 nd:cs.Nodup
theorem News.nil:News H H' [] []:=⟨rfl,λi c h=>(by simp at h),λc h=>(by cases h),nodup_nil⟩
theorem News.snoc(n:News H H1 cs xss)(s:Same H H1)(h:H1 l=none):News H (upd H1 l (.lst xs)) (cs++[l]) (xss++[xs]):=by
 have hl:∀c∈cs,c≠l:=λc hc e=>by
  obtain⟨i,hi⟩:=mem_iff_getElem?.mp hc
  obtain⟨ys,_,q⟩:=n.at_ i c hi
  rw[e,h] at q
  cases q
 refine⟨by rw[length_append,length_append,n.len]<;>rfl,λi c hc=>?_,λc hc=>?_,?_⟩
 ·by_cases hi:i<cs.length
  ·rw[getElem?_append_left hi] at hc
   obtain⟨ys,h1,h2⟩:=n.at_ i c hc
   refine⟨ys,?_,?_⟩
   ·rw[getElem?_append_left (by rw[<-n.len];exact hi)];exact h1
   ·rw[zP (hl c (mem_of_getElem? hc))];exact h2
  ·rw[getElem?_append_right (by omega)] at hc
   have hi2:i-cs.length=0:=by
    have:=yC hc
    simp at this
    omega
   rw[hi2] at hc
   have e:l=c:=Option.some.inj hc
   subst e
   refine⟨xs,?_,zR⟩
   rw[getElem?_append_right (by rw[<-n.len];omega),<-n.len,hi2]<;>rfl
 ·rcases mem_append.mp hc with hc|hc
  ·exact n.new c hc
  ·rw[mem_singleton.mp hc];exact s.free h
 ·rw[nodup_append]
  refine⟨n.nd,by simp,λa ha b hb e=>?_⟩
  rw[mem_singleton.mp hb] at e
  exact hl a ha e
theorem News.Ks(n:News H H' cs xss)(h:H' r=none):r∉cs:=λhc=>by
 obtain⟨i,hi⟩:=mem_iff_getElem?.mp hc
 obtain⟨ys,_,q⟩:=n.at_ i r hi
 rw[h] at q
 cases q
structure aF(C:Addr) where
 steps:List LI
 marks:List (Str×LI)
 fair:List LI
 sources:List LI
def RP:List Str:=["many","next_of","before","marked","fair_at","names_at"]
def srcs(xss:List LI):List LI:=(List.range xss.length).map (src xss)
def hid(H:Hp)(p:Addr):Hp:=λb=>if b=p then none else H b
section
variable{K:PySem.W.Frag}{C:Addr}
instance:Rp K (aF C):=⟨λF v m=>∃p dx fs vS vM vF vB,v=.ref p/\F p=some (.ins C dx fs)/\fs.lookup ("steps":Str)=some vS/\rp K F vS m.steps/\fs.lookup ("marks":Str)=some vM/\rp K F vM m.marks/\fs.lookup ("fair":Str)=some vF/\rp K F vF m.fair /\
 fs.lookup ("sources":Str)=some vB/\rp K F vB m.sources/\∀g∈RP,fs.lookup g=none,
 λs ⟨p,dx,fs,vS,vM,vF,vB,h1,h2,h3,h4,h5,h6,h7,h8,h9,h10,h11⟩=>⟨p,dx,fs,vS,vM,vF,vB,h1,s _ _ h2,h3,Rp.mono s h4,h5,Rp.mono s h6,h7,Rp.mono s h8,h9,Rp.mono s h10,h11⟩⟩
instance:Nn K (aF C):=⟨λ⟨_,_,_,_,_,_,_,h,_⟩=>by rw[h];intro e;cases e⟩
theorem Fv(ns:LI):A2 (rp K F) (ns.map V.int) ns:=A2.of_map (R:=rp K F) (f:=V.int) (λ_=>rfl) ns
theorem Xf:∀{cs:List Addr}{xss:List LI},cs.length=xss.length->(∀(i:Nat)(c:Addr),cs[i]?=some c->∃xs,xss[i]?=some xs/\F c=some (.lst (xs.map V.int)))->A2 (rp K F) (cs.map V.ref) xss
 |[],[],_,_=>trivial
 |c::cs,xs::xss,hl,h=>by
  obtain⟨ys,e1,e2⟩:=h 0 c rfl
  cases e1
  exact⟨⟨c,_,rfl,e2,Fv _⟩,Xf (by simpa using hl) λi c' hc=>h (i+1) c' hc⟩
 |[],_::_,hl,_=>by simp at hl
 |_::_,[],hl,_=>by simp at hl
theorem yj{xss:List LI}(h:i<xss.length):(srcs xss)[i]?=some (src xss i):=by
 unfold srcs
 rw[getElem?_map,getElem?_range h]
 rfl
theorem yp{cs:List Addr}{xss:List LI}(hl:cs.length=xss.length)(n:m_ H' cs (src xss))(h:∀c∈cs,∀o,H' c=some o->D c=some o):A2 (rp K D) (cs.map V.ref) (srcs xss):=by
 refine Xf (by rw[hl];unfold srcs;simp) λi c hc=>?_
 have hi:=yC hc
 exact⟨_,yj (by omega),h c (mem_of_getElem? hc) _ (n i c hc)⟩
end
section
variable{K:PySem.W.Frag}{B:Bs}{F H F' H' G:Hp}{O:Own}{sl:SL K}{σ:St}{md:Md}{α β:Type}[Rp K α][Rp K β]{te ta:TE}{C:Addr}
theorem RQ{pr:aF C->α}(cl:Cls K C)(na:aW K C f)(hp:∀(R:Hp) (v:V) (x:aF C),rp K R v x->∃p dx fs w,v=.ref p/\R p=some (.ins C dx fs)/\fs.lookup f=some w/\rp K R w (pr x))(h:Ex B sl md ta m) :
  Ex B sl md (pX K ta f) (m.bind λx=>some (pr x)):=λc hc F O H σ Q s k=>by
 cases m with
 |none=>cases hc
 |some x =>
  cases(show some (pr x)=some c from hc)
  refine h x rfl F O H σ _ s λv F' H' g r=>?_
  obtain⟨p,dx,fs,w,rfl,h1,h2,h3⟩:=hp _ v x r
  have hle:Same (reg B F' H' md) H':=match md with
   |.nw=>bw.trans g.ok.fh
   |.fz=>g.ok.fh
   |.hp=>.refl _
  exact⟨p,C,dx,fs,w,rfl,hle _ _ h1,cl,na,h2,k w F' H' g h3⟩
theorem Ou{m:Option (aF C)}(cl:Cls K C)(na:aW K C "steps")(h:Ex B sl md ta m):Ex B sl md (pX K ta "steps") (m.bind λx=>some x.steps) :=
 RQ cl na (λR v x ⟨p,dx,fs,vS,vM,vF,vB,h1,h2,h3,h4,_⟩=>⟨p,dx,fs,vS,h1,h2,h3,h4⟩) h
theorem Ov{m:Option (aF C)}(cl:Cls K C)(na:aW K C "marks")(h:Ex B sl md ta m):Ex B sl md (pX K ta "marks") (m.bind λx=>some x.marks) :=
 RQ cl na (λR v x ⟨p,dx,fs,vS,vM,vF,vB,h1,h2,_,_,h5,h6,_⟩=>⟨p,dx,fs,vM,h1,h2,h5,h6⟩) h
theorem Ow{m:Option (aF C)}(cl:Cls K C)(na:aW K C "fair")(h:Ex B sl md ta m):Ex B sl md (pX K ta "fair") (m.bind λx=>some x.fair) :=
 RQ cl na (λR v x ⟨p,dx,fs,vS,vM,vF,vB,h1,h2,_,_,_,_,h7,h8,_⟩=>⟨p,dx,fs,vF,h1,h2,h7,h8⟩) h
theorem yq{A:Type}{as:A->SL K}{f:aF C×A->Option β}{ma:Option A}(hg:g∈RP)(h0:Ex B sl .hp ta mm)(h:Ea B sl .hp t as ma) :
  Ex B sl md (JN C g (cu K false (λx:aF C×A=>.fz false x.1::as x.2) f) [] E0 ta t) (mm.bind λx=>ma.bind λa=>f (x,a)):=λc hc F O H σ Q s kk=>by
 cases mm with
 |none=>cases hc
 |some x =>
  cases ma with
  |none=>cases hc
  |some a =>
   have hc:f (x,a)=some c:=hc
   refine h0 x rfl F O H σ _ s λv F1 H1 g1 r1=>?_
   obtain⟨p,dx,fs,vS,vM,vF,vB,rfl,h2,h3,h4,h5,h6,h7,h8,h9,h10,h11⟩:=id r1
   refine⟨p,dx,fs,rfl,h2,h11 g hg,?_⟩
   refine h a rfl F1 O H1 σ _ (s.grow g1) λvs F' H' g2 r=>?_
   rw[append_nil]
   refine⟨(x,a),c,H',.refl _,hc,.cons (Rp.mono g2.hh r1) r,λv H2 s2 r2=>?_⟩
   have g3:=g2.ok.called s2
   refine kk v _ H2 (g1.trans (g2.trans g3)) ?_
   have r3:=Rp.mono (Rj (F:=F') g2.ok.h0 s2) r2
   exact match md with
   |.nw=>r3
   |.fz=>Rp.mono bw r3
   |.hp=>Rp.mono (bw.trans g3.ok.fh) r3
def En(B:Bs)(sl:SL K)(t:TE){α:Type}[Rp K α](m:Option α):Prop :=
 ∀a,m=some a->∀(F:Hp)(O:Own)(H:Hp)(σ:St)(Q:VK),At B sl F O H σ->(∀(v:V)(F' H1 H2:Hp),bx B F H O F' H1->Same H1 H2->rp K (dif H2 H1) v a->Q v H2)->t σ H Q
theorem En.ex{m:Option α}(h:En B sl te m):Ex B sl md te m:=λc hc F O H σ Q s kk=>h c hc F O H σ Q s λv F' H1 H2 g s2 r2=>by
 have g2:=g.ok.called s2
 refine kk v _ H2 (g.trans g2) ?_
 have r3:=Rp.mono (Rj (F:=F') g.ok.h0 s2) r2
 exact match md with
 |.nw=>r3
 |.fz=>Rp.mono bw r3
 |.hp=>Rp.mono (bw.trans g2.ok.fh) r3
theorem Fw(h1:F b=none)(h2:∀x∈O,x.1≠b):lo F O H b=H b:=by
 unfold lo
 rw[if_neg]
 rw[h1]
 simp
 exactλx hx=>h2 _ hx rfl
theorem Cv{s:Slot K}{m:Option α}(i:Nat)(hs:sl[i]?=some s)(ho:gU s=false)(h:En B sl te m):Sn B sl (lg te (m5 i)) (λa=>sl.set i (.nu a)) m:=λa ha G D σ H s k=>by
 obtain⟨F,O,g,z⟩:=s
 refine h a ha F O H σ _ z λv F' H1 H2 gr s2 r=>k _ _ ?_
 have z1:=z.grow gr
 have k2:Ok B F' O H2:=⟨gr.ok.fh.trans s2,gr.ok.h0.trans s2,gr.ok.fa,λx hx=>⟨(gr.ok.fo x hx).1,(gr.ok.fo x hx).2.1,s2 _ _ (gr.ok.fo x hx).2.2⟩,gr.ok.nd⟩
 have hlo:Same (lo F' O H1) (lo F' O H2):=λb o e=>by
  unfold lo at e ⊢
  split at e
  ·cases e
  ·rename_i hh
   rw[if_neg hh]
   exact s2 _ _ e
 refine⟨F',O,g.trans gr.ff,k2,(z1.2.mono (.refl _) hlo s2).put (λ_ _ _ y=>.nu (Rp.mono (λb o e=>?_) r) y) hs ho⟩
 have hb:H1 b=none:=by
  cases q:H1 b with
  |none=>rfl
  |some u=>unfold dif at e;rw[q] at e;cases e
 rw[wC (gr.ok.h0.free hb),Fw (gr.ok.fh.free hb) λx hx q=>by rw[<-q,(gr.ok.fo x hx).2.2] at hb;cases hb]
 exact bw _ _ e
structure yt where
 n:Unit
instance:Rp K yt:=⟨λF v _=>∃p vs,v=.ref p/\F p=some (.lst vs),λs ⟨p,vs,h1,h2⟩=>⟨p,vs,h1,s _ _ h2⟩⟩
class IsL (K:PySem.W.Frag) (α:Type) [Rp K α]:Prop where
 il:∀{F:Hp}{v:V}{a:α},rp K F v a->∃p vs,v=.ref p/\F p=some (.lst vs)
instance:IsL K (List α):=⟨λ⟨p,vs,h1,h2,_⟩=>⟨p,vs,h1,h2⟩⟩
instance:IsL K yt:=⟨λh=>h⟩
abbrev Ku:Slot K->Bool
 |@Slot.hs _ _ _ _=>true
 |@Slot.nu _ _ _ _=>true
 |_=>false
theorem Iw(h:dif (lo F O H) B.H0 b=some o):F b=none/\B.H0 b=none/\(∀x∈O,x.1≠b)/\H b=some o:=by
 have h0:B.H0 b=none:=by
  cases q:B.H0 b with
  |none=>rfl
  |some u=>unfold dif at h;rw[q] at h;cases h
 rw[wC h0] at h
 unfold lo at h
 split at h
 ·cases h
 ·rename_i hh
  simp at hh
  exact⟨hh.1,h0,λx hx e=>hh.2 x.2 (by rw[<-e];exact hx),h⟩
theorem Ok.Kv(k:Ok B F O H)(h1:F p=none)(h2:B.H0 p=none)(h3:∀x∈O,x.1≠p):Ok B F O (upd H p o) :=
 ⟨k.fh.put h1 o,k.h0.put h2 o,k.fa,λx hx=>⟨(k.fo x hx).1,(k.fo x hx).2.1,by rw[zP (h3 x hx)];exact(k.fo x hx).2.2⟩,k.nd⟩
theorem ak.calm(h:ak B F L H sl σ O)(hn:sl.all (λs=>!Ku s)=true):ak B F L' H' sl σ O:=by
 induction h with
 |nil=>exact .nil
 |un _ ih=>exact .un (ih (by rw[all_cons,Bool.and_eq_true] at hn;exact hn.2))
 |fz r _ ih=>exact .fz (Rp.mono (uE _ (.refl _)) r) (ih (by rw[all_cons,Bool.and_eq_true] at hn;exact hn.2))
 |hs r _ ih=>rw[all_cons,Bool.and_eq_true] at hn;exact absurd hn.1 (by simp)
 |nu r _ ih=>rw[all_cons,Bool.and_eq_true] at hn;exact absurd hn.1 (by simp)
 |ow r _ ih=>exact .ow (r.imp λ_ _=>Rp.mono (uE _ (.refl _))) (ih (by rw[all_cons,Bool.and_eq_true] at hn;exact hn.2))
 |od r _ ih=>exact .od r (ih (by rw[all_cons,Bool.and_eq_true] at hn;exact hn.2))
theorem Xg(h:ak B F L H sl σ O)(hs:sl[i]?=some s)(ho:gU s=false):ak B F L H (sl.set i .un) σ O:=by
 have hi:i<σ.length:=by rw[h.len];exact(List.getElem?_eq_some_iff.mp hs).1
 have z:=h.put (s':=.un) (x:=σ[i]) (λ_ _ _ y=>.un y) hs ho
 rw[Fg (List.getElem?_eq_getElem hi)] at z
 exact z
instance(n:Nat)(xss:List LI):Decidable (Oq n xss):=by unfold Oq;infer_instance
end
section
variable{K:PySem.W.Frag}{X:Cx}
theorem Kw(K:PySem.W.Frag)(h:X.K=K:=by rfl):jA X (compareOp .In) (Es K false):=by subst h;exact zNr
theorem Ox(K:PySem.W.Frag)(h:X.K=K:=by rfl):jA X (compareOp .NotIn) (Es K true):=by subst h;exact zG1
theorem bL(K:PySem.W.Frag)(h:X.K=K:=by rfl):QX X (rP K):=by subst h;exact Wj
theorem wI(K:PySem.W.Frag)(h:X.K=K:=by rfl):lX X (.builtin "len") (Fq K):=by subst h;exact zHw
theorem Ky(K:PySem.W.Frag)(h:X.K=K:=by rfl):lX X (.type "list") (Cu K):=by subst h;exact zHv
theorem RT(K:PySem.W.Frag)(hc:∀y u,RelV y c->RelV y u->u=c)(h:X.K=K:=by rfl):lX X (.builtin "isinstance") (Ez K c):=by subst h;exact zRm hc
theorem qT(K:PySem.W.Frag)(he:PE X e ta)(h:X.K=K:=by rfl)(hb:attributeBase e f X.env (eval e X.env)=eval e X.env:=by rfl):PE X (.Attribute e f pos) (pX K ta f):=by subst h;exact VL he hb
theorem xB(K:PySem.W.Frag)(hl:PE X l tl)(h:X.K=K:=by rfl):PI X tg l (rD K tl):=by subst h;exact Qx hl
theorem Kz(K:PySem.W.Frag)(hm:X.mg "enumerate" = none)(ha:PA X [a] ta)(h:X.K=K:=by rfl)(hg:Gl X "enumerate":=by rfl)(hs:starEach [a] X.env=[(false,eval a X.env)]:=by rfl) :
  PI X (.Tuple elts k tp) (.Call (.Name "enumerate" p) [a] [] pos) (rT K ta):=by subst h;exact WT hg hm ha hs
theorem oK(K:PySem.W.Frag){o e:Expr}{es:List Expr}{to:TE}{t:TA}{name:Str}{apos cpos:Pos}{T id:String}{r:V->List V->Hp->VK->Prop}(pa:PlainAttrs T)(slot:PySem.Slot T name id)(hty:typeOf (.builtin id)=pure (.type "method_descriptor"))(hm:NZ X id r)(ho:PE X o to)(ha:PA X (e::es) t)(h:X.K=K:=by rfl)(hbase:attributeBase o name X.env (eval o X.env)=eval o X.env:=by rfl)(hfew:((backTo cpos (starEach (e::es) X.env)).all (λx=>!x.1)&&(backToKw cpos (keywordEach [] X.env)).all (λx=>x.1.isSome)
   && decide ((e::es).length+([]:List Keyword).length+(if([]:List Keyword).isEmpty then 0 else 1)<30))=true:=by rfl)(hline:(apos.endLine==cpos.line)=true:=by rfl)(hs:starEach (e::es) X.env=(false,eval e X.env)::starEach es X.env:=by rfl)(hplain:(backTo cpos (starEach es X.env)).any (·.1)=false:=by rfl) :
  PE X (.Call (.Attribute o name apos) (e::es) [] cpos) (JZ K T r to t):=by subst h;exact Ca pa slot hty hm ho ha hbase hfew hline hs hplain
theorem Xh(K:PySem.W.Frag){o:Expr}{to:TE}{name:Str}{apos cpos:Pos}{T id:String}{r:V->List V->Hp->VK->Prop}(pa:PlainAttrs T)(slot:PySem.Slot T name id)(hty:typeOf (.builtin id)=pure (.type "method_descriptor"))(hm:NZ X id r)(ho:PE X o to)(h:X.K=K:=by rfl)(hbase:attributeBase o name X.env (eval o X.env)=eval o X.env:=by rfl)(hline:(apos.endLine==cpos.line)=true:=by rfl):PE X (.Call (.Attribute o name apos) [] [] cpos) (Eu K T r to):=by subst h;exact Ew pa slot hty hm ho hbase hline
theorem Fy:bootBuiltins "max" = some (.builtin "max"):=by decide +kernel
theorem Xi:bootBuiltins "min" = some (.builtin "min"):=by decide +kernel
theorem Fz:bootBuiltins "all" = some (.builtin "all"):=by decide +kernel
theorem Xj:bootBuiltins "sorted" = some (.builtin "sorted"):=by decide +kernel
theorem qd:Et B sl wj (some true):=λa ha F O H σ Q s k=>by cases ha;exact k F H (.refl s.1)
theorem Xk{B:Bs}{sl sl2:SL K}{t:TS}{al:Bool}{β:Type}[Rp K β]{m:Option β}(l:Le sl sl2)(h:SB B sl2 t al m):SB B sl t al m:=λa ha G D σ H q k=>h a ha G D σ H (q.le l) k
theorem Cw{α:Type}:∀c:List α,some []=some c->c.length<=0:=λc h=>by cases h;exact Nat.le_refl _
theorem vA{α:Type}{m:Option α}{ma:Option (List α)}(h:∀b,ma=some b->b.length<=n):∀c,(m.bind λa=>ma.bind λb=>some (a::b))=some c->c.length<=n+1:=λc e=>by
 cases m with
 |none=>cases e
 |some a =>
  cases ma with
  |none=>cases e
  |some b=>cases e;exact Nat.succ_le_succ (h b rfl)
theorem bnd{α β:Type}(a:α)(f:α->Option β):(some a).bind f=f a:=(λ(x:Option α) (e:x=some a)=>by subst e;rfl:∀x:Option α,x=some a->x.bind f=f a) _ rfl
def fuel:Nat:=100000
structure bO(P:Program)(w:World)(K:PySem.W.Frag)(mg:Str->Option Value)(base:Heap)(k:Nat)(x:Str)(ps:List Str)(sp:Sp):Prop where
 ex:∃f fd,aB P w K mg base bH k f fd ps sp/\Binds K fd ps []/\keepIn K (.ref f)=true/\mg x=some (.ref f)
structure fK(P:Program)(w:World)(K:PySem.W.Frag)(mg:Str->Option Value)(base:Heap)(k:Nat)(C:Addr)(m:Str)(ps:List Str)(sp:Sp):Prop where
 ex:∃f fd,aB P w K mg base bH k f fd ps sp/\Binds K fd ps []/\Meth K C m f
 cl:Cls K C
theorem bO.mono(c:bO P w K mg base j x ps sp)(h:j<=k):bO P w K mg base k x ps sp:=by
 obtain⟨f,fd,h1,h2⟩:=c.ex
 exact⟨f,fd,h1.mono h,h2⟩
theorem fK.mono(c:fK P w K mg base j C x ps sp)(h:j<=k):fK P w K mg base k C x ps sp:=by
 obtain⟨f,fd,h1,h2⟩:=c.ex
 exact⟨⟨f,fd,h1.mono h,h2⟩,c.cl⟩
theorem zU(c:bO X.prog X.w X.K X.mg X.base k x ps sp)(hr:bI k X.A)(ha:PA X (e::es) t)(hg:Gl X x:=by rfl)(hdb:(x==("__debug__":Str))=false:=by decide)(he:starEach (e::es) X.env=(false,eval e X.env)::starEach es X.env:=by rfl)(hpl:(backTo pos (starEach es X.env)).any (·.1)=false:=by rfl):PE X (.Call (.Name x p) (e::es) [] pos) (rK sp [] E0 t):=by
 obtain⟨f,fd,h1,h2,h3,h4⟩:=c.ex
 exact vg h1 hr hg h4 h3 h2 .nil J3 ha hdb he hpl
theorem FJ(c:fK X.prog X.w X.K X.mg X.base k C m ps sp)(hr:bI k X.A)(he:PE X o ta)(ha:PA X (e::es) t)(hst:starEach (e::es) X.env=(false,eval e X.env)::starEach es X.env:=by rfl)(hpl:(backTo pos (starEach es X.env)).any (·.1)=false:=by rfl)(ht:eval (.Call (.Attribute o m apos) (e::es) [] pos) X.env=(do
   let ov <-eval o X.env
   standAt apos.atName
   let(f,first) <-holding [ov] (getMethod ov m pl)
   callWith pos f first (backTo pos (starEach (e::es) X.env)) (backToKw pos (keywordEach [] X.env))):=by rfl):PE X (.Call (.Attribute o m apos) (e::es) [] pos) (JN C m sp [] E0 ta t):=by
 obtain⟨f,fd,h1,h2,h3⟩:=c.ex
 exact vh he c.cl h3 h1 hr h2 .nil J3 ha hst hpl ht
theorem Xl(c:fK X.prog X.w X.K X.mg X.base k C m ps sp)(hr:bI k X.A)(he:PE X o ta)(ht:eval (.Call (.Attribute o m apos) [] [] pos) X.env=(do
   let ov <-eval o X.env
   standAt apos.atName
   let(f,first) <-holding [ov] (getMethod ov m pl)
   callWith pos f first (backTo pos (starEach [] X.env)) (backToKw pos (keywordEach [] X.env))):=by rfl):PE X (.Call (.Attribute o m apos) [] [] pos) (JN C m sp [] E0 ta bD):=by
 obtain⟨f,fd,h1,h2,h3⟩:=c.ex
 exact zQl he c.cl h3 h1 hr h2 .nil J3 ht
end
section
variable{P:Program}{w:World}{K:PySem.W.Frag}{mg:Str->Option Value}{base:Heap}
theorem yQ{A β:Type}[Rp K β]{as:A->SL K}{fM:A->Option β}(F:bR K x qual st f fd)(S:ao N ps (zI st))(hf:∀a,(as a).all isF=true)(hl:∀a,(as a).length=ps.length)(hb:∀(cdv:Value) (A:Around) (outer:List Env) (s:Shared) (H:Hp) (E:XK),bI k (A.deeper (PyProof.Rows.envOfC qual (zI st) s.heap.objs.size f cdv)) ->
   ∃t,mY (lY bH P w K mg base N qual (zI st) f cdv A outer s H E).BK (wE st) t/\∀Fa a,SB ⟨Fa,H⟩ (as a++replicate (N.length-ps.length) .un) t al (fM a)) :
  aB P w K mg base bH (k+1) f fd ps (cu K al as fM) :=
 F.ok S (λvs H Q E h=>Xa hl h) λcdv A outer s H vs Q E hr h=>by
  obtain⟨t,p,q⟩:=hb cdv A outer s H E hr
  exact⟨t,p,zP5 hf hl q h⟩
end
def W{α:Type}(m:Option α)(P:α->Prop):Prop:=∃a,m=some a/\P a
section
variable{α β S:Type}
theorem aj:W (some a) P↔P a:=⟨λ⟨_,e,h⟩=>by cases e;exact h,λh=>⟨a,rfl,h⟩⟩
theorem uc:W (none:Option α) P↔False:=⟨λ⟨_,e,_⟩=>(by cases e),False.elim⟩
theorem zB{m:Option α}:W (m.bind f) Q↔W m λa=>W (f a) Q:=by
 cases m with
 |none=>exact⟨λ⟨_,e,_⟩=>(by cases e),λ⟨_,e,_⟩=>(by cases e)⟩
 |some a=>exact⟨λh=>⟨a,rfl,h⟩,λ⟨_,e,h⟩=>by cases e;exact h⟩
theorem Cy:W ((Out.nx s:Out S β).els f) Q↔W (f s) Q:=Iff.rfl
theorem KC{S':Type}{f:S->Option (Out S' β)}{Q:Out S' β->Prop}:W ((Out.nx s:Out S β).aO f) Q↔W (f s) Q:=Iff.rfl
theorem W.imp{Q:α->Prop}(h:W m P)(f:∀a,P a->Q a):W m Q:=let⟨a,e,p⟩:=h;⟨a,e,f a p⟩
theorem wZ:W (aQ a b) Q↔0<b/\Q (a%b):=by
 unfold aQ
 split
 ·rename_i h;rw[aj];exact⟨λq=>⟨h,q⟩,λq=>q.2⟩
 ·rename_i h;rw[uc];exact⟨False.elim,λq=>h q.1⟩
theorem uW:W (bF a b) Q↔(0<b/\b<1073741824)/\Q (a/b):=by
 unfold bF
 split
 ·rename_i h;rw[aj];exact⟨λq=>⟨h,q⟩,λq=>q.2⟩
 ·rename_i h;rw[uc];exact⟨False.elim,λq=>h q.1⟩
theorem Cz:W (mulM a b) Q↔((-(2^64)<a/\a<2^64)\/(-(2^64)<b/\b<2^64))/\Q (a*b):=by
 unfold mulM
 split
 ·rename_i h;rw[aj];exact⟨λq=>⟨h,q⟩,λq=>q.2⟩
 ·rename_i h;rw[uc];exact⟨False.elim,λq=>h q.1⟩
theorem KD:W (qb a b) Q↔(0<=b/\b<=1000000/\a.natAbs<2^64)/\Q (a^b.toNat):=by
 unfold qb
 split
 ·rename_i h;rw[aj];exact⟨λq=>⟨h,q⟩,λq=>q.2⟩
 ·rename_i h;rw[uc];exact⟨False.elim,λq=>h q.1⟩
theorem ud:W (push xs a) Q↔xs.length<cap/\Q (xs++[a]):=by
 unfold push
 split
 ·rename_i h;rw[aj];exact⟨λq=>⟨h,q⟩,λq=>q.2⟩
 ·rename_i h;rw[uc];exact⟨False.elim,λq=>h q.1⟩
def rng(n:Int):LI:=(List.range n.toNat).map Int.ofNat
theorem vI:W (wF n) Q↔(-(2^62)<=n/\n<2^62)/\Q (rng n):=by
 unfold wF rng
 split
 ·rename_i h;rw[aj];exact⟨λq=>⟨h,q⟩,λq=>q.2⟩
 ·rename_i h;rw[uc];exact⟨False.elim,λq=>h q.1⟩
theorem yu{n:Int}{i:Nat}{x:Int}(h:(rng n)[i]?=some x):x=i/\(i:Int)<n:=by
 obtain⟨a,b⟩:=Ru h
 exact⟨b,by omega⟩
theorem cX:x∈rng n↔0<=x/\x<n:=by
 unfold rng
 rw[mem_map]
 constructor
 ·rintro⟨a,h,rfl⟩
  rw[mem_range] at h
  exact⟨Int.natCast_nonneg _,by show(a:Int)<n;omega⟩
 ·intro⟨h1,h2⟩
  exact⟨x.toNat,mem_range.mpr (by omega),by show((x.toNat:Nat):Int)=x;omega⟩
theorem wJ(h:0<=i):L2.aV xs i=xs[i.toNat]?:=by
 unfold L2.aV rO
 rw[if_pos h]
 by_cases q:i<xs.length
 ·rw[if_pos q];rfl
 ·rw[if_neg q,List.getElem?_eq_none (by omega)];rfl
theorem FN(h0:0<=i):W (L2.aV xs i) Q↔∃a,xs[i.toNat]?=some a/\Q a:=by
 rw[wJ h0]
 exact Iff.rfl
theorem uQ{step:S->α->Option S}{Q:S->Prop}(I:Nat->S->Prop)(h0:I 0 s)(hs:∀i x s,xs[i]?=some x->I i s->W (step s x) (I (i+1)))(hd:∀s,I xs.length s->Q s):W (xR step xs s) Q:=by
 have key:∀(ys:List α)(i:Nat)(s:S),(∀j x,ys[j]?=some x->xs[i+j]?=some x)->i+ys.length=xs.length->I i s->W (xR step ys s) Q:=by
  intro ys
  induction ys with
  |nil=>intro i s _ hl h;exact⟨s,rfl,hd s ((show i=xs.length from hl)▸h)⟩
  |cons y ys ih =>
   intro i s hy hl h
   show W ((step s y).bind λs'=>xR step ys s') Q
   rw[zB]
   refine(hs i y s (hy 0 y rfl) h).imp λs' h'=>ih (i+1) s' (λj x hx=>?_) (by rw[length_cons] at hl;omega) h'
   have:=hy (j+1) x (by simpa using hx)
   rw[show i+1+j=i+(j+1) by omega]
   exact this
 exact key xs 0 s (λj x h=>by rw[Nat.zero_add];exact h) (Nat.zero_add _) h0
theorem Xm{step:S->α->Option (Out S β)}:uB step (x::xs) s=(step s x).bind λo=>o.aO λs'=>uB step xs s':=by
 rw[uB]
 congr 1
theorem Xn{step:S->α->Option (Out S β)}{Q:Out S β->Prop}(I:Nat->S->Prop)(h0:I 0 s)(hs:∀i x s,xs[i]?=some x->I i s->W (step s x) λo=>∃s',o=.nx s'/\I (i+1) s')(hd:∀s,I xs.length s->Q (.nx s)):W (uB step xs s) Q:=by
 have key:∀(ys:List α)(i:Nat)(s:S),(∀j x,ys[j]?=some x->xs[i+j]?=some x)->i+ys.length=xs.length->I i s->W (uB step ys s) Q:=by
  intro ys
  induction ys with
  |nil=>intro i s _ hl h;exact⟨.nx s,rfl,hd s ((show i=xs.length from hl)▸h)⟩
  |cons y ys ih =>
   intro i s hy hl h
   rw[Xm,zB]
   refine(hs i y s (hy 0 y rfl) h).imp ?_
   rintro o ⟨s',rfl,h'⟩
   refine ih (i+1) s' (λj x hx=>?_) (by rw[length_cons] at hl;omega) h'
   have:=hy (j+1) x (by simpa using hx)
   rw[show i+1+j=i+(j+1) by omega]
   exact this
 exact key xs 0 s (λj x h=>by rw[Nat.zero_add];exact h) (Nat.zero_add _) h0
theorem yw{c:S->Option Bool}{body:S->Option S}(I:S->Prop)(μ:S->Nat)(h0:I s)(hk:μ s<k)(hs:∀s,I s->W (c s) λb=>if b=true then W (body s) λs'=>I s'/\μ s'<μ s else Q s):W (Ck c body k s) Q:=by
 induction k generalizing s with
 |zero=>omega
 |succ k ih =>
  show W ((c s).bind λb=>if b=true then(body s).bind λs'=>Ck c body k s' else some s) Q
  rw[zB]
  refine(hs s h0).imp λb h=>?_
  cases b with
  |true =>
   have h:W (body s) λs'=>I s'/\μ s'<μ s:=by simpa using h
   simp only[if_true]
   rw[zB]
   exact h.imp λs' ⟨h1,h2⟩=>ih h1 (by omega)
  |false=>simpa[aj] using h
theorem Xo(c:α->Bool)(f:α->β):∀xs:List α,xL (λx=>some (c x)) (λx=>some (f x)) xs=some ((xs.filter c).map f)
 |[]=>rfl
 |x::xs=>by
  have ih:=Xo c f xs
  show(some (c x)).bind _=_
  cases h:c x with
  |true =>
   show((some (f x)).bind λy=>(xL _ _ xs).bind λys=>some (y::ys))=_
   rw[ih,filter_cons,if_pos h]
   rfl
  |false =>
   show xL _ _ xs=_
   rw[ih,filter_cons,if_neg (by rw[h];decide)]
theorem RV(c:α->Bool)(f:α->β):W (xG (λx=>some (c x)) (λx=>some (f x)) xs) Q↔xs.length<cap/\Q ((xs.filter c).map f):=by
 unfold xG
 split
 ·rename_i h;rw[Xo,aj];exact⟨λq=>⟨h,q⟩,λq=>q.2⟩
 ·rename_i h;rw[uc];exact⟨False.elim,λq=>h q.1⟩
theorem zOs(xs:List α):xs.filter (λ_=>true)=xs:=List.filter_eq_self.mpr λ_ _=>rfl
theorem FQ(f:α->β):W (xG (λ_=>some true) (λx=>some (f x)) xs) Q↔xs.length<cap/\Q (xs.map f):=by
 rw[RV (λ_=>true) f,zOs]
theorem oM[Decidable c]:W (if c then a else b) Q↔(c->W a Q)/\(¬c->W b Q):=by
 by_cases h:c
 ·rw[if_pos h];exact⟨λq=>⟨λ_=>q,λn=>absurd h n⟩,λq=>q.1 h⟩
 ·rw[if_neg h];exact⟨λq=>⟨λn=>absurd n h,λ_=>q⟩,λq=>q.2 h⟩
theorem yR(h:n<=1000):n<cap:=Nat.lt_of_le_of_lt h (by decide)
def iJ(n:Int)(xs:LI):Prop:=xs.Pairwise (· < ·)/\∀x∈xs,0<=x/\x<n
theorem iJ.nodup(h:iJ n xs):xs.Nodup:=h.1.imp λq=>Int.ne_of_lt q
theorem zM2(h:iJ k xs)(h0:0<=k)(hk:k<n):iJ n (xs++[k]):=by
 refine⟨List.pairwise_append.mpr ⟨h.1,by simp,λx hx y hy=>?_⟩,λx hx=>?_⟩
 ·rw[mem_singleton.mp hy];exact(h.2 x hx).2
 ·rcases mem_append.mp hx with q|q
  ·have:=h.2 x q;omega
  ·rw[mem_singleton.mp q];omega
theorem yx(h:iJ n xs)(l:n<=m):iJ m xs:=⟨h.1,λx hx=>by have:=h.2 x hx;omega⟩
theorem FT:∀{n:Nat}{xs:LI},xs.Nodup->(∀x∈xs,0<=x/\x<(n:Int))->xs.length<=n
 |0,xs,_,h=>by
  cases xs with
  |nil=>exact Nat.le_refl _
  |cons x xs=>have:=h x mem_cons_self;omega
 |n+1,xs,nd,h=>by
  by_cases q:(n:Int)∈xs
  ·have l:=List.length_erase_of_mem q
   have ih:=FT (n:=n) (xs:=xs.erase (n:Int)) (nd.erase _) λx hx=>by
    have h1:=h x (List.mem_of_mem_erase hx)
    have h2:x≠(n:Int):=λe=>by rw[e] at hx;exact(List.Nodup.not_mem_erase nd) hx
    omega
   omega
  ·have ih:=FT (n:=n) nd λx hx=>by
    have h1:=h x hx
    have h2:x≠(n:Int):=λe=>q (e▸hx)
    omega
   omega
end
end Ts
namespace L2
open PySem PySem.Spec PyProof.Rows
theorem Oz:∀{ns:LI}{its:List Value},Vals (ns.map V.int) its->IntsAre its ns
 |[],[],_=>.nil
 |n::ns,_::its,h=>by
  cases h with
  |cons r t =>
   obtain⟨k,rfl⟩:=r
   exact .cons n k (Oz t)
theorem uO:∀{ns:LI}{its:List Value},IntsAre its ns->Vals (ns.map V.int) its
 |_,_,.nil=>.nil
 |_,_,.cons n t h=>.cons ⟨t,rfl⟩ (uO h)
section
variable{X:Cx}
def CG(K:PySem.W.Frag)(R:Int->Int->Prop):List V->Hp->VK->Prop:=λxs H Q=>∃(p:Addr)(ns:LI),xs=[.ref p]/\aZ K H p (ns.map V.int)/\ns≠[]/\∀M,M∈ns->(∀a∈ns,R M a)->Q (.int M) H
theorem zRn{arr:Array (Int×Tok)}(hns:ns=arr.toList.map (·.1))(j:Nat)(hj:j<arr.size):numAt arr j∈ns:=by
 have e:=numAt_eq arr j
 rw[e,hns]
 refine PySem.getD_mem ?_
 rw[length_map,length_toList]
 exact hj
theorem zPj(K:PySem.W.Frag)(hc:X.calm=true)(hK:X.K=K:=by rfl):lX X (.builtin "max") (CG K (λM a=>a<=M)):=by
 subst hK
 intro pins s σ H xs us Q I r h
 obtain⟨p,ns,rfl,hq,hne,q⟩:=h
 obtain⟨u,rfl,rx⟩:=tZ r
 cases rx
 obtain⟨its,r',pl,hz⟩:=I.list hq
 have hi:=Oz r'
 obtain⟨arr,e⟩:=hi.allInts.items
 have hns:ns=arr.toList.map (·.1):=(hi.numsOf.symm.trans (congrArg numsOf (show its=(intItems arr).toList by rw[<-e]))).trans (nums_intItems arr)
 have hsz:0<arr.size:=by
  cases z:arr.size with
  |zero =>
   exfalso
   apply hne
   rw[hns,Array.eq_empty_of_size_eq_zero z]
   rfl
  |succ k=>omega
 have hl:=pl.isList
 rw[e] at hl
 refine max_intList (I.ok.hd hc) hl hsz λv h' tk hv hk=>?_
 obtain⟨t,rfl⟩:=intItems_at hv
 obtain⟨b1,b2⟩:=argBest_gt (numAt arr) (arr.size-1)
 refine⟨.int (numAt arr (argBest (λi j=>decide (numAt arr i > numAt arr j)) (arr.size-1))),H,I.kept hk,⟨t,rfl⟩,q _ (zRn hns _ (by omega)) λa ha=>?_⟩
 rw[hns] at ha
 obtain⟨j,hj,rfl⟩:=PySem.mem_getD ha
 rw[length_map,length_toList] at hj
 have z:=b2 j (by omega)
 rw[numAt_eq arr j] at z
 exact z
def CJ(K:PySem.W.Frag):List V->Hp->VK->Prop:=λxs H Q=>∃(p:Addr)(ns:LI),xs=[.ref p]/\aZ K H p (ns.map V.int)/\ns.length<64/\∀(l:Addr)(ns':LI),H l=none->ns'.Perm ns->ns'.Pairwise (· <= ·)->Q (.ref l) (upd H l (.lst (ns'.map V.int)))
theorem zLy(K:PySem.W.Frag)(hK:X.K=K:=by rfl):lX X (.builtin "sorted") (CJ K):=by
 subst hK
 intro pins s σ H xs us Q I r h
 obtain⟨p,ns,rfl,hq,h64,q⟩:=h
 obtain⟨u,rfl,rx⟩:=tZ r
 cases rx
 obtain⟨its,r',pl,hz⟩:=I.list hq
 have hl:=r'.length
 rw[length_map] at hl
 refine sorted_ints pl.isList (Oz r') (by omega) λout ns' a1 a2 a3=>?_
 obtain⟨e,he⟩:=sortedAll_at s.heap its out
 have fr:H (s.heap.objs.size+1)=none:=I.hok.fresh (Nat.le_succ _)
 refine⟨.ref (s.heap.objs.size+1),_,I.laid (t':=s.toks) (o:=.lst (ns'.map V.int)) (λb ob w=>sortedAll_old w) (Nat.le_succ _) ?_,rfl,q _ ns' fr a2 a3⟩
 refine⟨?_,out.toList,e,uO a1,?_⟩
 ·rw[length_map,a2.length_eq]
  exact Nat.le_of_lt (Nat.lt_trans h64 (by decide))
 ·rw[toArray_toList]
  exact he
theorem zH9{bs:List Bool}(r:Vals (bs.map V.bl) its):TruthOf prog w A (λi v=>its.toArray[i]?=some v) (λi=>bs.getD i false):=by
 intro i v s Q E hv hq
 have hv:its[i]?=some v:=by simpa using hv
 have hi:i<bs.length:=by
  have:=(List.getElem?_eq_some_iff.mp hv).1
  rw[<-r.length,length_map] at this
  exact this
 obtain⟨u,h1,h2⟩:=r.get (i:=i) (x:=.bl bs[i]) (by rw[getElem?_map,List.getElem?_eq_getElem hi]<;>rfl)
 rw[hv] at h1
 cases h1
 cases h2
 have hq:Q (bs.getD i false) s:=hq
 rw[getD_eq_getElem?_getD,List.getElem?_eq_getElem hi] at hq
 exact wpAny_truthy_bool hq
theorem zM8{bs:List Bool}:((List.range bs.length).all λi=>bs.getD i false)=bs.all id:=by
 rw[Bool.eq_iff_iff,all_eq_true,all_eq_true]
 constructor
 ·intro h x hx
  obtain⟨i,hi,e⟩:=getElem_of_mem hx
  have z:=h i (mem_range.mpr hi)
  rw[getD_eq_getElem?_getD,List.getElem?_eq_getElem hi,e] at z
  exact z
 ·intro h i hi
  have hi:=mem_range.mp hi
  rw[getD_eq_getElem?_getD,List.getElem?_eq_getElem hi]
  exact h _ (getElem_mem hi)
def Xp(K:PySem.W.Frag)(f:List Bool->Bool):List V->Hp->VK->Prop:=λxs H Q=>∃(p:Addr)(bs:List Bool),xs=[.ref p]/\aZ K H p (bs.map V.bl)/\Q (.bl (f bs)) H
theorem n8{s:Shared}{h':Heap}(hk:∀b o,b∉[s.heap.objs.size]->(s.heap.push { cls:=.type "list_iterator",data:=.fields #[.ref l,.int 0 0] }).get? b=some o->h'.get? b=some o) :
  ∀b o,s.heap.get? b=some o->h'.get? b=some o:=λb o e=>hk b o (λm=>Nat.lt_irrefl _ (mem_singleton.mp m▸lt_size e)) (get?_push_of_some _ e)
theorem zPn(K:PySem.W.Frag)(hc:X.calm=true)(hK:X.K=K:=by rfl):lX X (.builtin "all") (Xp K λbs=>bs.all id):=by
 subst hK
 intro pins s σ H xs us Q I r h
 obtain⟨p,bs,rfl,hq,q⟩:=h
 obtain⟨u,rfl,rx⟩:=tZ r
 cases rx
 obtain⟨its,r',pl,hz⟩:=I.list hq
 have hl:=pl.isList
 have hlt:p<s.heap.objs.size:=by obtain⟨_,e,_⟩:=hl;exact lt_size e
 refine call_all_walk (wpAny_pyIter_list hl ?_)
 refine⟨_,_,_,_,_,_,_,rfl,Walks.list (A:=X.A.in1) (I.ok.hd hc) s.heap.objs.size p (Nat.ne_of_lt hlt) its.toArray,⟨⟨_,get?_push_size _ rfl,rfl,rfl⟩,hl.push _⟩,zH9 r',λh' tk hk=>?_⟩
 have hn:its.toArray.size=bs.length:=by
  rw[size_toArray,<-r'.length,length_map]
 rw[hn,zM8]
 exact⟨.bl (bs.all id),H,I.kept (n8 hk),rfl,q⟩
end
section
variable{prog:Program}{w:World}{A:Around}{R:Result->Shared->Prop}{It:Addr}{fp wr:List Addr}{n:Nat}{P:Nat->Value->Prop}{St:Nat->Heap->Prop}{kw:List (Str×Value)}
end
section
variable{X:Cx}{e e2:Expr}{te td:TE}{p pos kpos:Pos}
end
end L2
namespace Ts
open PySem L2
def fB:LI->Int
 |[]=>0
 |[x]=>x
 |x::xs=>max x (fB xs)
theorem RW:∀{ns:LI}{a:Int},a∈ns->a<=fB ns
 |[x],a,h=>by rw[mem_singleton.mp h];exact Int.le_refl _
 |x::y::ns,a,h=>by
  show a<=max x (fB (y::ns))
  rcases mem_cons.mp h with rfl|h
  ·omega
  ·have:=RW h;omega
theorem RX:∀{ns:LI},ns≠[]->fB ns∈ns
 |[x],_=>by simp[fB]
 |x::y::ns,_=>by
  show max x (fB (y::ns))∈_
  have:=RX (ns:=y::ns) (by simp)
  by_cases q:fB (y::ns)<=x
  ·rw[show max x (fB (y::ns))=x by omega];exact mem_cons_self
  ·rw[show max x (fB (y::ns))=fB (y::ns) by omega];exact mem_cons_of_mem _ this
def qe(ns:LI):Option Int:=if ns=[] then none else some (fB ns)
def n_(ns:LI):LI:=ns.mergeSort (λa b=>decide (a<=b))
def Iz(ns:LI):Option LI:=if ns.length<64 then some (n_ ns) else none
theorem xA(ns:LI):(n_ ns).Perm ns:=List.mergeSort_perm _ _
theorem zHf(ns:LI):(n_ ns).Pairwise (· <= ·):=by
 have:=List.pairwise_mergeSort (le:=λa b:Int=>decide (a<=b)) (λa b c h1 h2=>by simp at *;omega) (λa b=>by simp;omega) ns
 exact this.imp λh=>by simpa using h
theorem Xq:∀{xs ys:LI},xs.Perm ys->xs.Pairwise (· <= ·)->ys.Pairwise (· <= ·)->xs=ys
 |[],ys,p,_,_=>(Perm.nil_eq p)
 |x::xs,[],p,_,_=>by have:=p.length_eq;simp at this
 |x::xs,y::ys,p,h1,h2=>by
  have a1:=pairwise_cons.mp h1
  have a2:=pairwise_cons.mp h2
  have e:x=y:=by
   have q1:x∈y::ys:=p.subset mem_cons_self
   have q2:y∈x::xs:=p.symm.subset mem_cons_self
   rcases mem_cons.mp q1 with q1|q1
   ·exact q1
   ·rcases mem_cons.mp q2 with q2|q2
    ·exact q2.symm
    ·have:=a1.1 y q2;have:=a2.1 x q1;omega
  subst e
  rw[Xq (Perm.cons_inv p) a1.2 a2.2]
section
variable{K:PySem.W.Frag}{B:Bs}{sl:SL K}{md:Md}{t t1 t2:TE}{n:Bool}
theorem zc(h:Ex B sl .hp t m):Ex B sl md (pN (CG K (λM a=>a<=M)) (xQ t bD)) (m.bind qe):=λc hc F O H σ Q s k=>by
 cases m with
 |none=>cases hc
 |some ns =>
  have hc:qe ns=some c:=hc
  unfold qe at hc
  split at hc
  ·cases hc
  rename_i hne
  cases hc
  refine h ns rfl F O H σ _ s λv F' H' g r1=>?_
  obtain⟨p,vs,rfl,z1,z2⟩:=r1
  have z3:vs=ns.map V.int:=z2.vals
  subst z3
  refine⟨p,ns,rfl,aZ.of z1,hne,λM m1 m2=>?_⟩
  have e:M=fB ns:=by have:=RW m1;have:=m2 _ (RX hne);omega
  rw[e]
  exact k _ F' H' g rfl
theorem zf(h:Ex B sl .hp t m):Eo B sl md (pN (CJ K) (xQ t bD)) (m.bind Iz):=λc hc F O H σ Q s k=>by
 cases m with
 |none=>cases hc
 |some ns =>
  have hc:Iz ns=some c:=hc
  unfold Iz at hc
  split at hc
  case isFalse=>cases hc
  rename_i hl
  cases hc
  refine h ns rfl F O H σ _ s λv F' H' g r1=>?_
  obtain⟨p,vs,rfl,z1,z2⟩:=r1
  have z3:vs=ns.map V.int:=z2.vals
  subst z3
  refine⟨p,ns,rfl,aZ.of z1,hl,λl ns' hn p1 p2=>?_⟩
  rw[Xq (p1.trans (xA ns).symm) p2 (zHf ns)]
  exact k l _ F' H' g hn (Fv _)
theorem zRe(h:Ex B sl .hp t m):Ex B sl md (pN (Xp K f) (xQ t bD)) (m.bind λbs=>some (f bs)):=λc hc F O H σ Q s k=>by
 cases m with
 |none=>cases hc
 |some bs =>
  cases(show some (f bs)=some c from hc)
  refine h bs rfl F O H σ _ s λv F' H' g r1=>?_
  obtain⟨p,vs,rfl,z1,z2⟩:=r1
  have z3:vs=bs.map V.bl:=z2.vals
  subst z3
  exact⟨p,bs,rfl,aZ.of z1,k _ F' H' g rfl⟩
theorem RZ(h:Ex B sl .hp t m):Ex B sl md (Vz (rU λi=>.int (-i)) t) (m.bind λa=>some (-a)):=λc hc F O H σ Q s k=>by
 cases m with
 |none=>cases hc
 |some a =>
  cases(show some (-a)=some c from hc)
  refine h a rfl F O H σ _ s λv F' H' g r1=>?_
  cases r1
  exact⟨a,rfl,k _ F' H' g rfl⟩
end
section
variable{β:Type}
def gK(kvs:List (Key×β))(k:Key):Option β:=(kvs.find? λkv=>decide (kv.1=k)).map (·.2)
def pK(kvs:List (Key×β))(k:Key)(v:β):List (Key×β):=if(kvs.any λkv=>decide (kv.1=k))=true then kvs.map (λkv=>if kv.1=k then(kv.1,v) else kv) else kvs++[(k,v)]
abbrev mz(kvs:List (Key×β))(k:Int):Option β:=gK kvs (Sum.inl k)
def dput(kvs:List (Key×β))(k:Int)(v:β):Option (List (Key×β)):=if kvs.length<cap then some (pK kvs (Sum.inl k) v) else none
theorem Xr:∀(kvs:List (Key×β))(k j:Key)(v:β),gK (pK kvs k v) j=if j=k then some v else gK kvs j:=λkvs k j v=>by
 unfold pK
 cases a:(kvs.any λkv=>decide (kv.1=k)) with
 |true =>
  rw[if_pos rfl]
  induction kvs with
  |nil=>cases a
  |cons x kvs ih =>
   unfold gK at ih ⊢
   rw[map_cons,find?_cons,find?_cons]
   by_cases e:x.1=k
   ·rw[if_pos e]
    by_cases f:j=k
    ·subst f
     rw[decide_eq_true (show(x.1,v).1=j from e),if_pos rfl];rfl
    ·rw[decide_eq_false (show¬(x.1,v).1=j fromλz=>f (z.symm.trans e)),if_neg f]
     show Option.map (λx=>x.2) (List.find? (λkv=>decide (kv.1=j)) (List.map (λkv=>if kv.1=k then(kv.1,v) else kv) kvs))=Option.map (λx=>x.2) (List.find? (λkv=>decide (kv.1=j)) kvs)
     clear ih a
     induction kvs with
     |nil=>rfl
     |cons y kvs ih =>
      rw[map_cons,find?_cons,find?_cons]
      by_cases g:y.1=k
      ·rw[if_pos g,decide_eq_false (show¬(y.1,v).1=j fromλz=>f (z.symm.trans g))];exact ih
      ·rw[if_neg g]
       by_cases h:y.1=j
       ·rw[decide_eq_true h]
       ·rw[decide_eq_false h];exact ih
   ·rw[if_neg e]
    have a':(kvs.any λkv=>decide (kv.1=k))=true:=by rw[any_cons,decide_eq_false e,Bool.false_or] at a;exact a
    by_cases f:x.1=j
    ·rw[decide_eq_true f,if_neg λz=>e (f.trans z)]
    ·rw[decide_eq_false f];exact ih a'
 |false =>
  rw[if_neg (by decide)]
  unfold gK
  rw[List.find?_append]
  have hn:kvs.find? (λkv=>decide (kv.1=k))=none:=by
   rw[find?_eq_none]
   intro x hx
   have:=List.any_eq_false.mp a x hx
   exact this
  by_cases f:j=k
  ·subst f;rw[hn,if_pos rfl];simp
  ·rw[if_neg f]
   cases kvs.find? (λkv=>decide (kv.1=j)) with
   |none=>simp[Ne.symm f]
   |some y=>rfl
theorem Xu(kvs:List (Key×β))(k:Key)(v:β):(pK kvs k v).length<=kvs.length+1:=by
 unfold pK
 split
 ·rw[length_map];omega
 ·rw[length_append];exact Nat.le_refl _
end
section
variable{K:PySem.W.Frag}{α:Type}[Rp K α]
abbrev DR(K:PySem.W.Frag){α:Type}[Rp K α](F:Hp):Key×V->Key×α->Prop:=λx y=>x.1=y.1/\rp K F x.2 y.2
theorem A2.any:∀{ks:List (Key×V)}{kvs:List (Key×α)},A2 (DR K F) ks kvs->(ks.any λkv=>decide (kv.1=k))=(kvs.any λkv=>decide (kv.1=k))
 |[],[],_=>rfl
 |_::_,_::_,h=>by rw[any_cons,any_cons,h.1.1,A2.any h.2]
 |[],_::_,h=>h.elim
 |_::_,[],h=>h.elim
theorem A2.val:∀{ks:List (Key×V)}{kvs:List (Key×α)},A2 (DR K F) ks kvs->(gK kvs k=none/\gR ks k=none)\/∃a v,gK kvs k=some a/\gR ks k=some v/\rp K F v a
 |[],[],_=>.inl ⟨rfl,rfl⟩
 |x::ks,y::kvs,h=>by
  unfold gK gR
  rw[find?_cons,find?_cons,h.1.1]
  by_cases e:y.1=k
  ·rw[decide_eq_true e];exact .inr ⟨y.2,x.2,rfl,rfl,h.1.2⟩
  ·rw[decide_eq_false e];exact A2.val h.2
 |[],_::_,h=>h.elim
 |_::_,[],h=>h.elim
theorem A2.KH(r:rp K F v a):∀{ks:List (Key×V)}{kvs:List (Key×α)},A2 (DR K F) ks kvs->A2 (DR K F) (ks.map λkv=>if kv.1=k then(kv.1,v) else kv) (kvs.map λkv=>if kv.1=k then(kv.1,a) else kv)
 |[],[],_=>trivial
 |x::ks,y::kvs,h=>by
  rw[map_cons,map_cons]
  refine⟨?_,A2.KH r h.2⟩
  by_cases e:x.1=k
  ·rw[if_pos e,if_pos (h.1.1▸e)];exact⟨h.1.1,r⟩
  ·rw[if_neg e,if_neg (h.1.1▸e)];exact h.1
 |[],_::_,h=>h.elim
 |_::_,[],h=>h.elim
theorem A2.put{F:Hp}{k:Key}{v:V}{a:α}(r:rp K F v a){ks:List (Key×V)}{kvs:List (Key×α)}(h:A2 (DR K F) ks kvs):A2 (DR K F) (putK ks k v) (pK kvs k a):=by
 unfold putK pK
 rw[h.any]
 split
 ·exact h.KH r
 ·exact h.snoc ⟨rfl,r⟩
structure Dc(α:Type) where
 kv:List (Key×α)
instance:Rp K (Dc α):=⟨λF v d=>∃p ks,v=.ref p/\F p=some (.dK ks)/\A2 (DR K F) ks d.kv,λs ⟨p,ks,h1,h2,h3⟩=>⟨p,ks,h1,s _ _ h2,h3.imp λ_ _ z=>⟨z.1,Rp.mono s z.2⟩⟩⟩
instance:Nn K (Dc α):=⟨λ⟨_,_,h,_⟩=>by rw[h];intro e;cases e⟩
variable{B:Bs}{sl:SL K}{md:Md}{t t2:TE}{F H G:Hp}{O:Own}{σ:St}{u:TS}{al:Bool}
theorem Xv{kvs:List (Key×α)}(i:Nat)(hs:sl[i]?=some (.od kvs)):Ex B sl .hp (dU i) (some (Dc.mk kvs)):=λa' ha F O H σ Q s k=>by
 cases ha
 obtain⟨k0,z0⟩:=s
 obtain⟨O1,O2,p,ks,rfl,h1,h2,_⟩:=z0.Cg hs
 exact⟨_,h1,k _ F H (.refl k0) ⟨p,ks,rfl,k0.one.2.2,h2.imp λ_ _ z=>⟨z.1,Rp.mono k0.fh z.2⟩⟩⟩
theorem FW{m:Option Int}{m2:Option (Dc α)}(h:Ex B sl .hp t m)(h2:Ex B sl .hp t2 m2):Ex B sl md (Ep t t2) (m.bind λk=>m2.bind λd=>some (mz d.kv k).isSome):=λc hc F O H σ Q s kk=>by
 obtain⟨k,d,e1,e2,e3⟩:=qO hc
 cases e3
 refine h k e1 F O H σ _ s λv F' H' g r1=>?_
 refine h2 d e2 F' O H' σ _ (s.grow g) λw F2 H2 g2 r2=>?_
 cases r1
 obtain⟨p,ks,rfl,z1,z2⟩:=r2
 refine⟨p,_,rfl,pZ.k (k:=Sum.inl k) z1,?_⟩
 have e:(gR ks (Sum.inl k:Key)).isSome=(mz d.kv k).isSome:=by
  rcases z2.val (k:=Sum.inl k) with⟨q1,q2⟩|⟨a,v,q1,q2,_⟩
  ·show _=(gK d.kv (Sum.inl k)).isSome;rw[q1,q2];rfl
  ·show _=(gK d.kv (Sum.inl k)).isSome;rw[q1,q2];rfl
 rw[e]
 exact kk _ F2 H2 (g.trans g2) rfl
theorem zj{kvs:List (Key×α)}{m:Option α}{mi:Option Int}{te ti:TE}(i:Nat)(hs:sl[i]?=some (.od kvs))(hh:sl.all (λs=>!oG s)=true)(hv:Ex B sl .fz te m)(hi:Ex B sl .hp ti mi) :
  Sn B sl (rN (dU i) ti te) (λys=>sl.set i (.od ys)) (m.bind λa=>mi.bind λk=>dput kvs k a):=λys ha G D σ H s k=>by
 obtain⟨a,ix,e1,e2,e3⟩:=qO ha
 unfold dput at e3
 split at e3
 case isFalse=>cases e3
 rename_i hl
 cases e3
 obtain⟨F,O,g,z⟩:=s
 refine hv a e1 F O H σ _ z λv F' H' gr r=>?_
 obtain⟨p,ks,h1,h2,h3,_⟩:=(z.grow gr).wz hs hh
 refine⟨_,h1,?_⟩
 refine hi ix e2 F' O H' σ _ (z.grow gr) λw F2 H2 FZ rw=>?_
 cases rw
 obtain⟨p',ks',h1',h2',h3',h4'⟩:=((z.grow gr).grow FZ).wz hs hh
 have e:=h1.symm.trans h1'
 cases e
 obtain⟨O',z'⟩:=h4' (putK ks' (Sum.inl ix) v) (pK kvs (Sum.inl ix) a) (h3'.put (Rp.mono FZ.ff r))
 exact⟨p,_,rfl,p7.k (k:=Sum.inl ix) h2' (Fd (by rw[h3'.len];exact hl)),k _ _ ⟨F2,O',(g.trans gr.ff).trans FZ.ff,z'⟩⟩
end
end Ts
namespace L2
open PySem PySem.Spec PyProof.Rows
section
variable{X:Cx}{tg:Expr}
end
end L2
namespace Ts
open PySem L2
section
variable{K:PySem.W.Frag}{B:Bs}{sl:SL K}{t1 t2 t3:TE}{n:Bool}
end
section
variable{K:PySem.W.Frag}{B:Bs}{sl:SL K}{md:Md}{t:TE}{u:TS}{al:Bool}{α:Type}[Rp K α]
abbrev KJ:List V->Hp->VK->Prop:=λxs H Q=>(∃i,xs=[.int i]/\Q (.int i) H)\/∃k,xs=[.bl k]/\Q (.int (if k then 1 else 0)) H
theorem zm(h:Ex B sl .hp t m):Ex B sl md (pN KJ (xQ t bD)) (m.bind λb=>some (if b=true then(1:Int) else 0)):=λc hc F O H σ Q s k=>by
 cases m with
 |none=>cases hc
 |some b =>
  cases(show some (if b=true then(1:Int) else 0)=some c from hc)
  refine h b rfl F O H σ _ s λv F' H' g r1=>?_
  cases r1
  exact .inr ⟨b,rfl,k _ F' H' g rfl⟩
end
end Ts
namespace L2
open PySem PySem.Spec PyProof.Rows
section
variable{X:Cx}
theorem KV.dW{ks:List (Key×V)}{vs:List (Key×Value)}(r:KV ks vs):ks.map (·.1)=vs.map (·.1):=by
 unfold KV at r
 induction r with
 |nil=>rfl
 |cons h _ ih=>rw[map_cons,map_cons,h.1,ih]
end
end L2
namespace Ts
open PySem L2
section
variable{K:PySem.W.Frag}{B:Bs}{sl:SL K}{md:Md}{t:TE}{α:Type}[Rp K α]
variable{S:Type}{n:Bool}{tb:TS}
end
end Ts
namespace L2
open PySem
open PySem PySem.Spec PyProof.Rows
def Its(x:Str):It:=⟨λi _=>i<x.cps.size,λi H v H'=>H'=H/\∃c,x.cps[i]?=some c/\v=.str ⟨#[c]⟩,λi _=>x.cps.size<=i⟩
theorem zK1{P:Program}{w:World}{K:PySem.W.Frag}{tg:Expr}(it:Addr)(x:Str)(t:Tok):Turn P w K tg (Its x) [it] it (λi h=>h.IsStrIter it "str_ascii_iterator" x t i) where
 mem:=mem_singleton.mpr rfl
 obj:=λi h st b hb=>by
  have e:b=it:=mem_singleton.mp hb
  subst e
  obtain⟨o,ho,hc,hd⟩:=st
  refine⟨o,ho,λv z=>?_⟩
  rw[hd] at z
  cases z
 keep:=λi h h' st k=>by
  obtain⟨o,ho,r⟩:=st
  exact⟨o,k it (mem_singleton.mpr rfl) _ ho,r⟩
 item:=by
  intro X hP hw hK hc i pins s σ H E I hf st hg
  subst hP hw hK
  obtain⟨f0,f1,f2,f3,f4,f5⟩:=hf it (mem_singleton.mpr rfl)
  refine(Walks.strAscii (prog:=X.prog) (w:=X.w) (I.ok.hd hc) it x t).item i s _ _ hg st λv h' tk hv st' kk=>?_
  obtain⟨c,u,hx,rfl⟩:=hv
  have I1:Inv X pins σ H { s with heap:=h',toks:=tk }:=I.turned (λb o hb e=>kk b o (λz=>hb (mem_singleton.mp z)) e) f0 f1 f3 f4 f5
  obtain⟨o,ho,hc,hd⟩:=id st'
  exact⟨_,rfl,Nt (s:={ s with heap:=h',toks:=tk }) (n:="str_ascii_iterator") ho hc hd (by decide) ⟨.str ⟨#[c]⟩,H,I1,⟨u,rfl⟩,⟨rfl,c,hx,rfl⟩,st',λb hb=>(hf b hb).1⟩⟩
 done:=by
  intro X hP hw hK hc i pins s σ H E I hf st hg
  subst hP hw hK
  obtain⟨f0,f1,f2,f3,f4,f5⟩:=hf it (mem_singleton.mpr rfl)
  exact wpAny_pyNext_ascii_end (I.ok.hd hc) st (Array.getElem?_eq_none hg) λh' eb=>⟨rfl,I.turned (t':=s.toks) (λb o hb e=>eb b o hb e) f0 f1 f3 f4 f5⟩
 self:=λ_ _ _ _ _ st h=>wpAny_pyIter_striter_ascii st h
theorem zMe{P:Program}{w:World}{K:PySem.W.Frag}{tg:Expr}(it:Addr)(x:Str)(t:Tok):Turn P w K tg (Its x) [it] it (λi h=>h.IsStrIter it "str_iterator" x t i) where
 mem:=mem_singleton.mpr rfl
 obj:=λi h st b hb=>by
  have e:b=it:=mem_singleton.mp hb
  subst e
  obtain⟨o,ho,hc,hd⟩:=st
  refine⟨o,ho,λv z=>?_⟩
  rw[hd] at z
  cases z
 keep:=λi h h' st k=>by
  obtain⟨o,ho,r⟩:=st
  exact⟨o,k it (mem_singleton.mpr rfl) _ ho,r⟩
 item:=by
  intro X hP hw hK hc i pins s σ H E I hf st hg
  subst hP hw hK
  obtain⟨f0,f1,f2,f3,f4,f5⟩:=hf it (mem_singleton.mpr rfl)
  refine(Walks.strWide (prog:=X.prog) (w:=X.w) (I.ok.hd hc) it x t).item i s _ _ hg st λv h' tk hv st' kk=>?_
  obtain⟨c,u,hx,rfl⟩:=hv
  have I1:Inv X pins σ H { s with heap:=h',toks:=tk }:=I.turned (λb o hb e=>kk b o (λz=>hb (mem_singleton.mp z)) e) f0 f1 f3 f4 f5
  obtain⟨o,ho,hc,hd⟩:=id st'
  exact⟨_,rfl,Nt (s:={ s with heap:=h',toks:=tk }) (n:="str_iterator") ho hc hd (by decide) ⟨.str ⟨#[c]⟩,H,I1,⟨u,rfl⟩,⟨rfl,c,hx,rfl⟩,st',λb hb=>(hf b hb).1⟩⟩
 done:=by
  intro X hP hw hK hc i pins s σ H E I hf st hg
  subst hP hw hK
  obtain⟨f0,f1,f2,f3,f4,f5⟩:=hf it (mem_singleton.mpr rfl)
  exact wpAny_pyNext_wide_end (I.ok.hd hc) st (Array.getElem?_eq_none hg) λh' eb=>⟨rfl,I.turned (t':=s.toks) (λb o hb e=>eb b o hb e) f0 f1 f3 f4 f5⟩
 self:=λ_ _ _ _ _ st h=>wpAny_pyIter_striter_wide st h
section
variable{X:Cx}{tg:Expr}
def KN(tl:TE):TI:=λσ H R=>tl σ H λx H1=>∃y,x=.str y/\R (Its y) H1
theorem Ga(hl:PE X l tl):PI X tg l (KN tl):=by
 intro pins s σ H R I h
 refine aO (hl pins s σ H _ I h) λv s1 ⟨x,H1,I1,r1,q1⟩=>?_
 obtain⟨y,e,q⟩:=q1
 subst e
 obtain⟨t,rfl⟩:=r1
 have fp:∀b∈[s1.heap.objs.size],jj X pins H1 b:=λb hb=>by
  have e:b=s1.heap.objs.size:=mem_singleton.mp hb
  subst e
  exact I1.lq (Nat.le_refl _) (I1.hok.fresh (Nat.le_refl _))
 cases ha:y.cps.all (· < 128)
 ·exact wpAny_pyIter_wide ha ⟨s1.heap.objs.size,[s1.heap.objs.size],_,_,H1,rfl,I1.kept (t':=s1.toks) λb o e=>get?_push_of_some _ e,zMe _ y t,⟨_,get?_push_size _ rfl,rfl,rfl⟩,fp,q⟩
 ·exact wpAny_pyIter_ascii ha ⟨s1.heap.objs.size,[s1.heap.objs.size],_,_,H1,rfl,I1.kept (t':=s1.toks) λb o e=>get?_push_of_some _ e,zK1 _ y t,⟨_,get?_push_size _ rfl,rfl,rfl⟩,fp,q⟩
end
end L2
namespace Ts
open PySem L2
section
variable{K:PySem.W.Frag}{B:Bs}{sl:SL K}{md:Md}{t ta tb tc:TE}{n:Bool}
def zp(x:Str):List Str:=x.cps.toList.map λc=>(⟨#[c]⟩:Str)
theorem Gb(h:Ex B sl .hp t mi):Ei B sl n (KN t) (mi.bind λx=>some (zp x)):=λxs hx F O H σ R a k=>by
 cases mi with
 |none=>cases hx
 |some x =>
  cases(show some (zp x)=some xs from hx)
  refine h x rfl F O H σ _ a λv F' H' gr r=>?_
  cases r
  refine⟨x,rfl,k _ F' H' gr λi F2 O2 H2 sf k2=>⟨λhl=>?_,λy hy=>?_⟩⟩
  ·show x.cps.size<=i
   unfold zp at hl
   rw[length_map,length_toList] at hl
   exact hl
  ·unfold zp at hy
   rw[getElem?_map,getElem?_toList] at hy
   cases e:x.cps[i]? with
   |none=>rw[e] at hy;cases hy
   |some c =>
    rw[e] at hy
    cases hy
    have hi:i<x.cps.size:=(Array.getElem?_eq_some_iff.mp e).1
    refine⟨hi,λv H3 yd=>?_⟩
    obtain⟨rfl,c',e',rfl⟩:=yd
    rw[e] at e'
    cases e'
    exact⟨F2,.refl k2,rfl⟩
theorem Xw{f g:Int->Int->Bool}(h1:Ex B sl .hp ta m1)(h2:Ex B sl .hp tb m2)(h3:Ex B sl .hp tc m3) :
  Ex B sl md (VB (pL λi j=>.bl (f i j)) (pL λi j=>.bl (g i j)) ta tb tc) (m1.bind λa=>m2.bind λb=>if f a b=true then m3.bind λc=>some (g b c) else some false):=λd hd F O H σ Q s k=>by
 obtain⟨a,b,e1,e2,e3⟩:=qO hd
 refine h1 a e1 F O H σ _ s λv F' H' g1 r1=>?_
 refine h2 b e2 F' O H' σ _ (s.grow g1) λw F2 H2 g2 r2=>?_
 cases r1
 cases r2
 refine⟨a,b,rfl,rfl,_,rfl,?_⟩
 by_cases q:f a b=true
 ·rw[if_pos q] at e3 ⊢
  cases m3 with
  |none=>cases e3
  |some c =>
   cases(show some (g b c)=some d from e3)
   refine h3 c rfl F2 O H2 σ _ ((s.grow g1).grow g2) λu F3 H3 g3 r3=>?_
   cases r3
   exact⟨b,c,rfl,rfl,k _ F3 H3 ((g1.trans g2).trans g3) rfl⟩
 ·rw[if_neg q] at e3 ⊢
  cases e3
  exact k _ F2 H2 (g1.trans g2) rfl
def CK:List V->Hp->VK->Prop:=λxs H Q=>∃x:Str,xs=[.str x]/\x.length<cap/\Q (.int x.length) H
theorem zPk:lX X (.builtin "len") CK:=by
 intro pins s σ H xs us Q I r h
 obtain⟨x,rfl,hl,q⟩:=h
 exact zRl pins s σ H _ us Q I r ⟨_,_,rfl,⟨Nat.le_of_lt (Fd hl),rfl⟩,q⟩
def sO(x:Str):Option Int:=if x.length<cap then some (x.length:Int) else none
theorem zq(h:Ex B sl .hp t m):Ex B sl md (pN CK (xQ t bD)) (m.bind sO):=λc hc F O H σ Q s k=>by
 cases m with
 |none=>cases hc
 |some x =>
  have hc:sO x=some c:=hc
  unfold sO at hc
  split at hc
  case isFalse=>cases hc
  rename_i hl
  cases hc
  refine h x rfl F O H σ _ s λv F' H' g r1=>?_
  cases r1
  exact⟨x,rfl,hl,k _ F' H' g rfl⟩
def KQ(i j:Str):Bool:=!(Builtin.Str.occurrences j i 0 j.length 1).isEmpty
abbrev R3:R2:=λx y H Q=>∃i j,x=.str i/\y=.str j/\Q (.bl (!(Builtin.Str.occurrences j i 0 j.length 1).isEmpty)) H
theorem Gd(h1:Ex B sl .hp ta m1)(h2:Ex B sl .hp tb m2):Ex B sl md (jk R3 ta tb) (m1.bind λa=>m2.bind λb=>some (KQ a b)) :=
 su (f:=λa b=>some (KQ a b)) (λa b c v w H Q e r1 r2 q=>by
  cases e
  cases r1
  cases r2
  exact⟨a,b,rfl,rfl,q⟩) h1 h2
theorem Ge{ws:List Str}(hT:∀H,nZ K H p (ws.map V.str))(h:Ex B sl .hp t m):Ex B sl md (jk (Es K false) t (tC (.ref p))) (m.bind λx=>some (decide (x∈ws))):=λc hc F O H σ Q s k=>by
 cases m with
 |none=>cases hc
 |some x =>
  cases(show some (decide (x∈ws))=some c from hc)
  refine h x rfl F O H σ _ s λv F' H' g r1=>?_
  cases r1
  refine⟨p,_,rfl,.inr (hT H'),Fl.flat (K:=K) x,RD (K:=K) ws,?_⟩
  have:=Ol (K:=K) x ws
  simp only[Bool.false_eq_true,if_false]
  rw[show inV (V.str x) (ws.map V.str)=decide (x∈ws) from this]
  exact k _ F' H' g rfl
end
section
variable{P:Program}{w:World}{K:PySem.W.Frag}{mg:Str->Option Value}{base:Heap}{B:Bs}{sl:SL K}{al:Bool}{S β:Type}[Rp K β]
theorem IV:Sn B sl Vv L none:=λa ha=>by cases ha
theorem OD{A:Type}{as:A->SL K}{fM:A->Option Unit}(F:bR K x qual st f fd)(S:ao N ps (zI st))(hf:∀a,(as a).all isF=true)(hl:∀a,(as a).length=ps.length)(hb:∀(cdv:Value) (A:Around) (outer:List Env) (s:Shared) (H:Hp) (E:XK),bI k (A.deeper (PyProof.Rows.envOfC qual (zI st) s.heap.objs.size f cdv)) ->
   ∃t,mY (lY bH P w K mg base N qual (zI st) f cdv A outer s H E).BK (wE st) t/\∀Fa a,∃L:Unit->SL K,Sn ⟨Fa,H⟩ (as a++replicate (N.length-ps.length) .un) t L (fM a)) :
  aB P w K mg base bH (k+1) f fd ps (cu K al as fM) :=
 F.ok S (λvs H Q E h=>Xa hl h) λcdv A outer s H vs Q E hr h=>by
  obtain⟨t,p,q⟩:=hb cdv A outer s H E hr
  refine⟨t,p,?_⟩
  obtain⟨a,b,Fa,s,hfa,r,kk⟩:=h
  have e:L2.start N vs=vs.map some++replicate (N.length-ps.length) none:=by
   unfold L2.start
   rw[r.len,hl]
  rw[e]
  obtain⟨L,q⟩:=q Fa a
  exact q b hfa Fa _ _ H ⟨Fa,[],.refl _,⟨s,.refl _,λb o h=>.inl h,λx hx=>(by cases hx),(by simp)⟩,W_ _ (hf a) r⟩ λσ' H' ⟨F',O',g,a'⟩=>kk .non H' a'.1.h0 rfl
def Gf(a:Str)(i:Int):Option Str:=if i.natAbs.log2<1920 then some (a++Str.ofString (toString i)) else none
def IW(a z:Str):Option Str:=if z.length<=1000 then some (a++z) else none
theorem Xx(a:Str)(h:Ex B sl .hp t m):Ex B sl md (Rf a t) (m.bind (Gf a)):=λc hc F O H σ Q s k=>by
 cases m with
 |none=>cases hc
 |some i =>
  have hc:Gf a i=some c:=hc
  unfold Gf at hc
  split at hc
  case isFalse=>cases hc
  rename_i hl
  cases hc
  refine h i rfl F O H σ _ s λv F' H' g r1=>?_
  cases r1
  exact .inl ⟨i,rfl,hl,k _ F' H' g rfl⟩
theorem Gg(a:Str)(h:Ex B sl .hp t m):Ex B sl md (Rf a t) (m.bind (IW a)):=λc hc F O H σ Q s k=>by
 cases m with
 |none=>cases hc
 |some i =>
  have hc:IW a i=some c:=hc
  unfold IW at hc
  split at hc
  case isFalse=>cases hc
  rename_i hl
  cases hc
  refine h i rfl F O H σ _ s λv F' H' g r1=>?_
  cases r1
  exact .inr ⟨i,rfl,hl,k _ F' H' g rfl⟩
theorem KR:kitOne K (.type "str") (.type "str")=some true:=rfl
theorem Gh:bootBuiltins "str" = some (.type "str"):=by decide +kernel
end
section
variable{β:Type}
abbrev CN(kvs:List (Key×β))(k:Str):Option β:=gK kvs (Sum.inr k)
def KY(kvs:List (Key×β))(k:Str)(v:β):Option (List (Key×β)):=if kvs.length<cap then some (pK kvs (Sum.inr k) v) else none
end
section
variable{K:PySem.W.Frag}{α:Type}[Rp K α]
variable{B:Bs}{sl:SL K}{md:Md}{t t2:TE}{F H G:Hp}{O:Own}{σ:St}{u:TS}{al:Bool}
theorem zx{m:Option Str}{m2:Option (Dc α)}(h:Ex B sl .hp t m)(h2:Ex B sl .hp t2 m2):Ex B sl md (Ep t t2) (m.bind λk=>m2.bind λd=>some (CN d.kv k).isSome):=λc hc F O H σ Q s kk=>by
 obtain⟨k,d,e1,e2,e3⟩:=qO hc
 cases e3
 refine h k e1 F O H σ _ s λv F' H' g r1=>?_
 refine h2 d e2 F' O H' σ _ (s.grow g) λw F2 H2 g2 r2=>?_
 cases r1
 obtain⟨p,ks,rfl,z1,z2⟩:=r2
 refine⟨p,_,rfl,pZ.k (k:=Sum.inr k) z1,?_⟩
 have e:(gR ks (Sum.inr k:Key)).isSome=(CN d.kv k).isSome:=by
  rcases z2.val (k:=Sum.inr k) with⟨q1,q2⟩|⟨a,v,q1,q2,_⟩
  ·show _=(gK d.kv (Sum.inr k)).isSome;rw[q1,q2];rfl
  ·show _=(gK d.kv (Sum.inr k)).isSome;rw[q1,q2];rfl
 rw[e]
 exact kk _ F2 H2 (g.trans g2) rfl
theorem zP9{kvs:List (Key×α)}{m:Option α}{mi:Option Str}{te ti:TE}(i:Nat)(hs:sl[i]?=some (.od kvs))(hh:sl.all (λs=>!oG s)=true)(hv:Ex B sl .fz te m)(hi:Ex B sl .hp ti mi) :
  Sn B sl (rN (dU i) ti te) (λys=>sl.set i (.od ys)) (m.bind λa=>mi.bind λk=>KY kvs k a):=λys ha G D σ H s k=>by
 obtain⟨a,ix,e1,e2,e3⟩:=qO ha
 unfold KY at e3
 split at e3
 case isFalse=>cases e3
 rename_i hl
 cases e3
 obtain⟨F,O,g,z⟩:=s
 refine hv a e1 F O H σ _ z λv F' H' gr r=>?_
 obtain⟨p,ks,h1,h2,h3,_⟩:=(z.grow gr).wz hs hh
 refine⟨_,h1,?_⟩
 refine hi ix e2 F' O H' σ _ (z.grow gr) λw F2 H2 FZ rw=>?_
 cases rw
 obtain⟨p',ks',h1',h2',h3',h4'⟩:=((z.grow gr).grow FZ).wz hs hh
 have e:=h1.symm.trans h1'
 cases e
 obtain⟨O',z'⟩:=h4' (putK ks' (Sum.inr ix) v) (pK kvs (Sum.inr ix) a) (h3'.put (Rp.mono FZ.ff r))
 exact⟨p,_,rfl,p7.k (k:=Sum.inr ix) h2' (Fd (by rw[h3'.len];exact hl)),k _ _ ⟨F2,O',(g.trans gr.ff).trans FZ.ff,z'⟩⟩
end
abbrev LLI:=List LI
abbrev ug:=List (Str×LI)
structure fL(p:Addr) where
 u:Unit
def OJ(C:Addr)(fS:LLI->Option Unit)(fM:ug->Int->Option Unit)(fF:LLI->Int->Option Unit)(fC fO:LLI->Option LLI)(xss:LLI)(mo:Option ug)(fo:Option LLI):Option (aF C) :=
 (fS xss).bind λ_=>(fM (mo.getD []) (xss.length:Int)).bind λ_=>(fF (fo.getD []) (xss.length:Int)).bind λ_=>(fC xss).bind λa=>(xG (λ_=>some true) (λx:Str×LI=>some (x.1,x.2)) (mo.getD [])).bind λb =>
  (fC (fo.getD [])).bind λc=>(fO a).bind λd=>some ⟨a,b,c,d⟩
theorem uT{α β:Type}{m:Option α}{f:α->Option β}{b:β}(h:m.bind f=some b):∃a,m=some a/\f a=some b:=by
 cases m with
 |none=>cases h
 |some a=>exact⟨a,rfl,h⟩
section
variable{K:PySem.W.Frag}{C:Addr}{B:Bs}{sl:SL K}{F H:Hp}{O:Own}{σ:St}
instance:Rp K (fL p):=⟨λ_ v _=>v=.ref p,λ_ h=>h⟩
def I8(K:PySem.W.Frag)(C:Addr)(mk:LLI->Option ug->Option LLI->Option (aF C)):Sp:=λvs H Q _=>∃(p dx:Addr)(vS vM vF:V)(xss:LLI)(mo:Option ug)(fo:Option LLI)(M:aF C),vs=[.ref p,vS,vM,vF]/\H p=some (.ins C dx []) /\
 rp K (hid H p) vS xss/\rp K (hid H p) vM mo/\rp K (hid H p) vF fo/\mk xss mo fo=some M/\∀H':Hp,(∀b o,b≠p->H b=some o->H' b=some o)->rp K (dif H' (hid H p)) (.ref p) M->Q .non H'
variable{mk:LLI->Option ug->Option LLI->Option (aF C)}
theorem zP6{H1:Hp}{x dx:Addr}(nx:H1 x=none)(ndx:H1 dx=none){vS vM vF:V}{xss:LLI}{mo:Option ug}{fo:Option LLI}{c:aF C}(rS:rp K H1 vS xss)(rM:rp K H1 vM mo)(rF:rp K H1 vF fo)(hc:mk xss mo fo=some c){Q:VK}{E:XK}(k:∀H2:Hp,Same H1 H2->rp K (dif H2 H1) (.ref x) c->Q (.ref x) H2):I8 K C mk [.ref x,vS,vM,vF] (upd (upd H1 dx (.own x)) x (.ins C dx [])) (λv H2=>v=.non/\Q (.ref x) H2) E:=by
 have sG:Same H1 (upd (upd H1 dx (.own x)) x (.ins C dx [])):=λb o e=>by rw[zP (zQ e nx),zP (zQ e ndx)];exact e
 have sh:Same H1 (hid (upd (upd H1 dx (.own x)) x (.ins C dx [])) x):=λb o e=>by
  unfold hid
  rw[if_neg (zQ e nx)]
  exact sG b o e
 refine⟨x,dx,vS,vM,vF,xss,mo,fo,c,rfl,zR,Rp.mono sh rS,Rp.mono sh rM,Rp.mono sh rF,hc,λH2 kp r2=>⟨rfl,?_⟩⟩
 refine k H2 (λb o e=>kp b o (zQ e nx) (sG b o e)) (Rp.mono (λb o e=>?_) r2)
 have hb:H1 b=none:=by
  cases q:H1 b with
  |none=>rfl
  |some u =>
   have:hid (upd (upd H1 dx (.own x)) x (.ins C dx [])) x b=some u:=sh b u q
   unfold dif at e
   rw[this] at e
   cases e
 rw[wC hb]
 exact bw _ _ e
theorem Xy(h1:Ex B sl .hp t1 m1)(h2:Ex B sl .hp t2 m2)(h3:Ex B sl .hp t3 m3) :
  En B sl (BP C (I8 K C mk) [] E0 (xQ t1 (xQ t2 (xQ t3 bD)))) (m1.bind λa=>m2.bind λb=>m3.bind λc=>mk a (some b) (some c)):=λc hc F O H σ Q s kk=>by
 obtain⟨a,rfl,hc⟩:=uT (m:=m1) hc
 obtain⟨b,rfl,hc⟩:=uT (m:=m2) hc
 obtain⟨d,rfl,hc⟩:=uT (m:=m3) hc
 refine h1 a rfl F O H σ _ s λv1 F1 H1 g1 r1=>?_
 refine h2 b rfl F1 O H1 σ _ (s.grow g1) λv2 F2 H2 g2 r2=>?_
 refine h3 d rfl F2 O H2 σ _ ((s.grow g1).grow g2) λv3 F3 H3 g3 r3=>?_
 intro x dx nx ndx nex
 have r2':rp K H2 v2 b:=r2
 have r3':rp K H3 v3 d:=r3
 exact zP6 nx ndx (Rp.mono (g2.hh.trans g3.hh) r1) (show rp K H3 v2 (some b) from⟨Nn.nn (K:=K) r2',Rp.mono g3.hh r2⟩) (show rp K H3 v3 (some d) from⟨Nn.nn (K:=K) r3',r3⟩) hc λH4 s4 r4=>kk _ F3 H3 H4 (g1.trans (g2.trans g3)) s4 r4
theorem Gi(h:b≠p):hid H p b=H b:=by unfold hid;rw[if_neg h]
theorem I9:hid H p p=none:=by unfold hid;rw[if_pos rfl]
theorem KZ:Same (hid H p) H:=λb o e=>by
 by_cases q:b=p
 ·subst q;rw[I9] at e;cases e
 ·rw[Gi q] at e;exact e
theorem I_(s:Same H H'):Same (hid H p) (hid H' p):=λb o e=>by
 by_cases q:b=p
 ·subst q;rw[I9] at e;cases e
 ·rw[Gi q] at e ⊢;exact s b o e
theorem CP:hid (upd H p o) p=hid H p:=by
 funext b
 by_cases q:b=p
 ·subst q;rw[I9,I9]
 ·rw[Gi q,Gi q,zP q]
theorem O4(kp:∀b o,b≠p->H b=some o->Hi b=some o)(hp:Hi p≠none):Same (dif H' Hi) (dif (hid H' p) (hid H p)):=λb o e=>by
 have hb:Hi b=none:=by
  cases q:Hi b with
  |none=>rfl
  |some u=>unfold dif at e;rw[q] at e;cases e
 have nb:b≠p:=λq=>hp (by rw[<-q];exact hb)
 rw[wC hb] at e
 have h0:hid H p b=none:=by
  rw[Gi nb]
  cases q:H b with
  |none=>rfl
  |some u=>rw[kp b u nb q] at hb;cases hb
 rw[wC h0,Gi nb]
 exact e
theorem Xz(hs:ak (K:=K) ⟨hid Hi p,Hi⟩ (hid Hi p) (lo (hid Hi p) [] Hi) Hi sl σ []):At (K:=K) ⟨hid Hi p,Hi⟩ sl (hid Hi p) [] Hi σ :=
 ⟨⟨KZ,.refl _,λb o h=>.inl h,λx hx=>(by cases hx),by simp⟩,hs⟩
end
end Ts
namespace jQ
open PySem
def Rz(xs:Array Nat):Prop:=∀i k a b:Nat,i<k->xs[i]?=some a->xs[k]?=some b->a<b
theorem R5(hr:Rz xs):∀(fuel lo hi:Nat),hi-lo<=fuel->lo<=hi->hi<=xs.size->(∀i a,i<lo->xs[i]?=some a->a<j)->(∀i a,hi<=i->xs[i]?=some a->j<=a) ->
  (SetTable.below.go xs j fuel lo hi)<=xs.size/\(∀i a,i<SetTable.below.go xs j fuel lo hi->xs[i]?=some a->a<j)/\(∀i a,SetTable.below.go xs j fuel lo hi<=i->xs[i]?=some a->j<=a)
 |0,lo,hi,hf,hl,hz,h1,h2=>by
  have e:lo=hi:=by omega
  subst e
  unfold SetTable.below.go
  exact⟨hz,h1,h2⟩
 |fuel+1,lo,hi,hf,hl,hz,h1,h2=>by
  unfold SetTable.below.go
  by_cases hlt:lo<hi
  ·rw[if_pos hlt]
   have hm:(lo+hi)/2<hi:=by omega
   have hm0:lo<=(lo+hi)/2:=by omega
   have hms:(lo+hi)/2<xs.size:=by omega
   have e:xs.getD ((lo+hi)/2) j=xs[(lo+hi)/2]:=by simp[Array.getD,hms]
   dsimp only
   rw[e]
   by_cases hc:xs[(lo+hi)/2]<j
   ·rw[if_pos hc]
    refine R5 hr fuel _ hi (by omega) (by omega) hz (λi a hi' ha=>?_) h2
    by_cases hi2:i=(lo+hi)/2
    ·subst hi2
     rw[Array.getElem?_eq_getElem hms] at ha
     cases ha
     exact hc
    ·exact Nat.lt_trans (hr i ((lo+hi)/2) a _ (by omega) ha (Array.getElem?_eq_getElem hms)) hc
   ·rw[if_neg hc]
    refine R5 hr fuel lo _ (by omega) (by omega) (by omega) h1 (λi a hi' ha=>?_)
    by_cases hi2:i=(lo+hi)/2
    ·subst hi2
     rw[Array.getElem?_eq_getElem hms] at ha
     cases ha
     omega
    ·have:=hr ((lo+hi)/2) i _ a (by omega) (Array.getElem?_eq_getElem hms) ha
     omega
  ·rw[if_neg hlt]
   have e:lo=hi:=by omega
   subst e
   exact⟨hz,h1,h2⟩
theorem R7(hr:Rz xs)(j:Nat):SetTable.below xs j<=xs.size/\(∀i a,i<SetTable.below xs j->xs[i]?=some a->a<j)/\(∀i a,SetTable.below xs j<=i->xs[i]?=some a->j<=a) :=
 R5 hr xs.size 0 xs.size (by omega) (Nat.zero_le _) (Nat.le_refl _) (λi a h=>absurd h (Nat.not_lt_zero _)) (λi a h1 h2=>by
  rw[Array.getElem?_eq_none h1] at h2
  cases h2)
theorem Gj{α:Type}(xs:Array α)(p:Nat)(x:α)(hp:p<=xs.size)(i:Nat):(insertAt xs p x)[i]?=if i<p then xs[i]? else if i=p then some x else xs[i-1]?:=by
 have e:insertAt xs p x=(xs.toList.take p++x::xs.toList.drop p).toArray:=by
  unfold insertAt
  apply Array.ext'
  simp
  rw[List.take_of_length_le (by rw[List.length_drop,length_toList];exact Nat.le_refl _)]
 rw[e,getElem?_toArray]
 have hl:p<=xs.toList.length:=by simpa using hp
 by_cases h1:i<p
 ·rw[if_pos h1,getElem?_append_left (by rw[length_take];omega),getElem?_take_of_lt h1,getElem?_toList]
 ·rw[if_neg h1,getElem?_append_right (by rw[length_take];omega),length_take,Nat.min_eq_left hl]
  by_cases h2:i=p
  ·subst h2;simp
  ·rw[if_neg h2]
   obtain⟨k,rfl⟩:∃k,i=p+1+k:=⟨i-(p+1),by omega⟩
   rw[show p+1+k-p=k+1 by omega,List.getElem?_cons_succ,List.getElem?_drop,getElem?_toList]
   congr 1
   omega
theorem Gk(hr:Rz xs)(hn:xs[SetTable.below xs j]?≠some j):Rz (insertAt xs (SetTable.below xs j) j):=by
 obtain⟨b1,b2,b3⟩:=R7 hr j
 intro i k a b hik ha hb
 rw[Gj _ _ _ b1] at ha hb
 generalize SetTable.below xs j=p at *
 have up:∀m c,p<=m->xs[m]?=some c->j<c:=λm c hm hc=>by
  have h1:=b3 m c hm hc
  by_cases e:m=p
  ·subst e
   have:c≠j:=λz=>hn (by rw[hc,z])
   omega
  ·have hp:p<xs.size:=by
    have:m<xs.size:=by
     by_cases z:m<xs.size
     ·exact z
     ·rw[Array.getElem?_eq_none (by omega)] at hc;cases hc
    omega
   have h2:=hr p m _ c (by omega) (Array.getElem?_eq_getElem hp) hc
   have h3:=b3 p _ (Nat.le_refl _) (Array.getElem?_eq_getElem hp)
   omega
 by_cases i1:i<p
 ·rw[if_pos i1] at ha
  have ja:=b2 i a i1 ha
  by_cases k1:k<p
  ·rw[if_pos k1] at hb;exact hr i k a b hik ha hb
  ·rw[if_neg k1] at hb
   by_cases k2:k=p
   ·rw[if_pos k2] at hb;cases hb;exact ja
   ·rw[if_neg k2] at hb
    exact Nat.lt_trans ja (up (k-1) b (by omega) hb)
 ·rw[if_neg i1] at ha
  have k1:¬k<p:=by omega
  have k2:¬k=p:=by omega
  rw[if_neg k1,if_neg k2] at hb
  by_cases i2:i=p
  ·rw[if_pos i2] at ha;cases ha;exact up (k-1) b (by omega) hb
  ·rw[if_neg i2] at ha
   exact hr (i-1) (k-1) a b (by omega) ha hb
def Free(t:SetTable)(j:Nat):Prop:=t.place[SetTable.below t.place j]?≠some j
theorem XC{t:SetTable}(h:∀i,t.slot j≠.live i):Free t j:=λe=>by
 refine h (SetTable.below t.place j) ?_
 unfold SetTable.slot
 simp[e]
theorem R8:∀(fuel:Nat)(p:SetTable.Probe)(j:Nat)(d:Option Nat),(∀d,p.dummy=some d->Free t d)->probe.go t f h fuel p=some (.empty j d)->Free t j/\∀e,d=some e->Free t e
 |0,p,j,d,hd,e=>by unfold probe.go at e;cases e
 |fuel+1,p,j,d,hd,e=>by
  have XD:∀q:SetTable.Probe,(t.advance q).dummy=q.dummy:=λq=>by
   unfold SetTable.advance
   split
   ·rfl
   ·rfl
  unfold probe.go at e
  cases hs:t.slot p.j with
  |empty =>
   rw[hs] at e
   cases e
   exact⟨XC (λi z=>by rw[hs] at z;cases z),hd⟩
  |dummy =>
   rw[hs] at e
   refine R8 fuel _ j d (λd' h'=>?_) e
   rw[XD] at h'
   cases h'
   exact XC λi z=>by rw[hs] at z;cases z
  |live i =>
   rw[hs] at e
   dsimp only at e
   split at e
   ·cases e
   ·exact R8 fuel _ j d (λd' h'=>hd d' (by rw[XD] at h';exact h')) e
theorem zF8{t:SetTable}(e:t.freeSlot h=some (j,b)):Free t j:=by
 unfold SetTable.freeSlot at e
 split at e
 ·rename_i j' d hp
  cases e
  have q:=R8 (t:=t) _ _ j' d (λd h'=>by cases h') hp
  cases d with
  |none=>exact q.1
  |some d=>exact q.2 d rfl
 ·cases e
structure Tb(led:Bool)(t:SetTable):Prop where
 led:t.led=led
 rz:t.plain=true->Rz t.place
theorem O6(h:Tb led t)(n:Nat):Tb led (t.standIn n):=⟨h.led,λz=>by cases z⟩
theorem K1(h:Tb led t)(n:Nat):Tb led (t.orStandIn n):=by
 unfold SetTable.orStandIn
 split
 ·exact h
 ·exact O6 h n
theorem Gm(hb:Tb led t)(es:Array (Int×Value))(h:Int)(x:Value):Tb led (layNew t es h x).2.1:=by
 unfold layNew
 cases e:t.freeSlot h with
 |none=>exact O6 hb _
 |some q =>
  obtain⟨j,b⟩:=q
  dsimp only
  refine K1 (t:=(t.put j).1) ⟨hb.led,λz=>?_⟩ _
  exact Gk (hb.rz z) (zF8 e)
theorem XF(f:Nat->Option Nat)(n:Nat):Rz (((List.range n).filterMap λj=>(f j).map (j,·)).map (·.1)).toArray:=by
 have hp:(((List.range n).filterMap λj=>(f j).map (j,·)).map (·.1)).Pairwise (· < ·):=by
  rw[pairwise_map]
  refine Pairwise.filterMap _ ?_ (pairwise_lt_range (n:=n))
  intro a b hab x hx y hy
  cases ea:f a with
  |none=>rw[ea] at hx;cases hx
  |some u =>
   cases eb:f b with
   |none=>rw[eb] at hy;cases hy
   |some v =>
    rw[ea] at hx
    rw[eb] at hy
    cases hx
    cases hy
    exact hab
 intro i k a b hik ha hb
 rw[getElem?_toArray] at ha hb
 obtain⟨h1,e1⟩:=List.getElem?_eq_some_iff.mp ha
 obtain⟨h2,e2⟩:=List.getElem?_eq_some_iff.mp hb
 rw[<-e1,<-e2]
 exact pairwise_iff_getElem.mp hp i k h1 h2 hik
theorem zPy(hb:Tb led t)(es:Array (Int×Value))(n:Nat):Tb led (relayAll t es n).2.1:=by
 unfold relayAll
 cases e:t.relaid (es.map (·.1)) n with
 |none=>exact O6 hb _
 |some q =>
  obtain⟨t',order⟩:=q
  dsimp only
  split
  ·unfold SetTable.relaid SetTable.laid at e
   cases e2:SetTable.layClean (SetTable.sizeAbove n-1) (es.map (·.1)) with
   |none=>rw[e2] at e;cases e
   |some owner =>
    rw[e2] at e
    cases e
    exact⟨hb.led,λ_=>XF _ _⟩
  ·exact O6 hb _
theorem zPz(led:Bool):Tb led (.fresh 0 0 led):=⟨rfl,λ_=>λi k a b _ h _=>by
 have:(#[]:Array Nat)[i]?=some a:=h
 simp at this⟩
section
variable{prog:Program}{w:World}{κ:Type}[DecidableEq κ](knd:KeyKind prog w κ)(dec:Value->κ)
def Good(led:Bool)(h:Heap)(a:Addr)(ks:List κ):Prop :=
 ∃o es ep t,h.get? a=some o/\o.ExactSet/\o.data=.set es ep t/\ElemsOf knd es.toList/\(es.toList.map λe=>dec e.2).Perm ks/\ks.Nodup/\es.size<scanBound/\t.fits es.size=true/\Tb led t
variable{knd}{dec}{led:Bool}{A:Around}{E:Value->Shared->Prop}{s:Shared}
theorem Good.len(g:Good knd dec led h a ks):ks.length<scanBound:=by
 obtain⟨o,es,ep,t,_,_,_,_,p,_,hb,_⟩:=g
 rw[<-p.length_eq,length_map,length_toList]
 exact hb
theorem Good.keep{h':Heap}(g:Good knd dec led h a ks)(k:∀o,h.get? a=some o->h'.get? a=some o):Good knd dec led h' a ks:=by
 obtain⟨o,es,ep,t,h1,rest⟩:=g
 exact⟨o,es,ep,t,k _ h1,rest⟩
theorem XH(hdec:∀k v,knd.is k v=true->dec v=k)(hel:ElemsOf knd es)(k:κ):es.findIdx? (λe=>knd.is k e.2)=none↔k∉es.map λe=>dec e.2:=by
 rw[List.findIdx?_eq_none_iff]
 constructor
 ·intro h hm
  obtain⟨e,he,rfl⟩:=mem_map.mp hm
  obtain⟨⟨k',hk,_⟩,_⟩:=hel e he
  have:=h e he
  rw[hdec k' _ hk,hk] at this
  cases this
 ·intro h e he
  cases q:knd.is k e.2 with
  |false=>rfl
  |true=>exact absurd (mem_map.mpr ⟨e,he,hdec _ _ q⟩) h
theorem CQ{h:Heap}(ho:h.get? a=some o)(hd:o.data=.set es ep t):(h.update a (Obj.putSet es' t')).get? a=some { o with data:=.set es' (ep+1) t' }:=by
 have q:=get?_update_self (Obj.putSet es' t') ho (by rw[putSet_of es' t' hd];rfl)
 rw[putSet_of es' t' hd] at q
 exact q
theorem R9{Q:Unit->Shared->Prop}(h:Q () s1):wpAny (model prog w) A (match b with|true=>rule "set.scan.the-table-gave-way" | false=>pure ()) Q E s1:=by
 cases b
 ·exact wpAny_pure h
 ·exact wpAny_rule h
theorem XJ{g:Bool->Sem Unit}(hg:∀(b:Bool) (s₁:Shared) (Q':Unit->Shared->Prop),Q' () s₁->wpAny (model prog w) A (g b) Q' E s₁){es1:Array (Int×Value)}{t2:SetTable}{R:Option Bool->Shared->Prop}(ho:s.heap.get? a=some o)(hx:o.ExactSet)(hd:o.data=.set es ep t)(hel:ElemsOf knd es1.toList)(hp:(es1.toList.map λe=>dec e.2).Perm ks)(nd:ks.Nodup)(hb:es1.size<scanBound)(hf:t2.fits es1.size=true)(tb:Tb led t2)(h:∀h',SameBut a s.heap h'->Good knd dec led h' a ks->R (some true) { s with heap:=h' }) :
  wpAny (model prog w) A (storeSet a es1 t2 >>= λ_=>if(!K3&&t2.tooFull)=true then(g (relayAll t2 es1 (grown es1.size)).2.2 >>= λ_=>storeSet a (relayAll t2 es1 (grown es1.size)).1 (relayAll t2 es1 (grown es1.size)).2.1 >>= λ_=>pure (some true)) else pure (some true)) R E s:=by
 refine wpAny_bind (wpAny_storeSet_of ho hd ?_ (fits_of_scanBound hb))
 have o1:=CQ (es':=es1) (t':=t2) ho hd
 have sb:=SameBut.update s.heap a (Obj.putSet es1 t2)
 split
 ·have rp:=relayAll_perm t2 es1 (grown es1.size)
  have rf:=relayAll_fits t2 es1 (grown es1.size)
  have rt:=zPy tb es1 (grown es1.size)
  generalize relayAll t2 es1 (grown es1.size)=L at rp rf rt ⊢
  obtain⟨es2,t3,gv⟩:=L
  dsimp only at rp rf rt ⊢
  have sz:es2.size=es1.size:=by rw[<-length_toList,rp.length_eq,length_toList]
  refine wpAny_bind (hg _ _ _ (wpAny_bind (wpAny_storeSet_of o1 rfl (wpAny_pure (h _ (sb.trans (SameBut.update _ a _)) ⟨_,es2,_,t3,CQ (es':=es2) (t':=t3) o1 rfl,hx,rfl,hel.perm rp,(rp.map _).trans hp,nd,by rw[sz];exact hb,rf,rt⟩)) (fits_of_scanBound (by rw[sz];exact hb)))))
 ·exact wpAny_pure (h _ sb ⟨_,es1,_,t2,o1,hx,rfl,hel,hp,nd,hb,hf,tb⟩)
theorem Gn(h:Tb led t):Tb led { t with plain:=false }:=⟨h.led,λz=>by cases z⟩
theorem R_(hdec:∀k v,knd.is k v=true->dec v=k){Q:Bool->Shared->Prop}(hk:knd.is k x=true)(hs:x.scannable=true)(g:Good knd dec led s.heap a ks)(room:ks.length+1<scanBound)(h:∀(h':Heap) (b:Bool),SameBut a s.heap h'->Good knd dec led h' a (if k∈ks then ks else k::ks)->Q b { s with heap:=h' }) :
  wpAny (model prog w) A (setAddHashed a x (knd.hash k)) Q E s:=by
 obtain⟨o,es,ep,t,ho,hx,hd,hel,hp,nd,hb,hf,tb⟩:=g
 have n:es.size=ks.length:=by rw[<-hp.length_eq,length_map,length_toList]
 unfold setAddHashed setAddHashedIn
 refine wpAny_holding (wpAny_bind (wpAny_setState_of ho hd hf ?_))
 dsimp only
 rw[byScan_of hs hb hel]
 simp only[↓reduceIte]
 unfold setAddByScan
 refine wpAny_bind (wpAny_bind (wpAny_rule (wpAny_bind (wpAny_setScan_of hk ho hd hf hel ?_))))
 have fi:=XH hdec hel k
 cases hr:List.findIdx? (λe=>knd.is k e.2) es.toList with
 |some j =>
  have hm:k∈ks:=by
   refine hp.mem_iff.mp (Classical.byContradiction λz=>?_)
   rw[fi.mpr z] at hr
   cases hr
  dsimp only
  refine wpAny_pure (wpAny_pure ?_)
  have q:=h s.heap false (SameBut.refl a s.heap)
  rw[if_pos hm] at q
  exact q ⟨o,es,ep,t,ho,hx,hd,hel,hp,nd,hb,hf,tb⟩
 |none =>
  have hm:k∉ks:=λz=>fi.mp hr (hp.mem_iff.mpr z)
  dsimp only
  have lp:=layNew_perm t es (knd.hash k) x
  have lf:=layNew_fits t es (knd.hash k) x
  have lt:=Gm tb es (knd.hash k) x
  generalize layNew t es (knd.hash k) x=L at lp lf lt ⊢
  obtain⟨es1,t1,K3,gave⟩:=L
  dsimp only at lp lf lt ⊢
  rw[Array.toList_push] at lp
  have sz:es1.size=es.size+1:=by rw[<-length_toList,lp.length_eq,length_append,length_toList];rfl
  have hp1:(es1.toList.map λe=>dec e.2).Perm (k::ks):=by
   refine(lp.map _).trans ?_
   rw[map_append]
   show(_++[dec x]).Perm _
   rw[hdec k x hk]
   exact Perm.trans (l₂:=k::es.toList.map λ(e:Int×Value)=>dec e.2) List.perm_append_comm (hp.cons k)
  have fin:∀h',SameBut a s.heap h'->Good knd dec led h' a (k::ks)->Q true { s with heap:=h' }:=λh' sb g'=>by
   have q:=h h' true sb
   rw[if_neg hm] at q
   exact q g'
  have XM:(k::ks).Nodup:=nodup_cons.mpr ⟨hm,nd⟩
  refine wpAny_bind (R9 ?_)
  split
  ·refine wpAny_bind ?_
   rw[hashByValue_scannable 8 hs]
   refine wpAny_pure ?_
   refine XJ (led:=led) (K3:=K3) (λb s₁ Q' hq=>R9 hq) ho hx hd ((hel.push hk hs).perm lp) hp1 XM (by rw[sz,n];exact room) ?_ ?_ λh' sb g'=>?_
   ·split
    ·exact lf
    ·exact SetTable.fits_plain_off lf
   ·split
    ·exact lt
    ·exact Gn lt
   ·exact wpAny_pure (fin h' sb g')
  ·refine wpAny_bind (wpAny_pure ?_)
   simp only[↓reduceIte]
   refine XJ (led:=led) (K3:=K3) (λb s₁ Q' hq=>R9 hq) ho hx hd ((hel.push hk hs).perm lp) hp1 XM (by rw[sz,n];exact room) lf lt λh' sb g'=>?_
   exact wpAny_pure (fin h' sb g')
end
open PySem PySem.Spec PyProof.Rows
section
variable{κ:Type}[DecidableEq κ]
def met(val:Nat->κ):Nat->List κ
 |0=>[]
 |i+1=>if val i∈met val i then met val i else val i::met val i
theorem XQ(val:Nat->κ):∀i,(met val i).length<=i
 |0=>Nat.le_refl _
 |i+1=>by
  have ih:=XQ val i
  unfold met
  split
  ·omega
  ·rw[length_cons];omega
theorem Sd(val:Nat->κ)(k:κ):∀i,k∈met val i↔∃j,j<i/\val j=k
 |0=>by simp[met]
 |i+1=>by
  have ih:=Sd val k i
  have lt:(∃j,j<i+1/\val j=k)↔(∃j,j<i/\val j=k)\/val i=k:=by
   constructor
   ·rintro⟨j,hj,e⟩
    by_cases q:j=i
    ·subst q;exact .inr e
    ·exact .inl ⟨j,by omega,e⟩
   ·rintro(⟨j,hj,e⟩|e)
    ·exact⟨j,by omega,e⟩
    ·exact⟨i,by omega,e⟩
  rw[lt,<-ih]
  show k∈(if val i∈met val i then met val i else val i::met val i)↔_
  split
  ·rename_i hm
   exact⟨.inl,λh=>h.elim id λe=>e▸hm⟩
  ·rw[mem_cons]
   exact⟨λh=>h.elim (λe=>.inr e.symm) .inl,λh=>h.elim .inr λe=>.inl e.symm⟩
variable{prog:Program}{w:World}{knd:KeyKind prog w κ}{dec:Value->κ}{led:Bool}{A:Around}{R:Result->Shared->Prop}{I:Addr}{fp wr:List Addr}{G:Array GenState->Array GenState->Prop}{n:Nat}{P:Nat->Value->Prop}{St:Nat->Shared->Prop}
theorem zy(hdec:∀k v,knd.is k v=true->dec v=k)(W:WalksS prog w A.in1 I fp wr G n P St)(S:Addr)(off:S∉fp)(val:Nat->κ)(hval:∀i v,P i v->knd.is (val i) v=true/\v.scannable=true)(hb:n+1<scanBound) :
  ∀(k i:Nat)(s:Shared),n-i=k->i<=n->St i s->Good knd dec led s.heap S (met val i)->(∀s',Moved (S::wr) G s s'->Good knd dec led s'.heap S (met val n)->R (.ok (.ret .none)) s')->codeAny (model prog w) A (.builtin "set.update.loop" ⟨[.ref S,.ref I],[]⟩) R s:=by
 have K4:S∉wr:=λh=>off (W.sub _ h)
 have sub:∀b∈wr,b∈S::wr:=λb hb=>mem_cons_of_mem _ hb
 intro k
 induction k with
 |zero =>
  intro i s hk hi st g fin
  have e:i=n:=by omega
  subst e
  refine codeAny_builtin F.entry_set_update_loop ?_
  rw[Around.under_plainId F.plain_set_update_loop _]
  refine wpAny_bind (m:=pyNext (.ref I)) (W.done s _ _ st λs' hm=>?_)
  exact wpAny_pure (fin s' (hm.mono sub) (g.keep λo h=>hm.heap S o K4 h))
 |succ k ih =>
  intro i s hk hi st g fin
  have lt:i<n:=by omega
  refine codeAny_builtin F.entry_set_update_loop ?_
  rw[Around.under_plainId F.plain_set_update_loop _]
  refine wpAny_bind (m:=pyNext (.ref I)) (W.item i s _ _ lt st λv s' hP st' hm=>?_)
  obtain⟨his,hsc⟩:=hval i v hP
  refine wpAny_bind (m:=holding [v] (setAdd S v)) (wpAny_holding ?_)
  unfold setAdd
  refine wpAny_holding (wpAny_bind (knd.pyHash (k:=val i) his ?_))
  refine R_ (led:=led) (s:={ s' with toks:=s'.toks+1 }) hdec his hsc (g.keep λo h=>hm.heap S o K4 h) (by have:=XQ val i;omega) λh' b sb g'=>?_
  refine wpAny_pure ⟨plainId_quiet F.plain_set_update_loop _,ih (i+1) _ (by omega) lt (W.frame _ s' _ _ st' (Nat.le_succ _) λb hb o e=>?_) g' λs'' hm'' g''=>?_⟩
  ·rw[sb.2 b (λh:b=S=>off (by rw[<-h];exact hb))];exact e
  ·refine fin s'' (Moved.trans W.gtrans ((hm.mono sub).then_heap (Nat.le_succ _) λb o hb e=>?_) hm'') g''
   rw[sb.2 b (λh:b=S=>hb (h▸mem_cons_self))];exact e
end
section
variable{prog:Program}{w:World}{A:Around}{E:Value->Shared->Prop}{s:Shared}
def yJ(w:World):Bool:=!w.params.followText "set-order"
theorem zQu(a:Value){Q₁:Value->Shared->Prop}(h:Q₁ (.ref s.heap.objs.size) { s with heap:=s.heap.push { cls:=.type "set",dict:=none,data:=.set #[] 0 (.fresh 0 0 (yJ w)) } }) :
  codeAny (model prog w) A (.call (.builtin "set.__new__") ⟨[.type "set",a],[]⟩) (wants Q₁ E) s:=by
 refine codeAny_of_tree (wpAny_bind (m:=checkBuiltinCall "set.__new__" ⟨[.type "set",a],[]⟩) (wpAny_of_eq (F.newCall_set_1 a) (wpAny_pure ⟨plainId_quiet F.plain_set_new _,codeAny_builtin F.entry_set_new ?_⟩)))
 rw[Around.under_plainId F.plain_set_new _]
 unfold Builtin.«set.__new__» Builtin.Frozenset.newClass
 have sub:=sub_set_self
 obtain⟨hp,g,d,tk,os⟩:=s
 dsimp only
 wp_walk
 refine wpAny_askSetting (wpAny_pure ?_)
 dsimp only
 simp only[newObj]
 exact wpAny_bind (wpAny_alloc (wpAny_pure (wpAny_pure h)))
theorem Sh{κ:Type}[DecidableEq κ]{knd:KeyKind prog w κ}{dec:Value->κ}{h:Heap}(e:h.get? a=some { cls:=.type "set",dict:=none,data:=.set #[] 0 (.fresh 0 0 led) }):Good knd dec led h a [] :=
 ⟨_,#[],0,.fresh 0 0 led,e,⟨rfl,rfl,rfl⟩,rfl,λx hx=>by simp at hx,by simp,nodup_nil,by show 0<4096;decide,by cases led<;>rfl,zPz led⟩
set_option maxHeartbeats 4000000 in
theorem XR{κ:Type}[DecidableEq κ]{knd:KeyKind prog w κ}{dec:Value->κ}(hdec:∀k v,knd.is k v=true->dec v=k){Q:Value->Shared->Prop}(val:Nat->κ)(hh:A.handled=none)(hl:s.heap.IsList l items)(hi:∀(i:Nat) (v:Value),items[i]?=some v->knd.is (val i) v=true/\v.scannable=true)(hb:items.size+1<scanBound)(h:∀(h':Heap) (tk:Nat),Good knd dec (yJ w) h' s.heap.objs.size (met val items.size)->(∀b o,b<s.heap.objs.size->s.heap.get? b=some o->h'.get? b=some o)->Q (.ref s.heap.objs.size) { s with heap:=h',toks:=tk }) :
  wpAny (model prog w) A (call (.type "set") [.ref l]) Q E s:=by
 obtain⟨c,tl,hmro⟩:=F.called_set.mro
 have hmade:=F.called_set.made
 have hsub:=F.called_set.sub
 refine wpAny_call (codeAny_of_tree (wpAny_pure ⟨Code.quiet_builtin _ (by decide +kernel),codeAny_builtin F.entry_type_call ?_⟩))
 rw[Around.under_plain (weight_type_call_type "set" [.ref l] []) rfl]
 have h1:=F.called_set.notType
 have h2:=F.called_set.canCreate
 have hct:=F.typeCall_set_1 (.ref l)
 repeat(any_goals (first|assumption|wp_step))
 refine codeAny_mono (zQu (.ref l) (E:=E) (Q₁:=λobj s₁=>obj=.ref s.heap.objs.size/\s₁={ s with heap:=s.heap.push { cls:=.type "set",dict:=none,data:=.set #[] 0 (.fresh 0 0 (yJ w)) } }) ⟨rfl,rfl⟩) λr s₁ hr=>?_
 cases r with
 |error e=>exact hr
 |ok fl =>
  cases fl with
  |ret obj =>
   obtain⟨rfl,rfl⟩:=hr
   have hS:(s.heap.push { cls:=.type "set",dict:=none,data:=.set #[] 0 (.fresh 0 0 (yJ w)) }).get? s.heap.objs.size=some { cls:=.type "set",dict:=none,data:=.set #[] 0 (.fresh 0 0 (yJ w)) }:=get?_push_size _ rfl
   have hT:Shared.TypeIs { s with heap:=s.heap.push { cls:=.type "set",dict:=none,data:=.set #[] 0 (.fresh 0 0 (yJ w)) } } (.ref s.heap.objs.size) "set":=⟨_,hS,rfl⟩
   have hli:=F.called_set.init.lookup
   have hbi:=F.called_set.init.bind (.ref s.heap.objs.size)
   repeat(any_goals (first|assumption|wp_step))
   refine codeAny_mono (codeAny_call_builtin (R:=wants (λr s₂=>r=.none/\∃h' tk,s₂={ s with heap:=h',toks:=tk }/\Good knd dec (yJ w) h' s.heap.objs.size (met val items.size)/\(∀b o,b<s.heap.objs.size->s.heap.get? b=some o->h'.get? b=some o)) E)
    F.called_set.init.plain F.entry_set_init (check_set_init_1 hT ?_)) λr₂ s₂ hr₂=>?_
   ·obtain⟨ol,hol,hcl,nl,hdl⟩:=hl
    obtain⟨ocls,odict,odata,oslots⟩:=ol
    simp only at hcl hdl
    subst hcl
    subst hdl
    have hol':(s.heap.push { cls:=.type "set",dict:=none,data:=.set #[] 0 (.fresh 0 0 (yJ w)) }).get? l=some { cls:=.type "list",dict:=odict,data:=.seq items nl,slots:=oslots }:=get?_push_of_some _ hol
    have hsls:=F.sub_list_set
    have hslf:=F.sub_list_frozenset
    have hne:(Value.type "list" == Value.type "dict")=false:=by decide
    have hl1:(s.heap.push { cls:=.type "set",dict:=none,data:=.set #[] 0 (.fresh 0 0 (yJ w)) }).IsList l items:=⟨_,hol',rfl,nl,rfl⟩
    unfold Builtin.«set.__init__» noKeywords Builtin.Frozenset.updateFrom
    generalize hPI:pyIter=PI
    wp_walk
    subst hPI
    refine wpAny_pyIter_list hl1 (wpAny_bind (wpAny_runValue ?_))
    have hlS:l<s.heap.objs.size:=lt_size hol
    have sz:(s.heap.push { cls:=.type "set",dict:=none,data:=.set #[] 0 (.fresh 0 0 (yJ w)) }).objs.size=s.heap.objs.size+1:=size_push ..
    have hneI:l≠(s.heap.push { cls:=.type "set",dict:=none,data:=.set #[] 0 (.fresh 0 0 (yJ w)) }).objs.size:=by rw[sz];exact Nat.ne_of_lt (Nat.lt_succ_of_lt hlS)
    refine zy (led:=yJ w) hdec ((Walks.list (by simp[hh]) _ l hneI items).toS) s.heap.objs.size (by
     rw[sz]
     intro z
     rcases mem_cons.mp z with z|z
     ·exact absurd z (Nat.ne_of_lt (Nat.lt_succ_self _))
     ·exact absurd (mem_singleton.mp z) (Nat.ne_of_gt hlS)) val hi hb (items.size-0) 0 _ (by omega) (Nat.zero_le _) ⟨⟨_,get?_push_size _ rfl,rfl,rfl⟩,hl1.push _⟩ (Sh (get?_push_of_some _ hS)) λs' hm g'=>?_
    obtain⟨h',g1,d1,tk',os1⟩:=s'
    have eg:g1=s.gens:=hm.gens
    have ed:d1=s.drawn:=hm.drawn
    have eo:os1=s.os:=hm.os
    subst eg ed eo
    refine wpAny_pure ?_
    refine wpAny_pure ⟨rfl,h',tk',rfl,g',λb o hb e=>hm.heap b o (λz=>?_) (get?_push_of_some _ (get?_push_of_some _ e))⟩
    rcases mem_cons.mp z with z|z
    ·exact absurd z (Nat.ne_of_lt hb)
    ·have z:=mem_singleton.mp z
     rw[sz] at z
     exact absurd z (Nat.ne_of_lt (Nat.lt_succ_of_lt hb))
   ·cases r₂ with
    |error e=>exact hr₂
    |ok fl₂ =>
     cases fl₂ with
     |ret r =>
      obtain⟨rfl,h',tk,rfl,hS',hk'⟩:=hr₂
      repeat(any_goals (first|assumption|wp_step))
      exact h _ _ hS' hk'
     |_=>exact hr₂.elim
  |_=>exact hr.elim
end
set_option maxRecDepth 100000
theorem XS:Manifest.owners.lookup (String.ofList ['r','o','t','a','r','e','t','i','_','t','e','s'].reverse)=some Manifest.sig_set_iterator:=by kernel_rfl
theorem iK:Slot "set_iterator" "__next__" "set_iterator.__next__":=.of (owner:="set_iterator") (n:="__next__") (by rw[typeLookup_type,builtinLookup_eq_fast];kernel_rfl) (by decide +kernel) (by decide +kernel) (by decide +kernel) (by first|exact .inl (by decide +kernel)|exact .inr (by decide +kernel)) (by rw[isSubtype_type];kernel_rfl)
theorem zFd:entryFor table "set_iterator.__next__" = some Builtin.«set_iterator.__next__»:=entryFor_of_tree (by kernel_rfl)
theorem zGu(a:Value):argsOk "set_iterator.__next__" ⟨[a],[]⟩:=by unfold argsOk;rw[signature?_of (id:="set_iterator.__next__") (n:=['_','_','t','x','e','n','_','_']) (o:=['r','o','t','a','r','e','t','i','_','t','e','s']) (by kernel_rfl) XS];kernel_rfl
theorem X3:Slot "set_iterator" "__iter__" "set_iterator.__iter__":=.of (owner:="set_iterator") (n:="__iter__") (by rw[typeLookup_type,builtinLookup_eq_fast];kernel_rfl) (by decide +kernel) (by decide +kernel) (by decide +kernel) (by first|exact .inl (by decide +kernel)|exact .inr (by decide +kernel)) (by rw[isSubtype_type];kernel_rfl)
theorem zFe:entryFor table "set_iterator.__iter__" = some Builtin.«dict_keyiterator.__iter__»:=entryFor_alias (id':="dict_keyiterator.__iter__") (by kernel_rfl) rfl (by decide +kernel) (by kernel_rfl)
theorem zGv(a:Value):argsOk "set_iterator.__iter__" ⟨[a],[]⟩:=by unfold argsOk;rw[signature?_of (id:="set_iterator.__iter__") (n:=['_','_','r','e','t','i','_','_']) (o:=['r','o','t','a','r','e','t','i','_','t','e','s']) (by kernel_rfl) XS];kernel_rfl
theorem zEl:entryFor table "set.__iter__" = some Builtin.«frozenset.__iter__»:=entryFor_alias (id':="frozenset.__iter__") (by kernel_rfl) rfl (by decide +kernel) (by kernel_rfl)
set_option maxRecDepth 100000
section
variable{prog:Program}{w:World}{A:Around}{E:Value->Shared->Prop}{s:Shared}
theorem O7{α:Type}:∀{l:List α}{i:Nat}(h:i<l.length),(l[i]::l.eraseIdx i).Perm l
 |x::l,0,h=>.refl _
 |x::l,i+1,h=>by
  have hi:i<l.length:=by simpa using h
  have ih:=O7 (l:=l) (i:=i) hi
  show(l[i]::x::l.eraseIdx i).Perm (x::l)
  exact(Perm.swap _ _ _).trans (ih.cons x)
theorem zL1{Q:Nat->Shared->Prop}(hn:0<n)(h:∀i d,i<n->Q i { s with drawn:=d }):wpAny (model prog w) A (choose src n) Q E s :=
 λ_ _ _=>⟨Nat.ne_of_gt hn,h _ _ (Nat.mod_lt _ hn)⟩
theorem X4{α:Type}:∀(n:Nat)(xs:List α)(s:Shared)(Q:List α->Shared->Prop),xs.length=n->(∀ys d,ys.Perm xs->Q ys { s with drawn:=d })->wpAny (model prog w) A (drawOrder n xs) Q E s
 |0,xs,s,Q,hl,h=>by
  have e:xs=[]:=length_eq_zero_iff.mp hl
  subst e
  unfold drawOrder
  exact wpAny_pure (h [] s.drawn (.refl _))
 |n+1,[],s,Q,hl,h=>by simp at hl
 |n+1,x::xs,s,Q,hl,h=>by
  unfold drawOrder
  refine wpAny_bind (zL1 (by rw[hl];omega) λi d hi=>?_)
  have e:(x::xs)[i]?=some (x::xs)[i]:=List.getElem?_eq_getElem hi
  rw[e]
  refine wpAny_bind (X4 n _ _ _ (by rw[length_eraseIdx,if_pos hi,hl];rfl) λys d' p=>?_)
  exact wpAny_pure (h _ d' ((p.cons _).trans (O7 hi)))
theorem X5{α:Type}(next:Nat->Nat):∀(fuel k:Nat)(left:List α)(out:Array α),left.length=fuel->(pickOrder.go next fuel k left out).toList.Perm (out.toList++left)
 |0,k,left,out,hl=>by
  have e:left=[]:=length_eq_zero_iff.mp hl
  subst e
  unfold pickOrder.go
  rw[append_nil]
 |fuel+1,k,left,out,hl=>by
  have hi:next k%left.length<left.length:=Nat.mod_lt _ (by omega)
  unfold pickOrder.go
  rw[List.getElem?_eq_getElem hi]
  dsimp only
  refine(X5 next fuel (k+1) _ _ (by rw[length_eraseIdx,if_pos hi,hl];rfl)).trans ?_
  rw[Array.toList_push,List.append_assoc]
  exact Perm.append_left _ (O7 hi)
theorem Ja{α:Type}(next:Nat->Nat)(xs:Array α):(pickOrder next xs).toList.Perm xs.toList:=by
 have q:=X5 next xs.size 0 xs.toList #[] (by simp)
 have e:(#[]:Array α).toList++xs.toList=xs.toList:=rfl
 rw[e] at q
 exact q
variable{a it T:Addr}{o:Obj}{es:Array (Int×Value)}{ep:Nat}{t:SetTable}
theorem Jb{Q:Bool->Shared->Prop}(h:Q (w.params.followText "set-order") s):wpAny (model prog w) A setsByText Q E s:=by
 unfold setsByText
 exact wpAny_bind (wpAny_askSetting (wpAny_pure h))
theorem zRi{Q:Bool->Shared->Prop}(ho:s.heap.get? a=some o)(hd:o.data=.set es ep t)(hf:t.fits es.size=true)(h:Q (!w.params.followText "set-order" && (!t.plain&&decide (es.size > 1))) s):wpAny (model prog w) A (setDrawn a) Q E s:=by
 unfold setDrawn
 refine wpAny_bind (wpAny_setState_of ho hd hf ?_)
 exact wpAny_bind (Jb (wpAny_pure h))
theorem Sq{Q:Array (Int×Value)->Shared->Prop}(ho:s.heap.get? a=some o)(hd:o.data=.set es ep t)(hf:t.fits es.size=true)(h:Q es s):wpAny (model prog w) A (setEntries a) Q E s:=by
 unfold setEntries
 exact wpAny_bind (wpAny_setState_of ho hd hf (wpAny_pure h))
theorem X6{Q:Option (Value×Nat)->Shared->Prop}(ho:s.heap.get? a=some o)(hd:o.data=.set es ep t)(hf:t.fits es.size=true)(hb:w.params.followText "set-order" = true)(h:Q (((pickOrder (w.params.setOrder a ep) es)[i]?).map λe=>(e.2,slot)) s):wpAny (model prog w) A (setNext a slot i ep) Q E s:=by
 unfold setNext
 refine wpAny_bind (wpAny_setState_of ho hd hf ?_)
 refine wpAny_bind (Jb ?_)
 rw[hb]
 simp only[↓reduceIte,bne_self_eq_false,Bool.false_eq_true]
 refine wpAny_bind ?_
 unfold setWalk
 refine wpAny_bind (wpAny_setState_of ho hd hf ?_)
 refine wpAny_bind (Jb ?_)
 rw[hb]
 simp only[↓reduceIte]
 refine wpAny_bind (wpAny_askSetting (wpAny_pure ?_))
 exact wpAny_pure h
theorem X7{Q:Option (Value×Nat)->Shared->Prop}(ho:s.heap.get? a=some o)(hd:o.data=.set es ep t)(hf:t.fits es.size=true)(hb:w.params.followText "set-order" = false)(hl:t.led=true)(hn:(!t.plain&&decide (es.size > 1))=false)(h:Q (match es[SetTable.below t.place slot]?,t.place[SetTable.below t.place slot]? with|some (_,x),some j=>some (x,j+1)|_,_=>none) s):wpAny (model prog w) A (setNext a slot i ep) Q E s:=by
 unfold setNext
 refine wpAny_bind (wpAny_setState_of ho hd hf ?_)
 refine wpAny_bind (Jb ?_)
 rw[hb]
 simp only[↓reduceIte,Bool.false_eq_true]
 show wpAny _ _ (if(!t.plain&&decide (es.size > 1))=true then _ else _) _ _ _
 rw[if_neg (by rw[hn];exact Bool.false_ne_true)]
 refine wpAny_bind ?_
 show wpAny _ _ (if(!t.led&&!es.isEmpty)=true then _ else pure ()) _ _ _
 rw[if_neg (by rw[hl];exact Bool.false_ne_true)]
 exact wpAny_pure (wpAny_pure h)
theorem zLg{Q:Value->Shared->Prop}(ho:s.heap.get? a=some o)(hd:o.data=.set es ep t)(hf:t.fits es.size=true)(hx:es[place]?=some x)(h:Q x.2 s):wpAny (model prog w) A (setNextDrawn a place ep) Q E s:=by
 unfold setNextDrawn
 refine wpAny_bind (wpAny_setState_of ho hd hf ?_)
 simp only[bne_self_eq_false,Bool.false_eq_true,↓reduceIte,hx]
 exact wpAny_pure h
def lu(first:Value)(i:Nat)(a:Addr)(n ep:Nat):Obj:={ cls:=.type "set_iterator",data:=.fields #[first,.int i 0,.ref a,.int n 0,.int ep 0] }
theorem zQ3{Q:Value->Shared->Prop}(ho:s.heap.get? a=some o)(hx:o.ExactSet)(hd:o.data=.set es ep t)(hf:t.fits es.size=true)(h1:(!w.params.followText "set-order" && (!t.plain&&decide (es.size > 1)))=false->Q (.ref s.heap.objs.size) { s with heap:=s.heap.push (lu (.int 0 0) 0 a es.size ep) })(h2:(!w.params.followText "set-order" && (!t.plain&&decide (es.size > 1)))=true->es.size<=sizeLine/\∀(d:Drawn) (ps:List Nat),ps.Perm (List.range es.size)->Q (.ref (s.heap.objs.size+1)) { s with drawn:=d,heap:=(s.heap.push { cls:=.type "tuple",data:=.seq (ps.map λ(i:Nat)=>Value.int i 0).toArray }).push (lu (.ref s.heap.objs.size) 0 a es.size ep) }) :
  wpAny (model prog w) A (pyIter (.ref a)) Q E s:=by
 have hT:s.TypeIs (.ref a) "set":=⟨o,ho,hx.1⟩
 refine wpAny_pyIter_slot hT F.slot_set_iter (wpAny_call_entry F.slot_set_iter hT zEl ?_ (F.args_set_iter_1 _))
 unfold Builtin.«frozenset.__iter__»
 refine wpAny_bind (wpAny_pure ?_)
 refine wpAny_bind ?_
 unfold Builtin.Frozenset.sizeOf
 refine wpAny_bind (Sq ho hd hf (wpAny_pure ?_))
 refine wpAny_bind (zRi ho hd hf ?_)
 cases hc:(!w.params.followText "set-order" && (!t.plain&&decide (es.size > 1))) with
 |false =>
  simp only[Bool.false_eq_true,↓reduceIte]
  refine wpAny_bind (wpAny_pure ?_)
  refine wpAny_bind (wpAny_setEpoch_of ho hd hf ?_)
  exact wpAny_bind (wpAny_newObj_type (wpAny_pure ⟨_,rfl,"set_iterator",_,⟨_,get?_push_size _ rfl,rfl⟩,iK.lookup,h1 hc⟩))
 |true =>
  obtain⟨hz,h2⟩:=h2 hc
  simp only[↓reduceIte]
  refine wpAny_bind (X4 _ _ _ _ (by simp) λps d hp=>?_)
  refine wpAny_bind (wpAny_newTuple ?_ (by rw[length_map,hp.length_eq,length_range];exact hz))
  have ho':=get?_push_of_some ({ cls:=.type "tuple",data:=.seq (ps.map λ(i:Nat)=>rawInt i).toArray }:Obj) ho
  refine wpAny_bind (wpAny_setEpoch_of (s:={ s with drawn:=d,heap:=_ }) ho' hd hf ?_)
  refine wpAny_bind (wpAny_newObj_type (wpAny_pure ⟨_,rfl,"set_iterator",_,⟨_,get?_push_size _ rfl,rfl⟩,iK.lookup,?_⟩))
  have q:=h2 d ps hp
  have sz:(s.heap.push ({ cls:=.type "tuple",data:=.seq (ps.map λ(i:Nat)=>Value.int i 0).toArray }:Obj)).objs.size=s.heap.objs.size+1:=size_push ..
  rw[<-sz] at q
  exact q
end
set_option maxRecDepth 100000
section
variable{prog:Program}{w:World}{A:Around}{E:Value->Shared->Prop}{s:Shared}{a it T:Addr}{o:Obj}{es:Array (Int×Value)}{ep:Nat}{t:SetTable}{i:Nat}{first:Value}
theorem O8{Q:Option Value->Shared->Prop}(hi:s.heap.get? it=some (lu first i a es.size ep))(ho:s.heap.get? a=some o)(hd:o.data=.set es ep t)(hf:t.fits es.size=true)(h:wpAny (model prog w) A.in1 (if let .int slot _:=first then do
    match <-setNext a slot.toNat (i:Int).toNat (ep:Int).toNat with
    |some (x,next) =>
     setField (.ref it) 0 (rawInt next)
     setField (.ref it) 1 (rawInt ((i:Int)+1))
     ret x
    |none=>setField (.ref it) 2 .none;raiseNew (<-newExc (.type "StopIteration") [])
   else do
    let some places <-seqItems? first|unsupported "internal:set_iterator"
    match places[(i:Int).toNat]? with
    |some (.int place _) =>
     let x <-setNextDrawn a place.toNat (ep:Int).toNat
     setField (.ref it) 1 (rawInt ((i:Int)+1))
     ret x
    |some _=>unsupported "internal:set_iterator"
    |none=>setField (.ref it) 0 (rawInt 0);setField (.ref it) 2 .none;raiseNew (<-newExc (.type "StopIteration") []))
   (λfin s'=>∃v,fin=.done (.ret v)/\Q (some v) s')
   (λe s'=>s'.TypeIs e "StopIteration" /\ Q none s') s):wpAny (model prog w) A (pyNext (.ref it)) Q E s:=by
 have hT:s.TypeIs (.ref it) "set_iterator":=⟨_,hi,rfl⟩
 unfold pyNext
 refine wpAny_bind (wpAny_attempt (wpAny_callSpecial?_slot (name:=Str.ofString "__next__") hT iK (wpAny_call_entry iK hT zFd ?_ (zGu _))))
 unfold Builtin.«set_iterator.__next__»
 refine wpAny_bind (wpAny_pure ?_)
 refine wpAny_bind (wpAny_fieldsOf hi rfl ?_)
 dsimp only
 refine wpAny_bind (Sq ho hd hf ?_)
 rw[if_neg (by simp)]
 exact wpAny_mono h (λfin s' ⟨v,e,q⟩=>⟨v,e,wpAny_pure q⟩) λe s' ⟨ty,q⟩=>wpAny_bind (wpAny_isInstance (T:="StopIteration") (b:=true) ty isSubtype_stop (wpAny_pure q))
theorem X8{α:Type}{Q:α->Shared->Prop}{E':Value->Shared->Prop}(hh:A.handled=none)(h:∀(e:Value) (h':Heap),(∀b u,s.heap.get? b=some u->h'.get? b=some u)->({ s with heap:=h' }:Shared).TypeIs e "StopIteration"->E' e { s with heap:=h' }) :
  wpAny (model prog w) A (newExc (.type "StopIteration") [] >>= λe=>(raiseNew e:Sem α)) Q E' s:=by
 refine wpAny_bind ?_
 simp only[newExc,newTuple]
 refine wpAny_bind (wpAny_newObj_type (wpAny_bind (m:=firstArgMember _ _) (wpAny_of_eq (a:=Value.none) (by first|rfl|(simp only[firstArgMember];rfl)) (wpAny_newObj_type ?_ (by size_fits)))) (by size_fits))
 simp only[raiseNew]
 refine wpAny_bind (wpAny_handled ?_)
 rw[hh]
 refine wpAny_bind (wpAny_pure (wpAny_throw ?_))
 refine h _ _ (λb u e=>get?_push_of_some _ (get?_push_of_some _ e)) ?_
 exact⟨_,get?_push_size _ rfl,rfl⟩
theorem O9{f:Obj->Obj}(hi:s.heap.get? it=some u)(hn:(f u).isFreed=false):(s.heap.update it f).get? it=some (f u):=get?_update_self f hi hn
theorem Jc(hb:b≠it)(e:s.heap.get? b=some u):(s.heap.update it f).get? b=some u:=(get?_update_other _ _ (Ne.symm hb)).trans e
theorem X_{Q:Option Value->Shared->Prop}{slot next:Nat}{tk:Tok}{x:Value}(hi:s.heap.get? it=some (lu (.int slot tk) i a es.size ep))(ho:s.heap.get? a=some o)(hd:o.data=.set es ep t)(hf:t.fits es.size=true)(hs:∀(R:Option (Value×Nat)->Shared->Prop) (E':Value->Shared->Prop),R (some (x,next)) s->wpAny (model prog w) A.in1 (setNext a slot i ep) R E' s)(h:∀h',h'.get? it=some (lu (.int next 0) (i+1) a es.size ep)->(∀b u,b≠it->s.heap.get? b=some u->h'.get? b=some u)->Q (some x) { s with heap:=h' }):wpAny (model prog w) A (pyNext (.ref it)) Q E s:=by
 refine O8 hi ho hd hf ?_
 dsimp only
 refine wpAny_bind (hs _ _ ?_)
 dsimp only
 refine wpAny_bind (wpAny_setField hi rfl (by simp) ?_)
 have h1:=O9 (f:=Obj.mapFields (·.setIfInBounds 0 (rawInt next))) hi rfl
 refine wpAny_bind (wpAny_setField (s:={ s with heap:=_ }) h1 rfl (by simp) ?_)
 have h2:=O9 (s:={ s with heap:=_ }) (f:=Obj.mapFields (·.setIfInBounds 1 (rawInt ((i:Int)+1)))) h1 rfl
 exact wpAny_pure ⟨x,rfl,h _ h2 λb u hb e=>Jc (s:={ s with heap:=_ }) hb (Jc hb e)⟩
theorem Yb{Q:Option Value->Shared->Prop}{slot:Nat}{tk:Tok}(hh:A.handled=none)(hi:s.heap.get? it=some (lu (.int slot tk) i a es.size ep))(ho:s.heap.get? a=some o)(hd:o.data=.set es ep t)(hf:t.fits es.size=true)(hs:∀(R:Option (Value×Nat)->Shared->Prop) (E':Value->Shared->Prop),R none s->wpAny (model prog w) A.in1 (setNext a slot i ep) R E' s)(h:∀h',(∀b u,b≠it->s.heap.get? b=some u->h'.get? b=some u)->Q none { s with heap:=h' }):wpAny (model prog w) A (pyNext (.ref it)) Q E s:=by
 refine O8 hi ho hd hf ?_
 dsimp only
 refine wpAny_bind (hs _ _ ?_)
 dsimp only
 refine wpAny_bind (wpAny_setField hi rfl (by simp) ?_)
 exact X8 (s:={ s with heap:=_ }) (by simp[hh]) λe h' k ty=>⟨ty,h h' λb u hb e=>k b u (Jc hb e)⟩
theorem zLk{Q:Option Value->Shared->Prop}{ps:List Nat}(hi:s.heap.get? it=some (lu (.ref T) i a es.size ep))(ho:s.heap.get? a=some o)(hd:o.data=.set es ep t)(hf:t.fits es.size=true)(hT:s.heap.get? T=some { cls:=.type "tuple",data:=.seq (ps.map λ(i:Nat)=>Value.int i 0).toArray })(hp:ps[i]?=some place)(hx:es[place]?=some x)(h:∀h',h'.get? it=some (lu (.ref T) (i+1) a es.size ep)->(∀b u,b≠it->s.heap.get? b=some u->h'.get? b=some u)->Q (some x.2) { s with heap:=h' }):wpAny (model prog w) A (pyNext (.ref it)) Q E s:=by
 refine O8 hi ho hd hf ?_
 dsimp only
 refine wpAny_bind (wpAny_seqItems hT rfl ?_)
 have e:((ps.map λ(i:Nat)=>Value.int i 0).toArray)[(i:Int).toNat]?=some (.int (place:Nat) 0):=by
  rw[Int.toNat_natCast,getElem?_toArray,getElem?_map,hp]
  rfl
 dsimp only
 rw[e]
 dsimp only
 refine wpAny_bind (zLg ho hd hf (x:=x) (by rw[Int.toNat_natCast];exact hx) ?_)
 refine wpAny_bind (wpAny_setField hi rfl (by simp) ?_)
 have h1:=O9 (f:=Obj.mapFields (·.setIfInBounds 1 (rawInt ((i:Int)+1)))) hi rfl
 exact wpAny_pure ⟨x.2,rfl,h _ h1 λb u hb e=>Jc hb e⟩
theorem zO6{Q:Option Value->Shared->Prop}{ps:List Nat}(hh:A.handled=none)(hi:s.heap.get? it=some (lu (.ref T) i a es.size ep))(ho:s.heap.get? a=some o)(hd:o.data=.set es ep t)(hf:t.fits es.size=true)(hT:s.heap.get? T=some { cls:=.type "tuple",data:=.seq (ps.map λ(i:Nat)=>Value.int i 0).toArray })(hp:ps[i]?=none)(h:∀h',(∀b u,b≠it->s.heap.get? b=some u->h'.get? b=some u)->Q none { s with heap:=h' }):wpAny (model prog w) A (pyNext (.ref it)) Q E s:=by
 refine O8 hi ho hd hf ?_
 dsimp only
 refine wpAny_bind (wpAny_seqItems hT rfl ?_)
 have e:((ps.map λ(i:Nat)=>Value.int i 0).toArray)[(i:Int).toNat]?=none:=by
  rw[Int.toNat_natCast,getElem?_toArray,getElem?_map,hp]
  rfl
 dsimp only
 rw[e]
 dsimp only
 refine wpAny_bind (wpAny_setField hi rfl (by simp) ?_)
 have h1:=O9 (f:=Obj.mapFields (·.setIfInBounds 0 (rawInt 0))) hi rfl
 refine wpAny_bind (wpAny_setField (s:={ s with heap:=_ }) h1 rfl (by simp) ?_)
 exact X8 (s:={ s with heap:=_ }) (by simp[hh]) λe h' k ty=>⟨ty,h h' λb u hb e=>k b u (Jc (s:={ s with heap:=_ }) hb (Jc hb e))⟩
end
set_option maxRecDepth 100000
section
variable{prog:Program}{w:World}{A:Around}{E:Value->Shared->Prop}{s:Shared}{a it T:Addr}{o:Obj}{es:Array (Int×Value)}{ep:Nat}{t:SetTable}
theorem Ss{Q:Value->Shared->Prop}(hi:s.heap.get? it=some (lu first i a n ep))(h:Q (.ref it) s):wpAny (model prog w) A (pyIter (.ref it)) Q E s:=by
 have hT:s.TypeIs (.ref it) "set_iterator":=⟨_,hi,rfl⟩
 refine wpAny_pyIter_slot hT X3 (wpAny_call_entry X3 hT zFe ?_ (zGv _))
 refine wpAny_bind (wpAny_pure ?_)
 exact wpAny_pure ⟨_,rfl,"set_iterator",_,hT,iK.lookup,h⟩
theorem K5(hf:t.fits es.size=true):t.place.size=es.size:=by
 unfold fits at hf
 rw[Bool.and_eq_true] at hf
 exact eq_of_beq hf.1
theorem zLz(hr:Rz xs):SetTable.below xs 0=0:=by
 obtain⟨b1,b2,b3⟩:=R7 hr 0
 cases e:SetTable.below xs 0 with
 |zero=>rfl
 |succ k =>
  rw[e] at b1 b2
  have h0:0<xs.size:=by omega
  exact absurd (b2 0 _ (Nat.succ_pos k) (Array.getElem?_eq_getElem h0)) (Nat.not_lt_zero _)
theorem zL0(hr:Rz xs)(h:xs[i]?=some j):SetTable.below xs (j+1)=i+1:=by
 obtain⟨b1,b2,b3⟩:=R7 hr (j+1)
 generalize SetTable.below xs (j+1)=p at *
 have hi:i<xs.size:=by
  by_cases z:i<xs.size
  ·exact z
  ·rw[Array.getElem?_eq_none (by omega)] at h;cases h
 have h1:i<p:=by
  by_cases z:i<p
  ·exact z
  ·have:=b3 i j (by omega) h;omega
 by_cases z:p=i+1
 ·exact z
 ·have hp:i+1<xs.size:=by omega
  have q1:=b2 (i+1) _ (by omega) (Array.getElem?_eq_getElem hp)
  have q2:=hr i (i+1) j _ (by omega) h (Array.getElem?_eq_getElem hp)
  omega
theorem zQb{xs:Array Nat}(h:xs.size<=1):Rz xs:=λi k a b hik ha hb=>by
 rw[Array.getElem?_eq_none (by omega)] at hb
 cases hb
theorem zKu(hh:A.handled=none)(hne:a≠it)(hd:o.data=.set es ep t)(hf:t.fits es.size=true)(hb:w.params.followText "set-order" = false)(hl:t.led=true)(hn:(!t.plain&&decide (es.size > 1))=false)(hr:Rz t.place) :
  Walks prog w A it [it,a] [it] es.size (λi v=>(es.toList.map (·.2))[i]?=some v) (λi h=>h.get? a=some o/\∃(slot:Nat)(tk:Tok),h.get? it=some (lu (.int slot tk) i a es.size ep)/\SetTable.below t.place slot=i) where
 sub:=λb hb=>by simp at hb;simp[hb]
 frame:=λi h h' ⟨h1,slot,tk,h2,h3⟩ k=>⟨k a (by simp) _ h1,slot,tk,k it (by simp) _ h2,h3⟩
 item:=λi s Q E hi ⟨h1,slot,tk,h2,h3⟩ hQ=>by
  have hp:i<t.place.size:=by rw[K5 hf];exact hi
  refine X_ (x:=es[i].2) (next:=t.place[i]+1) h2 h1 hd hf (λR E' hR=>X7 h1 hd hf hb hl hn ?_) λh' hi' k=>?_
  ·rw[h3,Array.getElem?_eq_getElem hi,Array.getElem?_eq_getElem hp]
   exact hR
  ·refine hQ _ h' s.toks (by simp[hi]) ⟨k a o hne h1,_,_,hi',zL0 hr (Array.getElem?_eq_getElem hp)⟩ λb u hb e=>k b u (λz=>hb (by simp[z])) e
 done:=λs Q E ⟨h1,slot,tk,h2,h3⟩ hQ=>by
  refine Yb hh h2 h1 hd hf (λR E' hR=>X7 h1 hd hf hb hl hn ?_) λh' k=>hQ h' s.toks λb u hb e=>k b u (λz=>hb (by simp[z])) e
  rw[h3,Array.getElem?_eq_none (Nat.le_refl _)]
  exact hR
 self:=λi s Q E ⟨h1,slot,tk,h2,h3⟩ hQ=>Ss h2 hQ
theorem zL4(hh:A.handled=none)(hne:a≠it)(hd:o.data=.set es ep t)(hf:t.fits es.size=true)(hb:w.params.followText "set-order" = true) :
  Walks prog w A it [it,a] [it] es.size (λi v=>((pickOrder (w.params.setOrder a ep) es).toList.map (·.2))[i]?=some v) (λi h=>h.get? a=some o/\∃(slot:Nat)(tk:Tok),h.get? it=some (lu (.int slot tk) i a es.size ep)) where
 sub:=λb hb=>by simp at hb;simp[hb]
 frame:=λi h h' ⟨h1,slot,tk,h2⟩ k=>⟨k a (by simp) _ h1,slot,tk,k it (by simp) _ h2⟩
 item:=λi s Q E hi ⟨h1,slot,tk,h2⟩ hQ=>by
  have hz:i<(pickOrder (w.params.setOrder a ep) es).size:=by rw[<-length_toList,(Ja _ es).length_eq,length_toList];exact hi
  refine X_ (x:=(pickOrder (w.params.setOrder a ep) es)[i].2) (next:=slot) h2 h1 hd hf (λR E' hR=>X6 h1 hd hf hb ?_) λh' hi' k=>?_
  ·rw[Array.getElem?_eq_getElem hz]
   exact hR
  ·refine hQ _ h' s.toks (by simp[hz]) ⟨k a o hne h1,_,_,hi'⟩ λb u hb e=>k b u (λz=>hb (by simp[z])) e
 done:=λs Q E ⟨h1,slot,tk,h2⟩ hQ=>by
  have hz:(pickOrder (w.params.setOrder a ep) es).size=es.size:=by rw[<-length_toList,(Ja _ es).length_eq,length_toList]
  refine Yb hh h2 h1 hd hf (λR E' hR=>X6 h1 hd hf hb ?_) λh' k=>hQ h' s.toks λb u hb e=>k b u (λz=>hb (by simp[z])) e
  rw[Array.getElem?_eq_none (by rw[hz];exact Nat.le_refl _)]
  exact hR
 self:=λi s Q E ⟨h1,slot,tk,h2⟩ hQ=>Ss h2 hQ
theorem zKv{ps:List Nat}(hh:A.handled=none)(hne:a≠it)(hnT:T≠it)(hd:o.data=.set es ep t)(hf:t.fits es.size=true)(hp:ps.Perm (List.range es.size)) :
  Walks prog w A it [it,a,T] [it] es.size (λi v=>(ps.map λp=>((es[p]?).map (·.2)).getD .none)[i]?=some v)
   (λi h=>h.get? a=some o/\h.get? T=some { cls:=.type "tuple",data:=.seq (ps.map λ(i:Nat)=>Value.int i 0).toArray }/\h.get? it=some (lu (.ref T) i a es.size ep)) where
 sub:=λb hb=>by simp at hb;simp[hb]
 frame:=λi h h' ⟨h1,h2,h3⟩ k=>⟨k a (by simp) _ h1,k T (by simp) _ h2,k it (by simp) _ h3⟩
 item:=λi s Q E hi ⟨h1,h2,h3⟩ hQ=>by
  have hl:ps.length=es.size:=by rw[hp.length_eq,length_range]
  have hi':i<ps.length:=by omega
  have hm:ps[i]<es.size:=mem_range.mp (hp.mem_iff.mp (getElem_mem hi'))
  refine zLk (place:=ps[i]) (x:=es[ps[i]]) h3 h1 hd hf h2 (List.getElem?_eq_getElem hi') (Array.getElem?_eq_getElem hm) λh' hi' k=>?_
  refine hQ _ h' s.toks ?_ ⟨k a o hne h1,k T _ hnT h2,hi'⟩ λb u hb e=>k b u (λz=>hb (by simp[z])) e
  rw[getElem?_map,List.getElem?_eq_getElem (by omega),Option.map_some,Array.getElem?_eq_getElem hm]
  rfl
 done:=λs Q E ⟨h1,h2,h3⟩ hQ=>by
  have hl:ps.length=es.size:=by rw[hp.length_eq,length_range]
  exact zO6 hh h3 h1 hd hf h2 (List.getElem?_eq_none (by omega)) λh' k=>hQ h' s.toks λb u hb e=>k b u (λz=>hb (by simp[z])) e
 self:=λi s Q E ⟨h1,h2,h3⟩ hQ=>Ss h3 hQ
end
set_option maxRecDepth 100000
section
variable{prog:Program}{w:World}{A:Around}{E:Value->Shared->Prop}{s:Shared}{a it T:Addr}{o:Obj}{es:Array (Int×Value)}{ep:Nat}{t:SetTable}
theorem zQ5{Q:Bool->Shared->Prop}(hT:s.TypeIs (.ref a) "set")(h:Q false s):wpAny (model prog w) A (Builtin.List.listLengthHint (.ref a)) Q E s:=by
 unfold Builtin.List.listLengthHint
 refine wpAny_bind (wpAny_specialOf hT F.slot_set_len.lookup ?_)
 generalize hid:("set.__len__":String)=id0
 wp_delta
 rw[show splitId id0=some ("set","__len__") from by subst hid;decide +kernel]
 subst hid
 refine wpAny_bind (wpAny_isInstance (T:="set") (b:=true) hT sub_set_self (wpAny_ite_split (λhab=>absurd hab (by decide)) λ_=>wpAny_ite_split (λ_=>wpAny_bind (wpAny_typeOf hT (wpAny_pure h))) λhab=>absurd (by decide +kernel) hab))
theorem Yc{R:Result->Shared->Prop}{P:Nat->Value->Prop}{St:Nat->Heap->Prop}(W:Walks prog w A.in1 it fp [it] n P St)(hn:n<=sizeLine)(off:S∉fp)(st:St 0 s.heap)(hS:s.heap.get? S=some { cls:=.type "list",data:=.seq #[] c₁ })(hR:∀h' tk acc c',(∀b u,b≠S->b≠it->s.heap.get? b=some u->h'.get? b=some u)->h'.get? S=some { cls:=.type "list",dict:=none,data:=.seq acc c',slots:=#[] }->ItemsOf P acc n->R (.ok (.ret res)) { s with heap:=h',toks:=tk }) :
  codeAny (model prog w) A (.builtin "list.extend.loop" ⟨[.ref S,.ref it,res],[]⟩) R s:=by
 refine codeAny_extend_loopS W.toS hn S off res n 0 _ #[] c₁ rfl (Nat.zero_le _) st hS (ItemsOf.nil _) λs' acc c' hm hS' hacc=>?_
 rw[Moved.eq_with hm]
 refine hR s'.heap s'.toks acc c' (λb u h1 h2 e=>hm.heap b u (λz=>?_) e) hS' hacc
 rcases mem_cons.mp z with z|z
 ·exact h1 z
 ·exact h2 (mem_singleton.mp z)
theorem Sv{R:Result->Shared->Prop}{P:Nat->Value->Prop}{St:Nat->Heap->Prop}(W:Walks prog w A.in1 it fp [it] n P St)(hn:n<=sizeLine)(off:S∉fp)(hT:s.TypeIs (.ref a) "set")(st:St 0 s.heap)(hS:s.heap.get? S=some { cls:=.type "list",data:=.seq #[] c₀ })(hR:∀h' tk acc c',(∀b u,b≠S->b≠it->s.heap.get? b=some u->h'.get? b=some u)->h'.get? S=some { cls:=.type "list",dict:=none,data:=.seq acc c',slots:=#[] }->ItemsOf P acc n->R (.ok (.ret res)) { s with heap:=h',toks:=tk }) :
  wpAny (model prog w) A.in1 (holding [.ref it] (Builtin.List.listLengthHint (.ref a)) >>= λroom=>if(room||b)=true then(rule "list.extend.makes-room" >>= λ_=>Builtin.List.listTouch (.ref S) >>= λ_=>again (.builtin "list.extend.loop" ⟨[.ref S,.ref it,res],[]⟩)) else again (.builtin "list.extend.loop" ⟨[.ref S,.ref it,res],[]⟩))
   (λfin s'=>match fin with|.done f=>R (.ok f) s'|.again c'=>c'.quiet=true/\codeAny (model prog w) A c' R s') (λe s'=>R (.error e) s') s:=by
 refine wpAny_bind (wpAny_holding (zQ5 hT ?_))
 refine wpAny_ite_split (λ_=>?_) λ_=>wpAny_pure ⟨plainId_quiet F.plain_extend_loop _,Yc W hn off st hS hR⟩
 refine wpAny_bind (wpAny_rule ?_)
 refine wpAny_bind ?_
 show wpAny _ _ (updateSeq S (·.push .none) >>= λ_=>updateSeq S (·.pop)) _ _ _
 refine wpAny_bind (wpAny_updateSeq hS rfl ?_)
 have hS2:=get?_update_self (Obj.mapSeq (·.push Value.none)) hS rfl
 refine wpAny_updateSeq (hz:=by seq_fits) hS2 rfl ?_
 have hS3:=get?_update_self (Obj.mapSeq (·.pop)) hS2 rfl
 have keep:∀c u,c≠S->s.heap.get? c=some u->((s.heap.update S (Obj.mapSeq (·.push Value.none))).update S (Obj.mapSeq (·.pop))).get? c=some u:=λc u hc e=>(get?_update_other _ _ (Ne.symm hc)).trans ((get?_update_other _ _ (Ne.symm hc)).trans e)
 refine wpAny_pure ⟨plainId_quiet F.plain_extend_loop _,Yc (s:={ s with heap:=_ }) W hn off (W.frame 0 _ _ st λc hc u e=>keep c u (λz=>off (z▸hc)) e) hS3 λh' tk acc c' k h1 h2=>hR h' tk acc c' (λc u n1 n2 e=>k c u n1 n2 (keep c u n1 e)) h1 h2⟩
theorem Sw(h:ItemsOf (λi v=>ord[i]?=some v) acc n)(hl:ord.length=n):acc.toList=ord:=by
 apply ext_getElem?
 intro i
 rw[getElem?_toList]
 by_cases hi:i<acc.size
 ·rw[Array.getElem?_eq_getElem hi]
  exact(h.2 i _ (Array.getElem?_eq_getElem hi)).symm
 ·rw[Array.getElem?_eq_none (by omega),List.getElem?_eq_none (by rw[hl,<-h.1];omega)]
theorem zK8(es:Array (Int×Value)):(List.range es.size).map (λp=>((es[p]?).map (·.2)).getD Value.none)=es.toList.map (·.2):=by
 apply List.ext_getElem (by simp)
 intro i h1 h2
 have hi:i<es.size:=by simpa using h1
 simp[hi]
theorem zLr{R:Result->Shared->Prop}(hh:A.handled=none)(ho:s.heap.get? a=some o)(hx:o.ExactSet)(hd:o.data=.set es ep t)(hf:t.fits es.size=true)(tb:Tb (yJ w) t)(hz:es.size<=sizeLine)(SJ:S≠a)(hS:s.heap.get? S=some { cls:=.type "list",data:=.seq #[] c₀ })(hR:∀h' tk d acc c',(∀b u,b≠S->s.heap.get? b=some u->h'.get? b=some u)->h'.get? S=some { cls:=.type "list",dict:=none,data:=.seq acc c',slots:=#[] }->acc.toList.Perm (es.toList.map (·.2))->R (.ok (.ret res)) { s with heap:=h',toks:=tk,drawn:=d }) :
  wpAny (model prog w) A.in1 (Builtin.List.listExtendWith (.ref S) (.ref a) res)
   (λfin s'=>match fin with|.done f=>R (.ok f) s'|.again c'=>c'.quiet=true/\codeAny (model prog w) A c' R s') (λe s'=>R (.error e) s') s:=by
 have hT:s.TypeIs (.ref a) "set":=⟨o,ho,hx.1⟩
 have lta:a<s.heap.objs.size:=lt_size ho
 have ltS:S<s.heap.objs.size:=lt_size hS
 have hi:A.in1.handled=none:=by simp[hh]
 unfold Builtin.List.listExtendWith
 refine wpAny_bind (wpAny_typeOf hT ?_)
 have h1:Builtin.List.listSameRef (.ref S) (.ref a)=false:=by simp[Builtin.List.listSameRef,SJ]
 simp only[h1,show(Value.type "set" == Value.type "list")=false by decide,show(Value.type "set" == Value.type "tuple")=false by decide,Bool.or_false,Bool.false_eq_true,if_false]
 have old:∀{b:Addr}{u:Obj}{n:Nat},s.heap.get? b=some u->s.heap.objs.size<=n->b≠n:=λe hn z=>absurd (lt_size e) (by rw[z];exact Nat.not_lt_of_le hn)
 refine wpAny_bind (zQ3 ho hx hd hf (λhc=>?_) λhc=>⟨hz,λd ps hp=>?_⟩)
 ·have hS':=get?_push_of_some (lu (.int 0 0) 0 a es.size ep) hS
  have ho':=get?_push_of_some (lu (.int 0 0) 0 a es.size ep) ho
  have hI:(s.heap.push (lu (.int 0 0) 0 a es.size ep)).get? s.heap.objs.size=some (lu (.int 0 0) 0 a es.size ep):=get?_push_size _ rfl
  have off:S∉[s.heap.objs.size,a]:=λz=>by
   rcases mem_cons.mp z with z|z
   ·exact old hS (Nat.le_refl _) z
   ·exact SJ (mem_singleton.mp z)
  have hne:a≠s.heap.objs.size:=old ho (Nat.le_refl _)
  cases hb:w.params.followText "set-order" with
  |true =>
   refine Sv (s:={ s with heap:=_ }) (zL4 hi hne hd hf hb) hz off ⟨o,ho',hx.1⟩ ⟨ho',0,0,hI⟩ hS' λh' tk acc c' k h2 h3=>?_
   refine hR h' tk s.drawn acc c' (λb u n e=>k b u n (old e (Nat.le_refl _)) (get?_push_of_some _ e)) h2 ?_
   rw[Sw h3 (by rw[length_map,(Ja _ es).length_eq,length_toList])]
   exact(Ja _ es).map _
  |false =>
   have hl:t.led=true:=by rw[tb.led];unfold yJ;rw[hb];rfl
   have hn:(!t.plain&&decide (es.size > 1))=false:=by rw[hb] at hc;exact hc
   have hr:Rz t.place:=by
    cases hp:t.plain with
    |true=>exact tb.rz hp
    |false =>
     rw[hp] at hn
     refine zQb ?_
     rw[K5 hf]
     have:¬es.size > 1:=of_decide_eq_false (by simpa using hn)
     omega
   refine Sv (s:={ s with heap:=_ }) (zKu hi hne hd hf hb hl hn hr) hz off ⟨o,ho',hx.1⟩ ⟨ho',0,0,hI,zLz hr⟩ hS' λh' tk acc c' k h2 h3=>?_
   refine hR h' tk s.drawn acc c' (λb u n e=>k b u n (old e (Nat.le_refl _)) (get?_push_of_some _ e)) h2 ?_
   rw[Sw h3 (by rw[length_map,length_toList])]
 ·have e0:∀{b:Addr}{u:Obj},s.heap.get? b=some u->((s.heap.push { cls:=.type "tuple",data:=.seq (ps.map λ(i:Nat)=>Value.int i 0).toArray }).push (lu (.ref s.heap.objs.size) 0 a es.size ep)).get? b=some u:=λe=>get?_push_of_some _ (get?_push_of_some _ e)
  have sz:(s.heap.push ({ cls:=.type "tuple",data:=.seq (ps.map λ(i:Nat)=>Value.int i 0).toArray }:Obj)).objs.size=s.heap.objs.size+1:=size_push ..
  have hI:((s.heap.push { cls:=.type "tuple",data:=.seq (ps.map λ(i:Nat)=>Value.int i 0).toArray }).push (lu (.ref s.heap.objs.size) 0 a es.size ep)).get? (s.heap.objs.size+1)=some (lu (.ref s.heap.objs.size) 0 a es.size ep):=by
   rw[<-sz];exact get?_push_size _ rfl
  have hTT:((s.heap.push { cls:=.type "tuple",data:=.seq (ps.map λ(i:Nat)=>Value.int i 0).toArray }).push (lu (.ref s.heap.objs.size) 0 a es.size ep)).get? s.heap.objs.size=some { cls:=.type "tuple",data:=.seq (ps.map λ(i:Nat)=>Value.int i 0).toArray }:=get?_push_of_some _ (get?_push_size _ rfl)
  have off:S∉[s.heap.objs.size+1,a,s.heap.objs.size]:=λz=>by
   rcases mem_cons.mp z with z|z
   ·exact old hS (Nat.le_succ _) z
   ·rcases mem_cons.mp z with z|z
    ·exact SJ z
    ·exact old hS (Nat.le_refl _) (mem_singleton.mp z)
  refine Sv (s:={ s with drawn:=d,heap:=_ }) (zKv hi (old ho (Nat.le_succ _)) (Nat.ne_of_lt (Nat.lt_succ_self _)) hd hf hp) hz off ⟨o,e0 ho,hx.1⟩ ⟨e0 ho,hTT,hI⟩ (e0 hS) λh' tk acc c' k h2 h3=>?_
  refine hR h' tk d acc c' (λb u n e=>k b u n (old e (Nat.le_succ _)) (e0 e)) h2 ?_
  rw[Sw h3 (by rw[length_map,hp.length_eq,length_range])]
  have e1:=zK8 es
  rw[<-e1]
  exact hp.map _
theorem Yd{R:List Value->Shared->Prop}(hh:A.handled=none)(ho:s.heap.get? a=some o)(hx:o.ExactSet)(hd:o.data=.set es ep t)(hf:t.fits es.size=true)(tb:Tb (yJ w) t)(hz:es.size<=sizeLine)(h:∀h' tk d (acc:List Value),(∀b u,s.heap.get? b=some u->h'.get? b=some u)->acc.Perm (es.toList.map (·.2))->R acc { s with heap:=h',toks:=tk,drawn:=d }) :
  wpAny (model prog w) A (collect (.ref a)) R E s:=by
 have lt:a<s.heap.objs.size:=lt_size ho
 unfold collect
 refine wpAny_bind (wpAny_runValue (codeAny_builtin entry_proto_collect' ?_))
 rw[Around.under_plainId F.plain_proto_collect _]
 refine wpAny_bind (m:=newList []) (wpAny_newObj_type (wpAny_pure ⟨plainId_quiet F.plain_list_iadd _,codeAny_builtin entry_list_iadd' ?_⟩))
 rw[Around.under_plainId F.plain_list_iadd _]
 have hS:(s.heap.push { cls:=.type "list",data:=.seq ([]:List Value).toArray }).get? s.heap.objs.size=some { cls:=.type "list",data:=.seq #[] }:=get?_push_size _ rfl
 have key:=zLr (prog:=prog) (A:=A) (S:=s.heap.objs.size) (res:=.ref s.heap.objs.size) (s:={ s with heap:=s.heap.push { cls:=.type "list",data:=.seq ([]:List Value).toArray } })
  (R:=λ(q:Result) (s':Shared)=>∃(h':Heap)(tk:Nat)(d:Drawn)(acc:Array Value)(c':Nat),q=.ok (.ret (.ref s.heap.objs.size))/\s'={ s with heap:=h',toks:=tk,drawn:=d }/\(∀b u,s.heap.get? b=some u->h'.get? b=some u) /\
   h'.get? s.heap.objs.size=some { cls:=.type "list",dict:=none,data:=.seq acc c',slots:=#[] }/\acc.toList.Perm (es.toList.map (·.2)))
  hh (get?_push_of_some _ ho) hx hd hf tb hz (Nat.ne_of_gt lt) hS λh' tk d acc c' k h1 h2=>⟨h',tk,d,acc,c',rfl,rfl,λb u e=>k b u (Nat.ne_of_lt (lt_size e)) (get?_push_of_some _ e),h1,h2⟩
 refine wpAny_mono key (λfin s' x=>?_) λe s' x=>?_
 ·cases fin with
  |done f =>
   obtain⟨h',tk,d,acc,c',e,rfl,k,h1,h2⟩:=x
   cases e
   refine wpAny_bind (m:=load s.heap.objs.size) (wpAny_load h1 ?_)
   exact wpAny_pure (h h' tk d acc.toList k h2)
  |again c1 =>
   refine⟨x.1,codeAny_mono x.2 λq s2 y=>?_⟩
   obtain⟨h',tk,d,acc,c',rfl,rfl,k,h1,h2⟩:=y
   refine wpAny_bind (m:=load s.heap.objs.size) (wpAny_load h1 ?_)
   exact wpAny_pure (h h' tk d acc.toList k h2)
 ·obtain⟨_,_,_,_,_,e',_⟩:=x
  cases e'
end
end jQ
namespace L2
open PySem PySem.Spec PyProof.Rows jQ
def ni:Value->Int
 |.int k _=>k
 |_=>0
theorem Ye:∀k v,(intKind P w).is k v=true->ni v=k:=λk v h=>by
 obtain⟨t,rfl⟩:=Value.isInt_shape h
 rfl
theorem Inv.drew(I:Inv X pins σ H s)(d:Drawn):Inv X pins σ H { s with drawn:=d }:=⟨I.ok,I.os,I.bare,I.base,I.loc,I.cell,I.free,I.fG,I.pin,I.hok,I.len⟩
abbrev K6:=St->Hp->(LI->Hp->Prop)->Prop
def StP(X:Cx)(pins:List (Addr×Obj))(σ:St)(Q:LI->Hp->Prop)(v:Value)(s':Shared):Prop :=
 ∃(a:Addr)(ks:LI)(H':Hp),v=.ref a/\Inv X pins σ H' s'/\Good (intKind X.prog X.w) ni (yJ X.w) s'.heap a ks/\jj X pins H' a/\Q ks H'
def K7(X:Cx)(e:Expr)(t:K6):Prop:=∀(pins:List (Addr×Obj))(s:Shared)(σ:St)(H:Hp)(Q:LI->Hp->Prop),Inv X pins σ H s->t σ H Q->wpAny (model X.prog X.w) X.A (eval e X.env) (StP X pins σ Q) X.xe s
section
variable{X:Cx}
theorem Yg:∀{ns:LI}{its:List Value},IntsAre its ns->∀{i:Nat}{v:Value},its[i]?=some v->∃t,v=.int (ns.getD i 0) t
 |_,_,.nil,i,v,h=>by simp at h
 |_,_,.cons n t r,0,v,h=>by simp at h;subst h;exact⟨t,rfl⟩
 |_,_,.cons n t r,i+1,v,h=>by
  obtain⟨t',e⟩:=Yg r (by simpa using h)
  exact⟨t',e⟩
theorem Yh:∀{ns:LI}{its:List Value},IntsAre its ns->its.length=ns.length
 |_,_,.nil=>rfl
 |_,_,.cons n t r=>congrArg (· + 1) (Yh r)
def O_(K:PySem.W.Frag)(te:TE):K6:=λσ H Q=>xQ te bD σ H λvs H1=>∃(p:Addr)(ns:LI),vs=[.ref p]/\aZ K H1 p (ns.map V.int)/\ns.length<4000/\∀ks:LI,ks.Nodup->(∀z,z∈ks↔z∈ns)->Q ks H1
theorem Yi:bootBuiltins "set" = some (.type "set"):=by decide +kernel
theorem SM(K:PySem.W.Frag)(hc:X.calm=true)(hm:X.mg "set" = none)(he:PE X e te)(hK:X.K=K:=by rfl)(hg:Gl X "set":=by rfl)(hs:starEach [e] X.env=[(false,eval e X.env)]:=by rfl):K7 X (.Call (.Name "set" p) [e] [] pos) (O_ K te):=by
 subst hK
 intro pins s σ H Q I h
 refine wpAny_Call_Name_kw (rB I hg hm Yi ?_)
 have ha:PA X [e] (xQ te bD):=zA he zD hs
 refine PyProof.Rows.callWith_type1 (aO (ha pos pins s σ H _ I h) λus s1 ⟨vs,H1,I1,r1,q1⟩=>?_) hs rfl
 obtain⟨l,ns,e1,hq,h4,q⟩:=q1
 subst e1
 cases r1 with
 |cons r rr =>
  cases rr
  cases r
  obtain⟨its,rv,pl,hz⟩:=I1.list hq
  have hi:IntsAre its ns:=Oz rv
  have hl:=Yh hi
  refine XR (knd:=intKind X.prog X.w) (dec:=ni) Ye (λi=>ns.getD i 0) (I1.ok.hd hc) pl.isList (λi v hv=>?_) (by rw[size_toArray,hl];show ns.length+1<4096;omega) λh' tk g k=>?_
  ·obtain⟨t,rfl⟩:=Yg hi (by rw[getElem?_toArray] at hv;exact hv)
   exact⟨intKind_is _ _ _ _,rfl⟩
  ·have I2:=I1.kept (h':=h') (t':=tk) λb o e=>k b o (lt_size e) e
   obtain⟨_,_,_,_,_,_,_,_,_,nd,_⟩:=id g
   refine⟨_,_,H1,rfl,I2,g,I1.lq (Nat.le_refl _) (I1.hok.fresh (Nat.le_refl _)),q _ nd λz=>?_⟩
   rw[Sd,size_toArray,hl]
   constructor
   ·rintro⟨j,hj,rfl⟩
    rw[getD_eq_getElem?_getD,List.getElem?_eq_getElem hj]
    exact getElem_mem hj
   ·intro hz
    obtain⟨j,hj,e⟩:=getElem_of_mem hz
    exact⟨j,hj,by rw[getD_eq_getElem?_getD,List.getElem?_eq_getElem hj];exact e⟩
def SN(ts:K6):TE:=λσ H Q=>ts σ H λks H1=>ks.length<64/\∀(l:Addr)(ms:LI),H1 l=none->ms.Perm ks->ms.Pairwise (· <= ·)->Q (.ref l) (upd H1 l (.lst (ms.map V.int)))
theorem Yj:∀{vs:List Value},(∀v∈vs,∃k,(intKind P w).is k v=true)->IntsAre vs (vs.map ni)
 |[],_=>.nil
 |v::vs,h=>by
  obtain⟨k,hk⟩:=h v mem_cons_self
  obtain⟨t,rfl⟩:=Value.isInt_shape hk
  exact .cons k t (Yj (P:=P) (w:=w) λu hu=>h u (mem_cons_of_mem _ hu))
theorem zP7(hc:X.calm=true)(I:Inv X pins σ H s)(g:Good (intKind X.prog X.w) ni (yJ X.w) s.heap a ks)(h64:ks.length<64)(q:∀(l:Addr) (ms:LI),H l=none->ms.Perm ks->ms.Pairwise (· <= ·)->Q (.ref l) (upd H l (.lst (ms.map V.int)))):wpAny (model X.prog X.w) X.A (call (.builtin "sorted") [.ref a]) (EP X pins σ Q) X.xe s:=by
 obtain⟨o,es,ep,t,ho,hx,hd,hel,hp,nd,hb,hf,tb⟩:=g
 have hsz:es.size=ks.length:=by rw[<-hp.length_eq,length_map,length_toList]
 refine PySem.Calls.call_function_entry kind_sorted plain_sorted entry_sorted (args_sorted1 _) ?_
 unfold Builtin.«sorted»
 refine wpAny_bind (m:=checkCount "sorted" 1 1 _) (wpAny_pure ?_)
 refine wpAny_bind (Yd (A:=X.A.in1) (I.ok.hd hc) ho hx hd hf tb (fits_of_scanBound hb) λh' tk d acc hkeep hacc=>?_)
 have I':Inv X pins σ H { s with heap:=h',toks:=tk,drawn:=d }:=(I.kept (h':=h') (t':=tk) hkeep).drew d
 have hI:IntsAre acc (acc.map ni):=Yj (P:=X.prog) (w:=X.w) λv hv=>by
  obtain⟨e,he,rfl⟩:=mem_map.mp (hacc.mem_iff.mp hv)
  obtain⟨⟨k,hk,_⟩,_⟩:=hel e he
  exact⟨k,hk⟩
 have hpk:(acc.map ni).Perm ks:=by
  refine(hacc.map ni).trans ?_
  rw[map_map]
  exact hp
 have hal:acc.length=ks.length:=by rw[<-hpk.length_eq,length_map]
 have hsl:acc.length<=sizeLine:=by rw[hal];exact Nat.le_of_lt (Nat.lt_trans h64 (by decide))
 refine wpAny_bind (wpAny_newList ?_ hsl)
 have hoL:(h'.push (seqObj "list" acc.toArray 0)).get? h'.objs.size=some (seqObj "list" acc.toArray 0):=get?_push_size _ rfl
 refine wpAny_bind (wpAny_holding (wpAny_call_entry slot_list_sort ⟨_,hoL,rfl⟩ entry_list_sort (list_sort_tree hoL hI (by omega) λout ns' a1 a2 a3=>⟨_,rfl,?_⟩) (args_list_sort _)))
 refine wpAny_pure ⟨_,rfl,?_⟩
 obtain⟨e,he⟩:=sortedHeap_at (out:=out) hoL
 refine⟨.ref h'.objs.size,_,I'.laid (t':=tk) (o:=.lst (ns'.map V.int)) (λb ob w=>?_) (Nat.le_refl _) ?_,rfl,q _ ns' (I'.hok.fresh (Nat.le_refl _)) (a2.trans hpk) a3⟩
 ·have hb:h'.get? b=some ob:=w
  have hlt:=lt_size hb
  rw[sortedHeap_old (Nat.ne_of_lt hlt) (by rw[size_push'];exact Nat.lt_succ_of_lt hlt),Heap.get?_push_ne _ _ _ (Nat.ne_of_lt hlt)]
  exact hb
 ·refine⟨?_,out.toList,e,uO a1,?_⟩
  ·rw[length_map,a2.length_eq,length_map];exact hsl
  ·rw[toArray_toList];exact he
theorem Yk(hc:X.calm=true)(hm:X.mg "sorted" = none)(he:K7 X e ts)(hg:Gl X "sorted":=by rfl)(hs:starEach [e] X.env=[(false,eval e X.env)]:=by rfl):PE X (.Call (.Name "sorted" p) [e] [] pos) (SN ts):=by
 intro pins s σ H Q I h
 refine wpAny_Call_Name_kw (rB I hg hm (by decide +kernel:bootBuiltins "sorted" = some (.builtin "sorted")) ?_)
 refine PyProof.Rows.callWith_builtin1 (Q:=_) ?_ hs rfl
 rw[hs]
 show wpAny _ _ (spliced ((false,eval e X.env)::backTo pos [])) _ _ s
 refine Calls.spliced_cons (aO (he pins s σ H _ I h) λu s1 ⟨a,ks,H1,e1,I1,g,fo,h64,q⟩=>?_)
 subst e1
 refine Calls.spliced_nil ?_
 exact zP7 hc I1 g h64 q
end
end L2
namespace Ts
open PySem L2
def mC(z:Int):LI->LI
 |[]=>[z]
 |y::ys=>if z<y then z::y::ys else if z=y then y::ys else y::mC z ys
def oh(ns:LI):LI:=ns.foldr mC []
def Gp(ns:LI):Option LI:=if ns.length<64 then some (oh ns) else none
theorem jR:∀{ys:LI},x∈mC z ys↔x=z\/x∈ys
 |[]=>by simp[mC]
 |y::ys=>by
  unfold mC
  split
  ·simp
  ·split
   ·rename_i h;subst h;simp
   ·rw[mem_cons,jR,mem_cons]
    exact⟨λh=>h.elim (λh=>.inr (.inl h)) λh=>h.elim .inl λh=>.inr (.inr h),λh=>h.elim (λh=>.inr (.inl h)) λh=>h.elim .inl λh=>.inr (.inr h)⟩
theorem Ym:∀{ys:LI},ys.Pairwise (· < ·)->(mC z ys).Pairwise (· < ·)
 |[],_=>by simp[mC]
 |y::ys,h=>by
  have h1:=pairwise_cons.mp h
  unfold mC
  split
  ·rename_i hz
   refine pairwise_cons.mpr ⟨λx hx=>?_,h⟩
   rcases mem_cons.mp hx with e|e
   ·rw[e];exact hz
   ·exact Int.lt_trans hz (h1.1 x e)
  ·split
   ·exact h
   ·refine pairwise_cons.mpr ⟨λx hx=>?_,Ym h1.2⟩
    rcases jR.mp hx with e|e
    ·rw[e];omega
    ·exact h1.1 x e
theorem xK:∀{ns:LI},x∈oh ns↔x∈ns
 |[]=>by simp[oh]
 |n::ns=>by
  show x∈mC n (oh ns)↔_
  rw[jR,xK,mem_cons]
theorem Jd:∀ns:LI,(oh ns).Pairwise (· < ·)
 |[]=>.nil
 |n::ns=>Ym (Jd ns)
theorem z_:∀{xs ys:LI},xs.Pairwise (· < ·)->ys.Pairwise (· < ·)->(∀s,s∈xs↔s∈ys)->xs=ys
 |[],[],_,_,_=>rfl
 |[],y::ys,_,_,h=>absurd ((h y).mpr mem_cons_self) (by simp)
 |x::xs,[],_,_,h=>absurd ((h x).mp mem_cons_self) (by simp)
 |x::xs,y::ys,hx,hy,h=>by
  have h1:=pairwise_cons.mp hx
  have h2:=pairwise_cons.mp hy
  have e:x=y:=by
   rcases mem_cons.mp ((h x).mp mem_cons_self) with e|e
   ·exact e
   ·rcases mem_cons.mp ((h y).mpr mem_cons_self) with e'|e'
    ·exact e'.symm
    ·have a1:=h2.1 x e
     have a2:=h1.1 y e'
     omega
  subst e
  rw[z_ h1.2 h2.2 λs=>?_]
  constructor
  ·intro hs
   rcases mem_cons.mp ((h s).mp (mem_cons_of_mem _ hs)) with e|e
   ·have:=h1.1 s hs;omega
   ·exact e
  ·intro hs
   rcases mem_cons.mp ((h s).mpr (mem_cons_of_mem _ hs)) with e|e
   ·have:=h2.1 s hs;omega
   ·exact e
theorem K8:∀{ks ns:LI},ks.Nodup->(∀z∈ks,z∈ns)->ks.length<=ns.length
 |[],_,_,_=>Nat.zero_le _
 |k::ks,ns,nd,h=>by
  obtain⟨a,b,e⟩:=List.append_of_mem (h k mem_cons_self)
  have nd':=nodup_cons.mp nd
  have q:=K8 (ks:=ks) (ns:=a++b) nd'.2 λz hz=>by
   have hm:=h z (mem_cons_of_mem _ hz)
   rw[e] at hm
   rcases mem_append.mp hm with m|m
   ·exact mem_append.mpr (.inl m)
   ·rcases mem_cons.mp m with m|m
    ·exact absurd (m▸hz) nd'.1
    ·exact mem_append.mpr (.inr m)
  rw[e,length_append,length_cons,length_cons]
  rw[length_append] at q
  omega
theorem SQ:∀{ms:LI},ms.Pairwise (· <= ·)->ms.Nodup->ms.Pairwise (· < ·)
 |[],_,_=>.nil
 |m::ms,h,nd=>by
  have h1:=pairwise_cons.mp h
  have n1:=nodup_cons.mp nd
  refine pairwise_cons.mpr ⟨λx hx=>?_,SQ h1.2 n1.2⟩
  have a:=h1.1 x hx
  have b:m≠x:=λe=>n1.1 (e▸hx)
  omega
section
variable{K:PySem.W.Frag}{B:Bs}{sl:SL K}{md:Md}{t:TE}
theorem zLt(h:Ex B sl .hp t m):Eo B sl md (SN (O_ K t)) (m.bind Gp):=λc hc F O H σ Q s k=>by
 cases m with
 |none=>cases hc
 |some ns =>
  have hc:Gp ns=some c:=hc
  unfold Gp at hc
  split at hc
  case isFalse=>cases hc
  rename_i hl
  cases hc
  refine h ns rfl F O H σ _ s λv F' H' g r1=>?_
  obtain⟨p,vs,rfl,z1,z2⟩:=r1
  have z3:vs=ns.map V.int:=z2.vals
  subst z3
  refine⟨p,ns,rfl,aZ.of z1,by omega,λks nd hm=>⟨Nat.lt_of_le_of_lt (K8 nd λz hz=>(hm z).mp hz) hl,λl ms hn p1 p2=>?_⟩⟩
  have e:ms=oh ns:=z_ (SQ p2 (p1.nodup_iff.mpr nd)) (Jd ns) λz=>by rw[p1.mem_iff,hm,xK]
  subst e
  exact k l _ F' H' g hn (Fv _)
end
end Ts
namespace jQ
open PySem PySem.Spec PyProof.Rows
set_option maxRecDepth 100000
section
variable{prog:Program}{w:World}{κ:Type}[DecidableEq κ]{knd:KeyKind prog w κ}{dec:Value->κ}{led:Bool}{A:Around}{E:Value->Shared->Prop}{s:Shared}
theorem Good.size(g:Good knd dec led h a ks):∃o es ep t,h.get? a=some o/\o.ExactSet/\o.data=.set es ep t/\t.fits es.size=true/\es.size=ks.length/\Tb led t/\ElemsOf knd es.toList/\(es.toList.map λe=>dec e.2).Perm ks:=by
 obtain⟨o,es,ep,t,h1,h2,h3,hel,hp,nd,hb,hf,tb⟩:=g
 exact⟨o,es,ep,t,h1,h2,h3,hf,by rw[<-hp.length_eq,length_map,length_toList],tb,hel,hp⟩
theorem Good.type{s:Shared}(g:Good knd dec led s.heap a ks):s.TypeIs (.ref a) "set":=by
 obtain⟨o,_,_,_,h1,h2,_⟩:=g
 exact⟨o,h1,h2.1⟩
theorem Pa{Q:Bool->Shared->Prop}(hT:s.TypeIs (.ref a) "set")(h:Q true s):wpAny (model prog w) A (Builtin.Frozenset.isAnySet (.ref a)) Q E s:=by
 unfold Builtin.Frozenset.isAnySet
 refine wpAny_bind (wpAny_isInstance (T:="set") (b:=true) hT sub_set_self ?_)
 exact wpAny_pure h
theorem zQh(sets:List Addr)(hs:∀a∈sets,∃ks:List κ,Good knd dec led s.heap a ks)(hn:∀k v,knd.is k v=true->∀b,v≠.ref b){Q:Bool->Shared->Prop}(h:Q true s):wpAny (model prog w) A (setsQuiet sets) Q E s:=by
 unfold setsQuiet
 refine wpAny_bind (wpAny_mono (wpAny_forIn_list (β:=Option Bool×Unit) _ (λl b s'=>s'=s/\b=(none,())/\∀a∈l,∃ks:List κ,Good knd dec led s.heap a ks) (λb s'=>s'=s/\b=(none,())) ?turn (λb s' hI=>⟨hI.1,hI.2.1⟩) sets _ ⟨rfl,rfl,hs⟩) ?post (λ_ _ h=>h))
 case post =>
  rintro b s' ⟨rfl,rfl⟩
  exact wpAny_pure h
 case turn =>
  rintro a rest b s' ⟨rfl,rfl,hg⟩
  obtain⟨ks,g⟩:=hg a mem_cons_self
  obtain⟨o,es,ep,t,h1,h2,h3,hf,hl,tb,hel,hp⟩:=g.size
  refine wpAny_bind (Sq h1 h3 hf ?_)
  rw[<-forIn_toList]
  refine wpAny_bind (wpAny_mono (wpAny_forIn_list (β:=Option Bool×Unit) _ (λl b s''=>s''=s'/\b=(none,())/\∀e∈l,∀c,e.2≠.ref c) (λb s''=>s''=s'/\b=(none,())) ?t2 (λb s' hI=>⟨hI.1,hI.2.1⟩) es.toList _ ⟨rfl,rfl,?p0⟩) ?p2 (λ_ _ h=>h))
  case p0 =>
   intro e he c z
   obtain⟨⟨k,hk,_⟩,_⟩:=hel e he
   exact hn k _ hk c z
  case p2 =>
   rintro b s'' ⟨rfl,rfl⟩
   exact wpAny_pure ⟨rfl,rfl,λa ha=>hg a (mem_cons_of_mem _ ha)⟩
  case t2 =>
   rintro⟨hh,x⟩ l b s'' ⟨rfl,rfl,hl⟩
   have hx:=hl _ mem_cons_self
   dsimp only at hx ⊢
   split
   ·exact absurd rfl (hx _)
   ·exact wpAny_pure ⟨rfl,rfl,λe he=>hl e (mem_cons_of_mem _ he)⟩
theorem Aa(g:Good knd dec (yJ w) s.heap a ks)(hq:w.params.followText "set-order" = false->∀o es ep t,s.heap.get? a=some o->o.data=.set es ep t->(!t.plain&&decide (es.size > 1))=false){Q:Array (Int×Value)->Shared->Prop}(h:∀es:Array (Int×Value),ElemsOf knd es.toList->(es.toList.map λe=>dec e.2).Perm ks->Q es s):wpAny (model prog w) A (setWalk a) Q E s:=by
 obtain⟨o,es,ep,t,h1,h2,h3,hf,hl,tb,hel,hp⟩:=g.size
 unfold setWalk
 refine wpAny_bind (wpAny_setState_of h1 h3 hf ?_)
 dsimp only
 refine wpAny_bind (Jb ?_)
 cases hb:w.params.followText "set-order" with
 |true =>
  simp only[↓reduceIte]
  refine wpAny_bind (wpAny_askSetting (wpAny_pure ?_))
  exact h _ (hel.perm (Ja _ es)) (((Ja _ es).map _).trans hp)
 |false =>
  have q:=hq hb o es ep t h1 h3
  have SX:t.led=true:=by rw[tb.led];unfold yJ;rw[hb];rfl
  simp only[Bool.false_eq_true,↓reduceIte]
  show wpAny _ _ (if(!t.plain&&decide (es.size > 1))=true then _ else _) _ _ _
  rw[if_neg (by rw[q];exact Bool.false_ne_true)]
  refine wpAny_bind ?_
  show wpAny _ _ (if(!t.led&&decide (es.size > 1))=true then _ else pure ()) _ _ _
  rw[if_neg (by rw[SX];exact Bool.false_ne_true)]
  exact wpAny_pure (wpAny_pure (h es hel hp))
theorem Yn(g:Good knd dec (yJ w) s.heap a ks)(gf:Good knd dec (yJ w) s.heap f kf)(hs:∀b∈others,∃ks:List κ,Good knd dec (yJ w) s.heap b ks)(hn:∀k v,knd.is k v=true->∀b,v≠.ref b){Q:Array (Int×Value)->Shared->Prop}(h:∀(es:Array (Int×Value)) (h':Heap),ElemsOf knd es.toList->(es.toList.map λe=>dec e.2).Perm ks->SameBut f s.heap h'->Good knd dec (yJ w) h' f kf->Q es { s with heap:=h' }):wpAny (model prog w) A (setWalkUnseen a others (some f)) Q E s:=by
 obtain⟨o,es,ep,t,h1,h2,h3,hf,hl,tb,hel,hp⟩:=g.size
 unfold setWalkUnseen
 refine wpAny_bind (wpAny_setState_of h1 h3 hf ?_)
 dsimp only
 refine wpAny_bind (Jb ?_)
 split
 ·rename_i c
  refine Aa g (λhb o' es' ep' t' h1' h3'=>?_) λes' sS hp'=>h es' s.heap sS hp' (SameBut.refl f s.heap) gf
  rw[h1] at h1'
  cases h1'
  rw[h3] at h3'
  cases h3'
  rw[hb] at c
  simp only[Bool.false_or,Bool.or_eq_true,Bool.and_eq_true,decide_eq_true_eq] at c
  rcases c with⟨_,c⟩|c
  ·rw[c];rfl
  ·rw[decide_eq_false (by omega),Bool.and_false]
 ·refine wpAny_bind (zQh (knd:=knd) (dec:=dec) (led:=yJ w) (a::others) (λb hb=>(mem_cons.mp hb).elim (λe=>e▸⟨ks,g⟩) (hs b)) hn ?_)
  simp only[Bool.not_true,Bool.false_eq_true,↓reduceIte]
  refine wpAny_bind (wpAny_rule ?_)
  obtain⟨of,ef,epf,tf,f1,f2,f3,ff,fl,Yo,S5,fp⟩:=gf.size
  refine wpAny_bind (wpAny_setState_of f1 f3 ff ?_)
  dsimp only
  split
  ·have gl:=gf.len
   refine wpAny_bind (wpAny_storeSet_of f1 f3 ?_ (fits_of_scanBound (by rw[fl];exact gl)))
   obtain⟨_,_,_,_,e1,_,_,_,_,nd,hb,_,_⟩:=gf
   refine wpAny_pure (h es _ hel hp (SameBut.update _ f _) ⟨_,ef,_,_,CQ (es':=ef) (t':=_) f1 f3,f2,rfl,S5,fp,nd,?_,?_,?_⟩)
   ·rw[fl];exact gl
   ·exact ff
   ·refine⟨?_,λz=>?_⟩
    ·show(tf.led&&t.led)=_
     rw[Yo.led,tb.led,Bool.and_self]
    ·exact Yo.rz (Bool.and_eq_true_iff.mp z).1
  ·exact wpAny_pure (h es s.heap hel hp (SameBut.refl f s.heap) gf)
theorem Ab(hT:s.TypeIs (.ref a) "set"){Q:Value->Shared->Prop}(h:Q (.type "set") s):wpAny (model prog w) A (Builtin.Frozenset.baseOf a) Q E s:=by
 unfold Builtin.Frozenset.baseOf
 refine wpAny_bind (wpAny_isInstance (T:="set") (b:=true) hT sub_set_self ?_)
 exact wpAny_pure h
theorem zNz{Q:Value->Shared->Prop}(h:Q (.ref s.heap.objs.size) { s with heap:=s.heap.push { cls:=.type "set",dict:=none,data:=.set #[] 0 (.fresh 0 0 (yJ w)) } }):wpAny (model prog w) A (newSet (.type "set")) Q E s:=by
 unfold newSet setsByText
 refine wpAny_bind (wpAny_bind (wpAny_askSetting (wpAny_pure ?_)))
 dsimp only
 simp only[newObj]
 exact wpAny_bind (wpAny_alloc (wpAny_pure h))
end
end jQ
namespace L2
open PySem PySem.Spec PyProof.Rows jQ
section
variable{X:Cx}
end
end L2
namespace Ts
open PySem L2
section
variable{K:PySem.W.Frag}{B:Bs}{sl:SL K}{md:Md}{t1 t2:TE}
end
end Ts
namespace L2
open PySem PySem.Spec PyProof.Rows
section
variable{X:Cx}
def Yp(ta:TA):TE:=λσ H Q=>ta σ H λvs H1=>∃j:Int,vs=[.int j] /\ -(2^62)<=j/\j<1000000/\∀l,H1 l=none->Q (.ref l) (upd H1 l (.lst (((List.range j.toNat).map Int.ofNat).map V.int)))
theorem Ac{acc:List Value}:∀{ns:LI},acc.length=ns.length->(∀(i:Nat)(v:Value),acc[i]?=some v->∃t:Tok,v=Value.int (ns.getD i 0) t)->IntsAre acc ns:=by
 induction acc with
 |nil =>
  intro ns h _
  cases ns with
  |nil=>exact .nil
  |cons n ns=>simp at h
 |cons v acc ih =>
  intro ns h g
  cases ns with
  |nil=>simp at h
  |cons n ns =>
   obtain⟨t,e⟩:=g 0 v rfl
   subst e
   exact .cons n t (ih (by simpa using h) λi v hv=>g (i+1) v hv)
theorem zQm(hc:X.calm=true)(hg:Gl X "list")(hm:X.mg "list" = none)(hg2:Gl X "range")(hm2:X.mg "range" = none)(ha:PA X [a] ta)(hs:starEach [a] X.env=[(false,eval a X.env)]:=by rfl)(hs2:starEach [Expr.Call (.Name "range" p2) [a] [] pos2] X.env=[(false,eval (Expr.Call (.Name "range" p2) [a] [] pos2) X.env)]:=by rfl):PE X (.Call (.Name "list" p) [.Call (.Name "range" p2) [a] [] pos2] [] pos) (Yp ta):=by
 intro pins s σ H Q I h
 refine wpAny_Call_Name_kw (rB I hg hm (by decide +kernel:bootBuiltins "list" = some (.type "list")) ?_)
 refine PyProof.Rows.callWith_type1 ?_ hs2 rfl
 rw[hs2]
 show wpAny _ _ (spliced ((false,eval (Expr.Call (.Name "range" p2) [a] [] pos2) X.env)::backTo pos [])) _ _ s
 refine Calls.spliced_cons (wpAny_Call_Name_kw (rB I hg2 hm2 boot_range (PyProof.Rows.callWith_type1 (aO (ha pos2 pins s σ H _ I h) λus s1 ⟨vs,H1,I1,r1,q1⟩=>?_) hs rfl)))
 obtain⟨j,e,q1,q2,q⟩:=q1
 subst e
 cases r1 with
 |cons r rr =>
  cases rr
  obtain⟨t,rfl⟩:=r
  refine call_range_1 (Calls.spliced_nil ?_)
  have I2:Inv X pins σ H1 { s1 with heap:=s1.heap.push { cls:=.type "range",data:=.fields #[.int 0 s1.toks,.int j t,.int 1 (s1.toks+1)] },toks:=s1.toks+1+1 }:=I1.kept λb o e=>get?_push_of_some _ e
  refine call_list_range (n:=j.toNat) (I2.ok.hd hc) (IsRange.new ..) (small_one (by omega) (by omega) q1 (by omega)) (by rw[rangeSize_one];split<;>omega) (by omega) λh' tk acc' c' hk hS hacc=>?_
  have hI:IntsAre acc'.toList ((List.range j.toNat).map Int.ofNat):=Ac (by rw[length_toList,hacc.1,length_map,length_range]) λi v hv=>by
   rw[getElem?_toList] at hv
   obtain⟨t',rfl⟩:=hacc.2 i v hv
   have hi:i<j.toNat:=by
    have:=(Array.getElem?_eq_some_iff.mp hv).1
    rw[hacc.1] at this
    exact this
   refine⟨t',?_⟩
   have e:((List.range j.toNat).map Int.ofNat).getD i 0=(i:Int):=by
    rw[getD_eq_getElem?_getD,getElem?_map,getElem?_range hi]
    rfl
   rw[e]
   simp
  refine⟨.ref _,_,I2.laid (h':=h') (t':=tk) (o:=.lst (((List.range j.toNat).map Int.ofNat).map V.int)) (λb ob w=>hk b ob w) (Nat.le_refl _) ?_,rfl,q _ (I2.hok.fresh (Nat.le_refl _))⟩
  refine⟨?_,acc'.toList,c',uO hI,?_⟩
  ·rw[length_map,length_map,length_range]
   exact Nat.le_trans (show j.toNat<=1000000 by omega) (by decide)
  ·rw[toArray_toList];exact hS
end
end L2
namespace Ts
open PySem L2
section
variable{K:PySem.W.Frag}{B:Bs}{sl:SL K}{md:Md}{t t1 t2 te:TE}{m1 m2:Option Int}
def Je(n:Int):Option LI:=if -(2^62)<=n/\n<1000000 then some ((List.range n.toNat).map Int.ofNat) else none
theorem zRg(h:Ex B sl .hp t m):Eo B sl md (Yp (xQ t bD)) (m.bind Je):=λc hc F O H σ Q s k=>by
 cases m with
 |none=>cases hc
 |some n =>
  have hc:Je n=some c:=hc
  unfold Je at hc
  split at hc
  case isFalse=>cases hc
  rename_i hl
  cases hc
  refine h n rfl F O H σ _ s λv F' H' g r1=>?_
  cases r1
  exact⟨n,rfl,hl.1,hl.2,λl hn=>k l _ F' H' g hn (Fv _)⟩
end
section
variable{K:PySem.W.Frag}{B:Bs}{sl:SL K}{F H H2:Hp}{O:Own}{σ:St}{te:TE}
end
section
variable{K:PySem.W.Frag}{B:Bs}{sl sl2:SL K}{G F H:Hp}{O:Own}{σ:St}{te:TE}
theorem Ad{α β:Type}[Rp K α][Rp K β]{m:Option (α×β)}{L:α×β->SL K}(h:Ex B sl (jH n) te m)(hg:Tg B sl n g L):Sn B sl (lg te g) L m:=λa ha G D σ H s k=>by
 obtain⟨F,O,g0,z⟩:=s
 exact h a ha F O H σ _ z λv F' H' gr r=>hg v a F' O H' σ _ (z.grow gr) r λσ' z'=>k _ _ ⟨F',O,g0.trans gr.ff,z'⟩
inductive S6{α:Type}[Rp K α](kvs:List (Key×α)):SL K->SL K->Prop
 |here {a:SL K}:S6 kvs (.od kvs::a) (.fz false (Dc.mk kvs)::a)
 |skip {s:Slot K} {a b:SL K}:S6 kvs a b->S6 kvs (s::a) (s::b)
end
section
variable{K:PySem.W.Frag}{B:Bs}{sl:SL K}{md:Md}{t t2:TE}{α β:Type}[Rp K α][Rp K β]
theorem S7:bootBuiltins "tuple" = some (.type "tuple"):=by decide +kernel
end
section
variable{P:Program}{w:World}{K:PySem.W.Frag}{mg:Str->Option Value}{base:Heap}{B:Bs}{sl:SL K}{md:Md}{α β:Type}[Rp K α][Rp K β]{tA:Addr}{tO:HO}{te t1 t2:TE}
end
section
variable{X:Cx}{pos pos':Pos}{x:Str}{e:Expr}{te:TE}
theorem yO(i:Nat)(hN:X.N.Nodup)(he:PE X e te)(hi:X.N[i]?=some x:=by rfl)(hx:Loc X.env.scope x:=by first|exact .inl rfl|exact .inr rfl)(hs:swapsWith e (some (.Name x pos')) pos.line X.env=pure false:=by rfl)(hf:X.fn x=true\/X.env.scope.names.lookup x=some .local:=by first|exact .inl rfl|exact .inr rfl|assumption):PS X (.Assign [.Name x pos'] e pos) (lg te (m5 i)):=Nr hN hi hx he hs hf
theorem bT(i:Nat)(hN:X.N.Nodup)(hi:X.N[i]?=some x:=by rfl)(hx:Loc X.env.scope x:=by first|exact .inl rfl|exact .inr rfl)(hf:X.fn x=true\/X.env.scope.names.lookup x=some .local:=by first|exact .inl rfl|exact .inr rfl|assumption):PG X (.Name x pos) (m5 i):=yI hN hi hx hf
end
theorem esc{K:PySem.W.Frag}{B:Bs}{sl:SL K}{md:Md}{α:Type}[Rp K α][Sc K α]{t:TE}{m:Option α}(h:Ex B sl .hp t m):Ex B sl md t m:=h.sc
theorem fsc{N P:List Str}{s:Scope}(h1:s.kind=.function:=by rfl)(h2:s.isCoroutine=false:=by rfl)(h3:s.isGenerator=false:=by rfl)(h4:N.Nodup:=by decide +kernel)(h5:N.take P.length=P:=by rfl)(h6:∀x∈P,s.names.lookup x=some .local\/s.names.lookup x=some .cell:=by decide +kernel)(h7:∀y∈s.names,y.2≠.free:=by decide +kernel):ao N P s:=⟨h1,h2,h3,h4,h5,h6,h7⟩
section
variable{K:PySem.W.Frag}{x y:Str}{st:Stmt}{f:Addr}{fd:FuncData}{p0 p1 p2 p3 p4:Str}
theorem mX(F:bR K x y st f fd)(h:∀kV dc pm an cd ct u0,bindArgs (fnOf x y (vT st) (wE st) (zI st) .none kV dc pm an cd ct) ⟨[u0],[]⟩=pure [(p0,u0)]:=by intros;rfl):Binds K fd [p0] []:=F.binds λa b c d e g us hl=>match us,hl with|[u0],_=>h a b c d e g u0
theorem pP(F:bR K x y st f fd)(h:∀kV dc pm an cd ct u0 u1,bindArgs (fnOf x y (vT st) (wE st) (zI st) .none kV dc pm an cd ct) ⟨[u0,u1],[]⟩=pure [(p0,u0),(p1,u1)]:=by intros;rfl):Binds K fd [p0,p1] []:=F.binds λa b c d e g us hl=>match us,hl with|[u0,u1],_=>h a b c d e g u0 u1
theorem S8(F:bR K x y st f fd)(h:∀kV dc pm an cd ct u0 u1 u2,bindArgs (fnOf x y (vT st) (wE st) (zI st) .none kV dc pm an cd ct) ⟨[u0,u1,u2],[]⟩=pure [(p0,u0),(p1,u1),(p2,u2)]:=by intros;rfl):Binds K fd [p0,p1,p2] []:=F.binds λa b c d e g us hl=>match us,hl with|[u0,u1,u2],_=>h a b c d e g u0 u1 u2
theorem Pb(F:bR K x y st f fd)(h:∀kV dc pm an cd ct u0 u1 u2 u3,bindArgs (fnOf x y (vT st) (wE st) (zI st) .none kV dc pm an cd ct) ⟨[u0,u1,u2,u3],[]⟩=pure [(p0,u0),(p1,u1),(p2,u2),(p3,u3)]:=by intros;rfl):Binds K fd [p0,p1,p2,p3] []:=F.binds λa b c d e g us hl=>match us,hl with|[u0,u1,u2,u3],_=>h a b c d e g u0 u1 u2 u3
end
theorem bB{K:PySem.W.Frag}{a b:SL K}(h:Le a b:=by repeat(first|exact Le.nil|refine Le.eq ?_|refine Le.un ?_|refine Le.fr ?_)):Le a b:=h
theorem fP{K:PySem.W.Frag}{a b:SL K}(h:oJ a b:=by repeat(first|exact oJ.nil|refine oJ.eq ?_|refine oJ.un ?_)):oJ a b:=h
abbrev Slot.z{α:Type}[Rp K α](a:α):Slot K:=.fz false a
abbrev Slot.y{α:Type}[Rp K α](a:α):Slot K:=.fz true a
end Ts
namespace jQ
open PySem PySem.SetTable
set_option maxRecDepth 100000
def Pg(m:Nat):Nat->Nat->Nat
 |0,i=>i
 |t+1,i=>Pg m t ((i*5+1)%m)
def seen(m:Nat):Nat->Nat->Nat->Nat
 |0,_,acc=>acc
 |t+1,i,acc=>seen m t ((i*5+1)%m) (acc|||1 <<< i)
theorem Yq(m j:Nat):∀(t i acc:Nat),(seen m t i acc).testBit j=true->acc.testBit j=true\/∃u,u<t/\Pg m u i=j
 |0,i,acc,h=>.inl h
 |t+1,i,acc,h=>by
  rcases Yq m j t _ _ h with z|⟨u,hu,e⟩
  ·rw[Nat.testBit_or,Bool.or_eq_true] at z
   rcases z with z|z
   ·exact .inl z
   ·rw[Nat.testBit_shiftLeft,Bool.and_eq_true,decide_eq_true_eq] at z
    obtain⟨z1,z2⟩:=z
    have:j-i=0:=by
     cases q:j-i with
     |zero=>rfl
     |succ n =>
      rw[q] at z2
      have:(1:Nat).testBit (n+1)=false:=Nat.testBit_lt_two_pow (Nat.lt_of_lt_of_le (by decide) (Nat.pow_le_pow_right (by decide) (Nat.succ_le_succ (Nat.zero_le n))))
      rw[this] at z2
      cases z2
    exact .inr ⟨0,Nat.succ_pos _,by show i=j;omega⟩
  ·exact .inr ⟨u+1,Nat.succ_lt_succ hu,e⟩
def qg(m:Nat):Bool:=(List.range m).all λi=>seen m m i 0==2^m-1
theorem Ae(h:qg m=true)(hi:i<m)(hj:j<m):∃u,u<m/\Pg m u i=j:=by
 have q:=all_eq_true.mp h i (mem_range.mpr hi)
 have e:seen m m i 0=2^m-1:=by simpa using q
 have t:(seen m m i 0).testBit j=true:=by rw[e,Nat.testBit_two_pow_sub_one];simpa using hj
 rcases Yq m j m i 0 t with z|z
 ·rw[Nat.zero_testBit] at z;cases z
 ·exact z
theorem K9:qg 8=true:=by decide +kernel
theorem K_:qg 16=true:=by decide +kernel
theorem La:qg 32=true:=by decide +kernel
theorem Lb:qg 64=true:=by decide +kernel
theorem Gq:qg 128=true:=by decide +kernel
theorem Gs:qg 256=true:=by decide +kernel
theorem Ld{owner:Array (Option Nat)}{mask i:Nat}(h:owner.getD i (some 0)=none):(List.range (runEnd mask i+1-i)).find? (λk=>(owner.getD (i+k) (some 0)).isNone)≠none:=λe=>by
 have q:=find?_eq_none.mp e 0 (mem_range.mpr (by unfold runEnd;split<;>omega))
 apply q
 show(owner.getD (i+0) (some 0)).isNone=true
 rw[Nat.add_zero,h];rfl
theorem Yr{owner:Array (Option Nat)}{mask:Nat}:∀(fuel i p j:Nat),layClean.free mask owner fuel i p=some j->owner.getD j (some 0)=none
 |0,_,_,_,h=>by cases h
 |fuel+1,i,p,j,h=>by
  unfold layClean.free at h
  split at h
  ·rename_i k hk
   cases h
   have:=List.find?_some hk
   simpa using this
  ·exact Yr fuel _ _ j h
theorem Ys{owner:Array (Option Nat)}{mask j:Nat}(hj:owner.getD j (some 0)=none):∀(fuel u i:Nat),u<fuel->Pg (mask+1) u i=j->layClean.free mask owner fuel i 0≠none
 |0,u,i,h,_=>absurd h (Nat.not_lt_zero _)
 |fuel+1,0,i,_,e=>by
  have e':i=j:=e
  subst e'
  unfold layClean.free
  cases q:(List.range (runEnd mask i+1-i)).find? λk=>(owner.getD (i+k) (some 0)).isNone with
  |none=>exact absurd q (Ld hj)
  |some k=>exactλz=>by cases z
 |fuel+1,u+1,i,h,e=>by
  unfold layClean.free
  cases q:(List.range (runEnd mask i+1-i)).find? λk=>(owner.getD (i+k) (some 0)).isNone with
  |none=>exact Ys hj fuel u _ (Nat.lt_of_succ_lt_succ h) e
  |some k=>exactλz=>by cases z
theorem Yt{owner:Array (Option Nat)}{mask:Nat}(fuel:Nat)(h0:∀i,i<=mask->layClean.free mask owner fuel i 0≠none):∀(d i p:Nat),i<=mask->p<32^d->layClean.free mask owner (fuel+d) i p≠none
 |0,i,p,hi,hp=>by
  have e:p=0:=by rw[Nat.pow_zero] at hp;omega
  subst e
  exact h0 i hi
 |d+1,i,p,hi,hp=>by
  show layClean.free mask owner (fuel+d+1) i p≠none
  unfold layClean.free
  cases q:(List.range (runEnd mask i+1-i)).find? λk=>(owner.getD (i+k) (some 0)).isNone with
  |none=>exact Yt fuel h0 d _ _ (Nat.le_of_lt_succ (Nat.mod_lt _ (Nat.succ_pos _))) (by rw[Nat.pow_succ] at hp;show p/32<_;omega)
  |some k=>exactλz=>by cases z
theorem Af{owner:Array (Option Nat)}{mask j:Nat}(hc:qg (mask+1)=true)(hs:j<=mask)(hj:owner.getD j (some 0)=none)(h:Int):∃k,layClean.free mask owner (turns mask) (bits h%(mask+1)) (bits h)=some k/\owner.getD k (some 0)=none:=by
 have q:layClean.free mask owner (mask+2+13) (bits h%(mask+1)) (bits h)≠none:=Yt (mask+2) (λi hi=>by
  obtain⟨u,hu,e⟩:=Ae hc (Nat.lt_succ_of_le hi) (Nat.lt_succ_of_le hs)
  exact Ys hj _ u i (by omega) e) 13 _ _ (Nat.le_of_lt_succ (Nat.mod_lt _ (Nat.succ_pos _))) (by unfold bits;have:=Int.emod_lt_of_pos h (b:=2^64) (by decide);have:=Int.emod_nonneg h (b:=2^64) (by decide);omega)
 unfold turns
 cases e:layClean.free mask owner (mask+15) (bits h%(mask+1)) (bits h) with
 |none=>exact absurd e q
 |some k=>exact⟨k,rfl,Yr _ _ _ _ e⟩
theorem S9{α:Type}(v:α):∀(l:List (Option α))(j:Nat),l[j]?=some none->((l.set j (some v)).filterMap id).Perm (v::l.filterMap id)
 |[],j,h=>by simp at h
 |x::l,0,h=>by
  have e:x=none:=by simpa using h
  subst e
  exact .refl _
 |none::l,j+1,h=>by
  show((l.set j (some v)).filterMap id).Perm (v::l.filterMap id)
  exact S9 v l j (by simpa using h)
 |some x::l,j+1,h=>by
  show(x::(l.set j (some v)).filterMap id).Perm (v::x::l.filterMap id)
  exact((S9 v l j (by simpa using h)).cons x).trans (.swap _ _ _)
theorem Yu:∀(l:List (Option Nat)),(l.filterMap id).length<l.length->∃j,j<l.length/\l[j]?=some none
 |[],h=>by simp at h
 |none::l,_=>⟨0,by simp,rfl⟩
 |some x::l,h=>by
  obtain⟨j,hj,e⟩:=Yu l (by simpa using h)
  exact⟨j+1,by simpa using hj,e⟩
theorem getD_none{owner:Array (Option Nat)}:owner.getD j (some 0)=none↔owner.toList[j]?=some none:=by
 rw[Array.getD_eq_getD_getElem?,getElem?_toList]
 cases owner[j]? with
 |none=>simp
 |some x=>simp
theorem Yv{mask:Nat}(hc:qg (mask+1)=true):∀(hs:LI)(owner:Array (Option Nat))(k:Nat),owner.size=mask+1->(owner.toList.filterMap id).Perm (List.range k)->k+hs.length<=mask ->
  ∃oO,hs.foldl (λacc h=>do
   let(owner,k) <-acc
   let j <-layClean.free mask owner (turns mask) (bits h%(mask+1)) (bits h)
   pure (owner.setIfInBounds j (some k),k+1)) (some (owner,k))=some (oO,k+hs.length)/\oO.size=mask+1/\(oO.toList.filterMap id).Perm (List.range (k+hs.length))
 |[],owner,k,h1,h2,h3=>⟨owner,rfl,h1,h2⟩
 |h::hs,owner,k,h1,h2,h3=>by
  obtain⟨j,hj,ej⟩:=Yu owner.toList (by rw[h2.length_eq,length_range,length_toList,h1];rw[length_cons] at h3;omega)
  obtain⟨i,ei,fi⟩:=Af hc (owner:=owner) (j:=j) (by rw[length_toList,h1] at hj;omega) (getD_none.mpr ej) h
  have q:=Yv hc hs (owner.setIfInBounds i (some k)) (k+1) (by rw[Array.size_setIfInBounds];exact h1) ?_ (by rw[length_cons] at h3;omega)
  ·obtain⟨o',e,z1,z2⟩:=q
   have ek:k+(h::hs).length=k+1+hs.length:=by rw[length_cons];omega
   refine⟨o',?_,z1,by rw[ek];exact z2⟩
   rw[ek,List.foldl_cons,<-e]
   refine congrArg (λz=>List.foldl _ z hs) ?_
   show(layClean.free mask owner (turns mask) (bits h%(mask+1)) (bits h)).bind _=_
   rw[ei]
   rfl
  ·rw[Array.toList_setIfInBounds,range_succ]
   exact((S9 k owner.toList i (getD_none.mp fi)).trans (h2.cons k)).trans (List.perm_append_singleton k _).symm
theorem Yw:∀(l:List (Option Nat)),(List.range l.length).filterMap (λj=>(l[j]?).getD none)=l.filterMap id
 |[]=>rfl
 |x::l=>by
  rw[length_cons,range_succ_eq_map,filterMap_cons,List.filterMap_map]
  have e:((λj=>((x::l)[j]?).getD none)∘Nat.succ)=λj=>(l[j]?).getD none:=rfl
  rw[e,Yw l]
  cases x<;>rfl
theorem Yx{mask:Nat}(hc:qg (mask+1)=true)(finger moves:Nat)(led plain:Bool)(hs:Array Int)(hn:hs.size<=mask) :
  ∃t order,laid mask finger moves led plain hs=some (t,order)/\order.toList.Perm (List.range hs.size)/\t.place.size=hs.size/\t.dummies=#[]/\t.mask=mask/\t.led=led/\t.plain=plain/\Rz t.place:=by
 obtain⟨o',e,z1,z2⟩:=Yv hc hs.toList (Array.replicate (mask+1) none) 0 (by rw[Array.size_replicate]) (by rw[Array.toList_replicate,List.filterMap_replicate_of_none rfl];exact .refl _) (by rw[Nat.zero_add,length_toList];exact hn)
 rw[Nat.zero_add,length_toList] at z2
 have el:layClean mask hs=some o':=by
  unfold layClean
  rw[<-Array.foldl_toList,e]
  rfl
 have eo:((List.range (mask+1)).filterMap λj=>(o'.getD j none).map λk=>(j,k)).map (·.2)=o'.toList.filterMap id:=by
  rw[<-Yw o'.toList,length_toList,z1,List.map_filterMap]
  refine congrArg (λf=>filterMap f _) (funext λj=>?_)
  rw[Array.getD_eq_getD_getElem?,getElem?_toList]
  cases(o'[j]?).getD none<;>rfl
 refine⟨_,_,by unfold laid;rw[el];rfl,?_,?_,rfl,rfl,rfl,rfl,XF (λj=>o'.getD j none) _⟩
 ·show((List.range (mask+1)).filterMap λj=>(o'.getD j none).map λk=>(j,k)).map (·.2) |>.Perm _
  rw[eo]
  exact z2
 ·show(((List.range (mask+1)).filterMap λj=>(o'.getD j none).map λk=>(j,k)).map (·.1)).length=_
  rw[length_map,<-length_map (f:=(·.2)),eo,z2.length_eq,length_range]
theorem zRp(h:n<=255):∃m,sizeAbove n=m+1/\n<=m/\qg (m+1)=true/\m<=255:=by
 by_cases h1:n<8
 ·exact⟨7,by unfold sizeAbove;unfold sizeAbove.go;rw[if_neg (by omega)],by omega,K9,by omega⟩
 by_cases h2:n<16
 ·exact⟨15,by unfold sizeAbove;unfold sizeAbove.go;rw[if_pos (by omega)];unfold sizeAbove.go;rw[if_neg (by omega)],by omega,K_,by omega⟩
 by_cases h3:n<32
 ·exact⟨31,by unfold sizeAbove;unfold sizeAbove.go;rw[if_pos (by omega)];unfold sizeAbove.go;rw[if_pos (by omega)];unfold sizeAbove.go;rw[if_neg (by omega)],by omega,La,by omega⟩
 by_cases h4:n<64
 ·exact⟨63,by unfold sizeAbove;unfold sizeAbove.go;rw[if_pos (by omega)];unfold sizeAbove.go;rw[if_pos (by omega)];unfold sizeAbove.go;rw[if_pos (by omega)];unfold sizeAbove.go;rw[if_neg (by omega)],by omega,Lb,by omega⟩
 by_cases h5:n<128
 ·exact⟨127,by unfold sizeAbove;unfold sizeAbove.go;rw[if_pos (by omega)];unfold sizeAbove.go;rw[if_pos (by omega)];unfold sizeAbove.go;rw[if_pos (by omega)];unfold sizeAbove.go;rw[if_pos (by omega)];unfold sizeAbove.go;rw[if_neg (by omega)],by omega,Gq,by omega⟩
 ·exact⟨255,by unfold sizeAbove;unfold sizeAbove.go;rw[if_pos (by omega)];unfold sizeAbove.go;rw[if_pos (by omega)];unfold sizeAbove.go;rw[if_pos (by omega)];unfold sizeAbove.go;rw[if_pos (by omega)];unfold sizeAbove.go;rw[if_pos (by omega)];unfold sizeAbove.go;rw[if_neg (by omega)],by omega,Gs,by omega⟩
open PySem PySem.Spec PyProof.Rows
set_option maxRecDepth 100000
section
variable{prog:Program}{w:World}{κ:Type}[DecidableEq κ]{knd:KeyKind prog w κ}{dec:Value->κ}{led:Bool}{A:Around}{E:Value->Shared->Prop}{s:Shared}
theorem Yy{α:Type}(es:Array α)(order:Array Nat)(h:order.toList.Perm (List.range es.size)):(order.filterMap (es[·]?)).toList.Perm es.toList:=by
 rw[Array.toList_filterMap]
 refine(h.filterMap _).trans ?_
 have e:(List.range es.size).filterMap (es[·]?)=es.toList:=by
  have:∀l:List α,(List.range l.length).filterMap (λj=>l[j]?)=l:=λl=>by
   induction l with
   |nil=>rfl
   |cons x l ih =>
    rw[length_cons,range_succ_eq_map,filterMap_cons,List.filterMap_map]
    show x::filterMap (λj=>l[j]?) _=_
    rw[ih]
  have q:=this es.toList
  rw[length_toList] at q
  rw[<-q]
  refine congrArg (λf=>filterMap f _) (funext λj=>?_)
  rw[getElem?_toList]
 rw[e]
theorem Yz{Q:Unit->Shared->Prop}(ho:s.heap.get? a=some o)(hd:o.data=.set es ep t)(hf:t.fits es.size=true)(hw:wanted<=255)(hn:es.size<=wanted)(h:∀(es':Array (Int×Value)) (t':SetTable),es'.toList.Perm es.toList->t'.place.size=es.size->t'.dummies=#[]->wanted<=t'.mask->qg (t'.mask+1)=true->t'.led=t.led->Rz t'.place->Q () { s with heap:=s.heap.update a (Obj.putSet es' t') }):wpAny (model prog w) A (setRelay a wanted) Q E s:=by
 obtain⟨m,e1,e2,e3,e4⟩:=zRp hw
 unfold setRelay
 refine wpAny_bind (wpAny_setState_of ho hd hf ?_)
 dsimp only
 rw[if_neg (by rw[e1];show¬m+1 > 2^24;omega)]
 obtain⟨t',order,q1,q2,q3,q4,q5,q6,q7,q8⟩:=Yx (mask:=m) e3 t.finger (t.movedTo m) t.led t.plain (es.map (·.1)) (by rw[size_map];omega)
 rw[size_map] at q2 q3
 have er:t.relaid (es.map (·.1)) wanted=some (t',order):=by
  unfold SetTable.relaid
  rw[e1]
  exact q1
 rw[er]
 have p:=Yy es order q2
 have sz:(order.filterMap (es[·]?)).size=es.size:=by rw[<-length_toList,p.length_eq,length_toList]
 refine wpAny_bind (m:=(if((order.filterMap (es[·]?)).size != es.size)=true then unsupported "internal:set-table-lost-an-element" else pure (order.filterMap (es[·]?),t'))) ?_
 rw[if_neg (by rw[sz];simp)]
 refine wpAny_pure ?_
 exact wpAny_storeSet_of ho hd (h _ t' p q3 q4 (by rw[q5];exact e2) (by rw[q5];exact e3) q6 q8) (by rw[sz];show es.size<=2^24;omega)
theorem S_{t':SetTable}(h1:t'.place.size=n)(h2:t'.dummies=#[])(h3:wanted<=t'.mask)(h4:n<=wanted):t'.fits n=true:=by
 unfold fits SetTable.fill
 rw[h1,h2]
 simp
 omega
theorem zQe{Q:Unit->Shared->Prop}(g:Good knd dec led s.heap a ks)(hw:wanted<=255)(hn:ks.length<=wanted)(h:∀h',SameBut a s.heap h'->Good knd dec led h' a ks->Q () { s with heap:=h' }):wpAny (model prog w) A (setRelay a wanted) Q E s:=by
 obtain⟨o,es,ep,t,ho,hx,hd,hel,hp,nd,hb,hf,tb⟩:=g
 have ln:es.size=ks.length:=by rw[<-hp.length_eq,length_map,length_toList]
 refine Yz ho hd hf hw (by rw[ln];exact hn) λes' t' p q3 q4 q5 q6 q7 q8=>h _ (SameBut.update _ a _) ?_
 have sz:es'.size=es.size:=by rw[<-length_toList,p.length_eq,length_toList]
 exact⟨_,es',_,t',CQ (es':=es') (t':=t') ho hd,hx,rfl,hel.perm p,(p.map _).trans hp,nd,by rw[sz];exact hb,by rw[sz];exact S_ q3 q4 q5 (by rw[ln];exact hn),⟨q7.trans tb.led,λ_=>q8⟩⟩
theorem Ag{Q:Unit->Shared->Prop}(g:Good knd dec led s.heap a ks)(hw:(ks.length+more)*2<=255)(h:∀h',SameBut a s.heap h'->Good knd dec led h' a ks->Q () { s with heap:=h' }):wpAny (model prog w) A (setRoomFor a more) Q E s:=by
 obtain⟨o,es,ep,t,ho,hx,hd,hel,hp,nd,hb,hf,tb⟩:=id g
 have ln:es.size=ks.length:=by rw[<-hp.length_eq,length_map,length_toList]
 unfold setRoomFor
 refine wpAny_bind (wpAny_setState_of ho hd hf ?_)
 dsimp only
 unfold SetTable.roomFor
 have pl:t.place.size=es.size:=K5 hf
 split
 ·rename_i z
  split at z
  ·cases z
   exact zQe g (by rw[pl,ln];exact hw) (by rw[pl,ln];omega) h
  ·cases z
 ·exact wpAny_pure (h _ (SameBut.refl a s.heap) g)
theorem zIq{Q:Unit->Shared->Prop}(hr:s.heap.get? r=some { cls:=.type "set",dict:=none,data:=.set #[] 0 (.fresh 0 0 (yJ w)) })(hne:r≠o)(g:Good knd dec (yJ w) s.heap o ks)(hl:ks.length<=127)(h:∀h',SameBut r s.heap h'->Good knd dec (yJ w) h' r ks->Q () { s with heap:=h' }):wpAny (model prog w) A (setMerge r o each) Q E s:=by
 obtain⟨ob,es,ep,t,ho,hx,hd,hel,hp,nd,hb,hf,tb⟩:=id g
 have ln:es.size=ks.length:=by rw[<-hp.length_eq,length_map,length_toList]
 unfold setMerge
 rw[if_neg (by simpa using hne)]
 refine wpAny_bind (wpAny_setState_of ho hd hf ?_)
 dsimp only
 by_cases hemp:es.isEmpty=true
 ·rw[if_pos hemp]
  have e0:es.size=0:=by simpa[Array.isEmpty] using hemp
  have k0:ks=[]:=length_eq_zero_iff.mp (by rw[<-ln];exact e0)
  subst k0
  exact wpAny_pure (h _ (SameBut.refl r s.heap) (Sh hr))
 rw[if_neg hemp]
 refine wpAny_bind (wpAny_mono (Q:=λ_ s'=>∃(h1:Heap)(o1:Obj)(YB:Nat)(t1:SetTable),s'={ s with heap:=h1 }/\SameBut r s.heap h1/\h1.get? r=some o1/\o1.ExactSet/\o1.data=.set #[] YB t1/\t1.place.size=0/\t1.dummies=#[]/\t1.led=yJ w/\qg (t1.mask+1)=true/\es.size<=t1.mask) ?first ?post (λ_ _ h=>h))
 case post =>
  rintro _ _ ⟨h1,o1,YB,t1,rfl,sb,g1,x1,d1,pl,du,le,cy,rm⟩
  refine wpAny_bind (wpAny_setState_of (s:={ s with heap:=h1 }) g1 d1 (by show t1.fits 0=true;exact S_ pl du (Nat.zero_le _) (Nat.le_refl 0)) ?_)
  dsimp only
  have hfill:t1.fill=0:=by unfold SetTable.fill;rw[pl,du];rfl
  unfold SetTable.road
  rw[hfill]
  rw[if_neg (by simp)]
  by_cases hsl:(t1.mask==t.mask&&t.dummies.isEmpty)=true
  ·rw[if_pos hsl]
   refine wpAny_storeSet_of (s:={ s with heap:=h1 }) g1 d1 (h _ (sb.trans (SameBut.update _ r _)) ⟨_,es,_,_,CQ (es':=es) (t':=_) g1 d1,x1,rfl,hel,hp,nd,hb,hf,⟨?_,λz=>tb.rz (Bool.and_eq_true_iff.mp z).2⟩⟩) (fits_of_scanBound hb)
   show(t1.led&&t.led)=_
   rw[le,tb.led,Bool.and_self]
  ·rw[if_neg hsl]
   obtain⟨t',order,q1,q2,q3,q4,q5,q6,q7,q8⟩:=Yx (mask:=t1.mask) cy t1.finger t1.moves (t1.led&&t.led) (t1.plain&&t.plain) (es.map (·.1)) (by rw[size_map];exact rm)
   rw[size_map] at q2 q3
   dsimp only
   rw[q1]
   have p:=Yy es order q2
   have sz:(order.filterMap (es[·]?)).size=es.size:=by rw[<-length_toList,p.length_eq,length_toList]
   refine wpAny_bind (m:=(if((order.filterMap (es[·]?)).size != es.size)=true then unsupported "internal:set-table-lost-an-element" else pure (order.filterMap (es[·]?),t'))) ?_
   rw[if_neg (by rw[sz];simp)]
   refine wpAny_pure ?_
   refine wpAny_storeSet_of (s:={ s with heap:=h1 }) g1 d1 (h _ (sb.trans (SameBut.update _ r _)) ⟨_,_,_,t',CQ (es':=order.filterMap (es[·]?)) (t':=t') g1 d1,x1,rfl,hel.perm p,(p.map _).trans hp,nd,by rw[sz];exact hb,by rw[sz];exact S_ q3 q4 (by rw[q5];exact rm) (Nat.le_refl _),⟨?_,λ_=>q8⟩⟩) (fits_of_scanBound (by rw[sz];exact hb))
   rw[q6,le,tb.led,Bool.and_self]
 case first =>
  unfold setRoomFor
  refine wpAny_bind (wpAny_setState_of hr rfl rfl ?_)
  dsimp only
  have e1:(SetTable.fresh 0 0 (yJ w)).roomFor es.size=if(es.size*5 ≥ 21) then some (es.size*2) else none:=by
   unfold SetTable.roomFor SetTable.fill SetTable.fresh
   simp
  rw[e1]
  by_cases c:es.size*5 ≥ 21
  ·rw[if_pos c]
   refine Yz hr rfl rfl (by omega) (Nat.zero_le _) λes' t' p q3 q4 q5 q6 q7 q8=>?_
   have ee:es'=#[]:=by
    have:=p.length_eq
    rw[length_toList] at this
    exact Array.eq_empty_of_size_eq_zero this
   subst ee
   exact⟨_,_,_,t',rfl,SameBut.update _ r _,CQ (es':=#[]) (t':=t') hr rfl,⟨rfl,rfl,rfl⟩,rfl,q3,q4,q7,q6,by omega⟩
  ·rw[if_neg c]
   exact wpAny_pure ⟨s.heap,_,0,_,rfl,SameBut.refl r s.heap,hr,⟨rfl,rfl,rfl⟩,rfl,rfl,rfl,rfl,K9,by show es.size<=7;omega⟩
end
set_option maxRecDepth 100000
section
variable{prog:Program}{w:World}{κ:Type}[DecidableEq κ]{knd:KeyKind prog w κ}{dec:Value->κ}{led:Bool}{A:Around}{E:Value->Shared->Prop}{s:Shared}
theorem Lf{α:Type}(xs:Array α)(p:Nat):(eraseAt xs p).toList=xs.toList.eraseIdx p:=by
 unfold eraseAt
 rw[Array.toList_append,List.eraseIdx_eq_take_drop_succ,Array.toList_extract,Array.toList_extract]
 simp[List.extract_eq_take_drop]
 exact List.take_of_length_le (by rw[List.length_drop,length_toList];omega)
theorem zQ4{α:Type}(xs:Array α)(p:Nat)(x:α):(insertAt xs p x).size=xs.size+1:=by
 unfold insertAt
 simp
 omega
theorem Lg(hr:Rz xs)(p:Nat):Rz (eraseAt xs p):=by
 intro i k a b hik ha hb
 rw[<-getElem?_toList,Lf,List.getElem?_eraseIdx] at ha hb
 have q:∀j,xs.toList[j]?=xs[j]?:=λj=>getElem?_toList
 split at ha<;>split at hb
 ·exact hr i k a b hik (by rw[<-q];exact ha) (by rw[<-q];exact hb)
 ·exact hr i (k+1) a b (by omega) (by rw[<-q];exact ha) (by rw[<-q];exact hb)
 ·omega
 ·exact hr (i+1) (k+1) a b (by omega) (by rw[<-q];exact ha) (by rw[<-q];exact hb)
theorem zPb(hdec:∀k v,knd.is k v=true->dec v=k){Q:Bool->Shared->Prop}(hk:knd.is k x=true)(hs:x.scannable=true)(g:Good knd dec led s.heap a ks)(h:∀(h':Heap) (b:Bool),SameBut a s.heap h'->Good knd dec led h' a (ks.erase k)->(b=true↔k∈ks)->Q b { s with heap:=h' }) :
  wpAny (model prog w) A (setDiscardHashed a x (knd.hash k)) Q E s:=by
 obtain⟨o,es,ep,t,ho,hx,hd,hel,hp,nd,hb,hf,tb⟩:=id g
 unfold setDiscardHashed
 refine wpAny_bind ?_
 unfold setFind setFindIn
 refine wpAny_bind (wpAny_setState_of ho hd hf ?_)
 dsimp only
 rw[byScan_of hs hb hel]
 simp only[↓reduceIte]
 refine wpAny_bind (wpAny_rule (wpAny_bind (wpAny_setScan_of hk ho hd hf hel ?_)))
 have fi:=XH hdec hel k
 cases hr:List.findIdx? (λe=>knd.is k e.2) es.toList with
 |none =>
  have hm:k∉ks:=λz=>fi.mp hr (hp.mem_iff.mpr z)
  dsimp only
  refine wpAny_pure (wpAny_pure ?_)
  have q:=h s.heap false (SameBut.refl a s.heap)
  rw[List.erase_of_not_mem hm] at q
  exact q g ⟨λz=>(by cases z),λz=>absurd z hm⟩
 |some j =>
  obtain⟨hj,hpj,_⟩:=List.findIdx?_eq_some_iff_getElem.mp hr
  dsimp only
  rw[Nat.zero_add]
  refine wpAny_pure (wpAny_bind (wpAny_setState_of ho hd hf ?_))
  dsimp only
  have pl:t.place.size=es.size:=K5 hf
  have hj':j<t.place.size:=by rw[pl,<-length_toList];exact hj
  have sz:(eraseAt es j).size=es.size-1:=by rw[<-length_toList,Lf,length_eraseIdx,if_pos hj,length_toList]
  have ed:t.drop j={ t with place:=eraseAt t.place j,dummies:=insertAt t.dummies (SetTable.below t.dummies t.place[j]) t.place[j] }:=by
   unfold SetTable.drop
   rw[Array.getElem?_eq_getElem hj']
  have jz:j<es.size:=by rw[<-length_toList];exact hj
  have ft:(t.drop j).fits (eraseAt es j).size=true:=by
   rw[ed]
   unfold fits SetTable.fill at hf ⊢
   have e1:(eraseAt t.place j).size=es.size-1:=by rw[<-length_toList,Lf,length_eraseIdx,length_toList,if_pos hj',pl]
   dsimp only
   rw[e1,zQ4,sz]
   rw[Bool.and_eq_true,decide_eq_true_eq] at hf
   rw[Bool.and_eq_true,decide_eq_true_eq]
   refine⟨by simp,?_⟩
   have:=hf.2
   omega
  have tb':Tb led (t.drop j):=by
   rw[ed]
   exact⟨tb.led,λz=>Lg (tb.rz z) j⟩
  have hp':((eraseAt es j).toList.map λe=>dec e.2).Perm (ks.erase k):=by
   rw[Lf]
   have p1:=((O7 hj).map λe=>dec e.2).trans hp
   rw[map_cons,hdec k _ hpj] at p1
   have p2:=p1.erase k
   rw[List.erase_cons_head] at p2
   exact p2
  have km:k∈ks:=hp.mem_iff.mp (mem_map.mpr ⟨es.toList[j],getElem_mem hj,hdec k _ hpj⟩)
  refine wpAny_bind (wpAny_storeSet_of ho hd (wpAny_bind (wpAny_point (wpAny_pure (h _ true (SameBut.update _ a _) ⟨_,_,_,_,CQ (es':=eraseAt es j) (t':=t.drop j) ho hd,hx,rfl,λe he=>?_,hp',nd.erase k,by rw[sz];omega,ft,tb'⟩ ⟨λ_=>km,λ_=>rfl⟩)))) (fits_of_scanBound (by rw[sz];omega)))
  rw[Lf] at he
  exact hel e (List.mem_of_mem_eraseIdx he)
end
set_option maxRecDepth 100000
section
variable{prog:Program}{w:World}{κ:Type}[DecidableEq κ]{knd:KeyKind prog w κ}{dec:Value->κ}{led:Bool}{A:Around}{E:Value->Shared->Prop}{s:Shared}
end
set_option maxRecDepth 100000
section
variable{prog:Program}{w:World}{κ:Type}[DecidableEq κ]{knd:KeyKind prog w κ}{dec:Value->κ}{led:Bool}{A:Around}{E:Value->Shared->Prop}{s:Shared}
theorem zQw(hdec:∀k v,knd.is k v=true->dec v=k)(id:String)(hn:∀k v,knd.is k v=true->∀b,v≠.ref b)(hne:o≠r)(g:Good knd dec (yJ w) s.heap r kr)(go:Good knd dec (yJ w) s.heap o ko)(hk:kr≠[])(hl:(kr.length+ko.length)*2<=255)(hep:∀ob es e t,s.heap.get? o=some ob->ob.data=.set es e t->e=ep){Q:Unit->Shared->Prop}(h:∀(h':Heap) (ks:List κ),SameBut r s.heap h'->Good knd dec (yJ w) h' r ks->(∀k,k∈ks↔k∈kr\/k∈ko)->Q () { s with heap:=h' }) :
  wpAny (model prog w) A (setMerge r o (Builtin.Frozenset.unchanged id o ep)) Q E s:=by
 obtain⟨ob,es,ep',t,h1,h2,h3,hf,hlo,tb,hel,hp⟩:=go.size
 have e1:=hep ob es ep' t h1 h3
 subst e1
 unfold setMerge
 rw[if_neg (by simpa using(Ne.symm hne))]
 refine wpAny_bind (wpAny_setState_of h1 h3 hf ?_)
 dsimp only
 by_cases hemp:es.isEmpty=true
 ·rw[if_pos hemp]
  have e0:es.size=0:=by simpa[Array.isEmpty] using hemp
  have k0:ko=[]:=length_eq_zero_iff.mp (by rw[<-hlo];exact e0)
  subst k0
  exact wpAny_pure (h _ kr (SameBut.refl r s.heap) g λk=>by simp)
 rw[if_neg hemp]
 refine wpAny_bind (Ag g (by rw[hlo];exact hl) λh4 Gu g4=>?_)
 obtain⟨o5,es5,ep5,t5,i1,i2,i3,YC,il5,tb5,aac,ip5⟩:=g4.size
 have go4:=go.keep (h':=h4) λob' e=>by rw[Gu.2 o hne];exact e
 refine wpAny_bind (wpAny_setState_of (s:={ s with heap:=h4 }) i1 i3 YC ?_)
 dsimp only
 have hfill:t5.fill≠0:=by
  unfold SetTable.fill
  rw[K5 YC,il5]
  cases kr with
  |nil=>exact absurd rfl hk
  |cons a l=>rw[length_cons];omega
 unfold SetTable.road
 rw[if_pos (by simpa using hfill)]
 dsimp only
 refine wpAny_bind (Yn (s:={ s with heap:=h4 }) go4 g4 (λb hb=>(mem_singleton.mp hb)▸⟨kr,g4⟩) hn λes' h' sS hp' sb gr'=>?_)
 rw[<-forIn_toList]
 have ln:es'.toList.length=ko.length:=by rw[<-hp'.length_eq,length_map]
 refine wpAny_bind (wpAny_mono (wpAny_forIn_list (β:=Unit) _ (λl _ s'=>∃h2 ks,s'={ s with heap:=h2 }/\SameBut r s.heap h2/\Good knd dec (yJ w) h2 r ks/\ElemsOf knd l/\ks.length+l.length<=128/\∀k,(k∈ks\/k∈l.map λe=>dec e.2)↔(k∈kr\/k∈ko)) (λ_ s'=>∃h2 ks,s'={ s with heap:=h2 }/\SameBut r s.heap h2/\Good knd dec (yJ w) h2 r ks/\∀k,k∈ks↔k∈kr\/k∈ko) ?turn ?fin es'.toList () ⟨h',kr,rfl,Gu.trans sb,gr',sS,by rw[ln];omega,λk=>?_⟩) ?post (λ_ _ h=>h))
 case turn =>
  rintro⟨hs,v⟩ l b s' ⟨h2',ks,rfl,qj,g2,hl2,hlen,hm⟩
  obtain⟨⟨k,hk',hh⟩,hsc⟩:=hl2 _ mem_cons_self
  dsimp only at hk' hh hsc ⊢
  subst hh
  have dv:dec v=k:=hdec k v hk'
  rw[length_cons] at hlen
  have big:(129:Nat)<scanBound:=by decide
  have room:ks.length+1<scanBound:=by omega
  refine wpAny_bind (wpAny_holding (R_ (led:=yJ w) (s:={ s with heap:=h2' }) hdec hk' hsc g2 room λh3' b' Gv g3=>?_))
  have Oh:h3'.get? o=some ob:=by rw[Gv.2 o hne];show h2'.get? o=_;rw[qj.2 o hne];exact h1
  refine wpAny_bind ?_
  unfold Builtin.Frozenset.unchanged
  refine wpAny_bind (wpAny_setEpoch_of (s:={ s with heap:=h3' }) Oh h3 hf ?_)
  simp only[bne_self_eq_false,Bool.false_eq_true,↓reduceIte]
  refine wpAny_pure (wpAny_bind (wpAny_setState_of (s:={ s with heap:=h3' }) Oh h3 hf ?_))
  simp only[bne_self_eq_false,Bool.false_eq_true,↓reduceIte]
  refine wpAny_pure ⟨h3',_,rfl,qj.trans Gv,g3,λe he=>hl2 e (mem_cons_of_mem _ he),?_,λc=>?_⟩
  ·split
   ·omega
   ·rw[length_cons];omega
  ·rw[<-hm c,map_cons,mem_cons]
   show _↔(c∈ks\/(c=dec v\/_))
   rw[dv]
   have e:c∈(if k∈ks then ks else k::ks)↔c=k\/c∈ks:=by
    split
    ·rename_i z
     exact⟨.inr,λq=>q.elim (λq=>q▸z) λq=>q⟩
    ·exact mem_cons
   rw[e]
   constructor
   ·rintro((z|z)|z)
    ·exact .inr (.inl z)
    ·exact .inl z
    ·exact .inr (.inr z)
   ·rintro(z|z|z)
    ·exact .inl (.inr z)
    ·exact .inl (.inl z)
    ·exact .inr z
 case fin =>
  rintro b s' ⟨h2',ks,rfl,qj,g2,_,_,hm⟩
  refine⟨h2',ks,rfl,qj,g2,λk=>?_⟩
  rw[<-hm k]
  simp
 case post =>
  rintro b s' ⟨h2',ks,rfl,qj,g2,hm⟩
  exact wpAny_pure (h h2' ks qj g2 hm)
 ·rw[hp'.mem_iff]
theorem Gw(hdec:∀k v,knd.is k v=true->dec v=k)(id:String)(hn:∀k v,knd.is k v=true->∀b,v≠.ref b)(hne:o≠r)(g:Good knd dec (yJ w) s.heap r kr)(go:Good knd dec (yJ w) s.heap o ko)(h0:kr=[]->s.heap.get? r=some { cls:=.type "set",dict:=none,data:=.set #[] 0 (.fresh 0 0 (yJ w)) })(hl:(kr.length+ko.length)*2<=255){Q:Unit->Shared->Prop}(h:∀(h':Heap) (ks:List κ),SameBut r s.heap h'->Good knd dec (yJ w) h' r ks->(∀k,k∈ks↔k∈kr\/k∈ko)->Q () { s with heap:=h' }) :
  wpAny (model prog w) A (Builtin.Frozenset.updateFrom id r (.ref o)) Q E s:=by
 obtain⟨ob,es,ep',t,h1,h2,h3,hf,hlo,tb,hel,hp⟩:=go.size
 unfold Builtin.Frozenset.updateFrom
 refine wpAny_bind (Pa go.type ?_)
 simp only[↓reduceIte]
 refine wpAny_bind (wpAny_pure ?_)
 unfold Builtin.Frozenset.merge
 refine wpAny_bind (wpAny_setEpoch_of h1 h3 hf ?_)
 cases kr with
 |nil=>exact zIq (h0 rfl) (Ne.symm hne) go (by simp at hl;omega) λh' sb g'=>h h' ko sb g' λk=>by simp
 |cons a l =>
  refine zQw hdec id hn hne g go (λz=>by cases z) hl (λob' es' e' t' z1 z2=>?_) h
  rw[h1] at z1
  cases z1
  rw[h3] at z2
  cases z2
  rfl
end
end jQ
namespace L2
open PySem PySem.Spec PyProof.Rows jQ
section
variable{X:Cx}
end
end L2
namespace Ts
open PySem L2
section
variable{K:PySem.W.Frag}{B:Bs}{sl:SL K}{md:Md}{t1 t2:TE}
end
end Ts
namespace L2
open PySem PySem.Spec PyProof.Rows
structure Cat(K:PySem.W.Frag)(C:Addr)(m:Str)(f:Addr):Prop where
 sp:specialIn K (.ref C) "__getattribute__" = some (some (.builtin "type.__getattribute__"))
 rd:PySem.W.readsIn K C (.type "type")=true
 at_:PySem.W.findCls K (.ref C) (.type "type") m=some (.val (.ref f))
 kp:keepIn K (.ref f)=true
section
variable{X:Cx}{CX:pY}{k:Nat}{f C:Addr}{fd:FuncData}{ps:List Str}{sp:Sp}{kY:List V}{ds:List Value}{E:XK}{x m:Str}{p pos apos:Pos}{e o:Expr}{es:List Expr}{ta:TE}{t:TA}
end
end L2
namespace Sy
open PySem L2
inductive Tr where
 |all
 |mark (x:Str)
 |one (i:Fin 7) (t:Tr)
 |two (i:Fin 4) (l r:Tr)
def w1(i:Fin 7):Str:=(["not","somenext","eachnext","somealways","eachalways","someever","eachever"]:List Str).getD i.val Str.empty
def w2(i:Fin 4):Str:=(["both","either","sometill","eachtill"]:List Str).getD i.val Str.empty
def Tr.depth:Tr->Nat
 |.all=>0
 |.mark _=>0
 |.one _ t=>t.depth+1
 |.two _ l r=>max l.depth r.depth+1
def Kp(p:Addr)(H H':Hp):Prop:=∀b o,b≠p->H b=some o->H' b=some o
theorem aJ(h:H p=none)(o:HO):Same H (upd H p o):=λb u q=>by rw[zP (zQ q h)];exact q
def Lh(w:V)(q:Addr):List (Str×V):=au "parts" (.ref q) (au "word" w [])
def Li(w v:V)(q:Addr):List (Str×V):=au "part" v (Lh w q)
def Lj(w v u:V)(q:Addr):List (Str×V):=au "right" u (au "left" v (Lh w q))
def CT(x:V)(q:Addr):List (Str×V):=au "name" x (Lh x q)
theorem bZ(f:Str)(v:V):∀fs:List (Str×V),(au f v fs).length<=fs.length+1
 |[]=>Nat.le_refl _
 | (g,x)::r=>by
  unfold au
  split
  ·exact Nat.le_succ _
  ·exact Nat.succ_le_succ (bZ f v r)
structure Tc(K:PySem.W.Frag)(C:Addr):Prop where
 cl:Cls K C
 nW:aW K C "word"
 nP:aW K C "parts"
 n1:aW K C "part"
 nL:aW K C "left"
 nR:aW K C "right"
 nN:aW K C "name"
inductive Hd where
 |all
 |mark
 |one (i:Fin 7)
 |two (i:Fin 4)
def Td(C:Addr):Sp:=λvs H Q _=>∃(p dx:Addr),vs=[.ref p]/\H p=some (.ins C dx [])/\∀(q:Addr)(H':Hp),Kp p H H'->H q=none->H' q=some (.tup [])->H' p=some (.ins C dx (Lh (.str "all") q))->Q .non H'
def Te(C:Addr):Sp:=λvs H Q _=>∃(p dx:Addr)(x:V),vs=[.ref p,x]/\H p=some (.ins C dx [])/\∀(q:Addr)(H':Hp),Kp p H H'->H q=none->H' q=some (.tup [])->H' p=some (.ins C dx (CT x q))->Q .non H'
def Tf(C:Addr)(w:Str):Sp:=λvs H Q _=>∃(p dx:Addr)(v:V),vs=[.ref p,v]/\H p=some (.ins C dx [])/\∀(q:Addr)(H':Hp),Kp p H H'->H q=none->H' q=some (.tup [v])->H' p=some (.ins C dx (Li (.str w) v q))->Q .non H'
def Ti(C:Addr)(w:Str):Sp:=λvs H Q _=>∃(p dx:Addr)(v u:V),vs=[.ref p,v,u]/\H p=some (.ins C dx [])/\∀(q:Addr)(H':Hp),Kp p H H'->H q=none->H' q=some (.tup [v,u])->H' p=some (.ins C dx (Lj (.str w) v u q))->Q .non H'
inductive jT(cl:Hd->Addr)(H:Hp):Addr->Tr->Prop where
 |all {p q dx:Addr}:H p=some (.ins (cl .all) dx (Lh (.str "all") q))->H q=some (.tup [])->jT cl H p .all
 |mark {p q dx:Addr} {x:Str}:H p=some (.ins (cl .mark) dx (CT (.str x) q))->H q=some (.tup [])->jT cl H p (.mark x)
 |one {p q dx c:Addr} {i:Fin 7} {t:Tr}:H p=some (.ins (cl (.one i)) dx (Li (.str (w1 i)) (.ref c) q))->H q=some (.tup [.ref c])->jT cl H c t->jT cl H p (.one i t)
 |two {p q dx c d:Addr} {i:Fin 4} {l r:Tr}:H p=some (.ins (cl (.two i)) dx (Lj (.str (w2 i)) (.ref c) (.ref d) q))->H q=some (.tup [.ref c,.ref d])->jT cl H c l->jT cl H d r->jT cl H p (.two i l r)
def hd:Tr->Hd
 |.all=>.all
 |.mark _=>.mark
 |.one i _=>.one i
 |.two i _ _=>.two i
def hw:Tr->Str
 |.all=>"all"
 |.mark x=>x
 |.one i _=>w1 i
 |.two i _ _=>w2 i
def pts:Tr->List Tr
 |.all=>[]
 |.mark _=>[]
 |.one _ t=>[t]
 |.two _ l r=>[l,r]
def n1(i:Fin 7):Str:=(["Not","SomeNext","EachNext","SomeAlways","EachAlways","SomeEver","EachEver"]:List Str).getD i.val Str.empty
def n2(i:Fin 4):Str:=(["Both","Either","SomeTill","EachTill"]:List Str).getD i.val Str.empty
structure Ini(P:Program)(w:World)(K:PySem.W.Frag)(mg:Str->Option Value)(base:Heap)(k:Nat)(cl fi:Hd->Addr)(di:Hd->FuncData):Prop where
 made:∀h,Mk K (cl h) (fi h)
 iA:aB P w K mg base bH k (fi .all) (di .all) ["self"] (Td (cl .all))
 bA:Binds K (di .all) ["self"] []
 iM:aB P w K mg base bH k (fi .mark) (di .mark) ["self","name"] (Te (cl .mark))
 bM:Binds K (di .mark) ["self","name"] []
 i1:∀i,aB P w K mg base bH k (fi (.one i)) (di (.one i)) ["self","part"] (Tf (cl (.one i)) (w1 i))
 b1:∀i,Binds K (di (.one i)) ["self","part"] []
 i2:∀i,aB P w K mg base bH k (fi (.two i)) (di (.two i)) ["self","left","right"] (Ti (cl (.two i)) (w2 i))
 b2:∀i,Binds K (di (.two i)) ["self","left","right"] []
 mA:mg "All" = some (.ref (cl .all))
 mM:mg "Mark" = some (.ref (cl .mark))
 m1:∀i,mg (n1 i)=some (.ref (cl (.one i)))
 m2:∀i,mg (n2 i)=some (.ref (cl (.two i)))
end Sy
namespace Ts
open PySem L2 Sy
structure Jf(cl:Hd->Addr) where
 t:Tr
def Tj:Hd->Tr->Bool
 |.all,.all=>true
 |.mark,.mark _=>true
 |.one i,.one j _=>decide (j=i)
 |.two i,.two j _ _=>decide (j=i)
 |_,_=>false
def Jf.parts(x:Jf cl):List (Jf cl):=(pts x.t).map Jf.mk
def Jf.name(x:Jf cl):Option Str:=match x.t with
 |.mark s=>some s
 |_=>none
structure aad(P:Program)(w:World)(K:PySem.W.Frag)(mg:Str->Option Value)(base:Heap)(k:Nat)(cl fi:Hd->Addr)(di:Hd->FuncData):Prop where
 ini:Ini P w K mg base k cl fi di
 kd:∀h,Tc K (cl h)
 Ot:∀h h':Hd,∀t:Tr,hd t=h->kitOne K (.ref (cl h)) (.ref (cl h'))=some (Tj h' t)
 c1:∀h,findIn K (.ref (cl h)) "__class__" = some (some (.builtin "object.__class__"))
 c2:specialIn K (.builtin "object.__class__") "__get__" = some (some (.builtin "getset_descriptor.__get__"))
 c3:PySem.W.takesIn K (.builtin "object.__class__")=some true
 c4:∀h,PySem.W.mroIn K (cl h) (.type "object")=some true
section
variable{K:PySem.W.Frag}{cl:Hd->Addr}
end
section
variable{K:PySem.W.Frag}{B:Bs}{F H H2:Hp}{O:Own}
end
section
variable{P:Program}{w:World}{K:PySem.W.Frag}{mg:Str->Option Value}{base:Heap}{B:Bs}{sl:SL K}{md:Md}{te t1 t2:TE}{cl fi:Hd->Addr}{di:Hd->FuncData}{k:Nat}
end
section
variable{K:PySem.W.Frag}{B:Bs}{sl:SL K}{md:Md}{te:TE}{α:Type}[Rp K α]
end
end Ts
namespace Lk
open PySem PySem.Spec PyProof.Rows
set_option maxRecDepth 100000
section
variable{prog:Program}{w:World}{A:Around}{E:Value->Shared->Prop}{s:Shared}
abbrev Tn(h:Heap)(z TI TO T:Addr)(b:Bool):Prop :=
 h.get? z=some { cls:=.type "zip",dict:=none,data:=.fields #[rawInt T,.bool b,.bool false,.ref TI,.ref TO],slots:=#[] }
structure ZSt(h:Heap)(S z TI TO i1 i2 l1 l2 N i:Nat)(xs ys acc:Array Value):Prop where
 sz:h.objs.size=N+i
 zz:(i=0/\IsZip h z TI TO .none/\∃a b,IsPair h TO a b)\/(0<i/\∃b,Tn h z TI TO N b)
 ti:IsPair h TI (.ref i1) (.ref i2)
 h1:h.IsListIter i1 l1 i
 h2:h.IsListIter i2 l2 i
 q1:h.IsList l1 xs
 q2:h.IsList l2 ys
 ls:∃c,h.get? S=some { cls:=.type "list",dict:=none,data:=.seq acc c,slots:=#[] }
 al:acc.toList=(List.range i).map λj=>Value.ref (N+j)
 tp:∀j x y,j<i->xs[j]?=some x->ys[j]?=some y->IsPair h (N+j) x y
variable{R:Result->Shared->Prop}
end
section
variable{prog:Program}{w:World}{A:Around}{E:Value->Shared->Prop}{s:Shared}
end
end Lk
namespace L2
open PySem PySem.Spec PyProof.Rows Lk
end L2
namespace Ts
open PySem L2
section
variable{K:PySem.W.Frag}{B:Bs}{sl:SL K}{md:Md}{t1 t2:TE}{α β:Type}[Rp K α][Rp K β]
end
open PySem L2 Sy
inductive pQ where
 |none
 |step (n:Int)
 |shut
 |walk (xs:LI)
 |out
 |loop (xs ys:LI)
 |rank (n:Int) (o:Option Int)
 |here
 |dead
 |plain
def pQ.word:pQ->Str
 |.none=>"none"
 |.step _=>"step"
 |.shut=>"shut"
 |.walk _=>"walk"
 |.out=>"out"
 |.loop _ _=>"loop"
 |.rank _ _=>"rank"
 |.here=>"here"
 |.dead=>"dead"
 |.plain=>"plain"
def pQ.len:pQ->Int
 |.step _=>2
 |.walk _=>2
 |.loop _ _=>3
 |.rank _ _=>3
 |_=>1
def pQ.at1:pQ->Option Int
 |.step n=>some n
 |.rank n _=>some n
 |_=>Option.none
section
variable{K:PySem.W.Frag}
def pQ.rest(K:PySem.W.Frag)(F:Hp):pQ->List V->Prop
 |.step n,vs=>vs=[.int n]
 |.walk xs,vs=>∃a,vs=[a]/\rp K F a xs
 |.loop xs ys,vs=>∃a b,vs=[a,b]/\rp K F a xs/\rp K F b ys
 |.rank n o,vs=>∃b,vs=[.int n,b]/\rp K F b o
 |_,vs=>vs=[]
theorem pQ.qm(s:Same F F'):∀{r:pQ}{vs:List V},r.rest K F vs->r.rest K F' vs
 |.step _,_,h=>h
 |.walk _,_,⟨a,h1,h2⟩=>⟨a,h1,Rp.mono s h2⟩
 |.loop _ _,_,⟨a,b,h1,h2,h3⟩=>⟨a,b,h1,Rp.mono s h2,Rp.mono s h3⟩
 |.rank _ _,_,⟨b,h1,h2⟩=>⟨b,h1,Rp.mono s h2⟩
 |.none,_,h=>h
 |.shut,_,h=>h
 |.out,_,h=>h
 |.here,_,h=>h
 |.dead,_,h=>h
 |.plain,_,h=>h
instance:Rp K pQ:=⟨λF v r=>∃p vs,v=.ref p/\F p=some (.tup (.str r.word::vs))/\r.rest K F vs,λs ⟨p,vs,h1,h2,h3⟩=>⟨p,vs,h1,s _ _ h2,pQ.qm s h3⟩⟩
instance:Nn K pQ:=⟨λ⟨_,_,h,_⟩=>by rw[h];intro e;cases e⟩
instance:Ty K pQ:=⟨.type "tuple",λ⟨p,_,e,h,_⟩=>by rw[e];exact .tup h⟩
end
section
variable{K:PySem.W.Frag}{B:Bs}{sl:SL K}{md:Md}{te t1 t2:TE}
end
end Ts
namespace L2
open PySem PySem.Spec PyProof.Rows
section
variable{X:Cx}
def Ln:V->Option Int->Option Int->Hp->VK->Prop:=λx lo hi H Q=>∃z j,x=.str z/\lo=none/\hi=some j/\z.length<=sizeLine/\Q (.str (Txt.slice z none (some j))) H
theorem Gx:Wd X Ln:=by
 intro pins s σ H x v vl vu lo hi sl Q I rx hs pl pu h
 obtain⟨z,j,rfl,rfl,rfl,hz,q⟩:=h
 obtain⟨t,rfl⟩:=rx
 cases pl
 cases pu with
 |int _ tk =>
  refine⟨"str",_,PySem.F.slot_str_getitem.lookup,typeIs_str _ _ _,?_⟩
  exact wpAny_getItem_str_slice (l:=none) (u:=some (j,tk)) (st:=none) hs rfl (post_val_or_str ⟨Nat.le_trans (Txt.slice_le z _ _) hz,λt' k=>⟨.str _,H,I.tok k,⟨t',rfl⟩,q⟩⟩)
def CV:R2:=λx y H Q=>∃i j,x=.str i/\y=.str j/\i.length+j.length<=sizeLine/\Q (.str (i++j)) H
theorem Tq:jA X (binaryOp .Add) CV:=zLb
def CW:R2:=λx y H Q=>∃z i c,x=.str z/\y=.int i/\0<=i/\i<2^63/\i<z.length/\z.cps[i.toNat]?=some c/\Q (.str ⟨#[c]⟩) H
theorem YD(ha:PE X a ta)(hb:PE X b tb)(hs:VF b):PE X (.Subscript a b pos) (jk CW ta tb):=zIf ha hb hs
end
end L2
namespace Ts
open PySem L2
section
variable{K:PySem.W.Frag}{B:Bs}{sl:SL K}{md:Md}{t t1 t2:TE}
def jU(a b:Str):Option Str:=if a.length+b.length<=1000 then some (a++b) else none
theorem Tt(h1:Ex B sl .hp t1 m1)(h2:Ex B sl .hp t2 m2):Ex B sl md (jk CV t1 t2) (m1.bind λa=>m2.bind λb=>jU a b):=λc hc F O H σ Q s k=>by
 obtain⟨a,b,ha,hb,hf⟩:=qO hc
 unfold jU at hf
 split at hf
 case isFalse=>cases hf
 rename_i hl
 cases hf
 refine h1 a ha F O H σ _ s λv F' H' g r1=>?_
 refine h2 b hb F' O H' σ _ (s.grow g) λw F2 H2 g2 r2=>?_
 cases r1
 cases r2
 exact⟨a,b,rfl,rfl,Nat.le_trans hl (by decide),k _ F2 H2 (g.trans g2) rfl⟩
def Ah(z:Str)(i:Int):Option Str:=if 0<=i/\i<2^63/\i<z.length then(z.cps[i.toNat]?).map λc=>⟨#[c]⟩ else none
theorem YF(h1:Ex B sl .hp t1 m1)(h2:Ex B sl .hp t2 m2):Ex B sl md (jk CW t1 t2) (m1.bind λa=>m2.bind λb=>Ah a b):=λc hc F O H σ Q s k=>by
 obtain⟨a,b,ha,hb,hf⟩:=qO hc
 unfold Ah at hf
 split at hf
 case isFalse=>cases hf
 rename_i hl
 cases e:a.cps[b.toNat]? with
 |none=>rw[e] at hf;cases hf
 |some z =>
  rw[e] at hf
  cases hf
  refine h1 a ha F O H σ _ s λv F' H' g r1=>?_
  refine h2 b hb F' O H' σ _ (s.grow g) λw F2 H2 g2 r2=>?_
  cases r1
  cases r2
  exact⟨a,b,z,rfl,rfl,hl.1,hl.2.1,hl.2.2,e,k _ F2 H2 (g.trans g2) rfl⟩
def Ai(z:Str)(j:Int):Option Str:=if z.length<=1000 then some (Txt.slice z none (some j)) else none
theorem Aj(h1:Ex B sl .hp t1 m1)(h2:Ex B sl .hp t2 m2):Ex B sl md (Wf Ln t1 Wc (B_ t2)) (m1.bind λa=>m2.bind λb=>Ai a b):=λc hc F O H σ Q s k=>by
 obtain⟨a,b,ha,hb,hf⟩:=qO hc
 unfold Ai at hf
 split at hf
 case isFalse=>cases hf
 rename_i hl
 cases hf
 refine h1 a ha F O H σ _ s λv F' H' g r1=>?_
 refine h2 b hb F' O H' σ _ (s.grow g) λw F2 H2 g2 r2=>?_
 cases r1
 cases r2
 exact⟨b,rfl,a,b,rfl,rfl,rfl,Nat.le_trans hl (by decide),k _ F2 H2 (g.trans g2) rfl⟩
end
section
variable{K:PySem.W.Frag}{B:Bs}{sl:SL K}{F H H' L L':Hp}{O:Own}{σ:St}{α:Type}[Rp K α]
end
open PySem L2 Sy
open PySem.SeqAt (EqAt RcAt RcNeAt)
section
variable{K:PySem.W.Frag}
variable{B:Bs}{sl:SL K}{md:Md}{t1 t2:TE}
end
theorem Lp{β:Type}[Rp K β]{m:Option β}(sl2:SL K)(h:SB B sl2 t al m)(e:sl=sl2:=by rfl):SB B sl t al m:=e▸h
section
variable{K:PySem.W.Frag}{B:Bs}{sl:SL K}{md:Md}{β:Type}[Rp K β]
end
structure RL(p:Addr) where
 ws:LI
section
variable{K:PySem.W.Frag}{B:Bs}{sl:SL K}{F H:Hp}{O:Own}{σ:St}{md:Md}{β:Type}[Rp K β]{p:Addr}{ws:LI}
instance:Rp K (RL p):=⟨λF v x=>v=.ref p/\F p=some (.lst (x.ws.map V.int)),λs ⟨h1,h2⟩=>⟨h1,s _ _ h2⟩⟩
end
section
variable{K:PySem.W.Frag}{B:Bs}{sl:SL K}{F H:Hp}{O:Own}{σ:St}{md:Md}{α β S:Type}[Rp K α][Rp K β]{p:Addr}{ws:LI}{te:TE}{t u:TS}
end
section
variable{P:Program}{w:World}{K:PySem.W.Frag}{mg:Str->Option Value}{base:Heap}
end
section
variable{K:PySem.W.Frag}{B:Bs}{sl:SL K}{md:Md}{α β S:Type}[Rp K α][Rp K β]{te:TE}
end
section
variable{K:PySem.W.Frag}{B:Bs}{sl:SL K}{md:Md}{α β S:Type}[Rp K α][Rp K β]{te:TE}{p:Addr}{ws:LI}
structure Fr(p:Addr)(F H F' H':Hp):Prop where
 ff:Same F F'
 hh:∀b o,b≠p->H b=some o->H' b=some o
 nw:∀b,F b=none->H b≠none->F' b=none
end
section
variable{K:PySem.W.Frag}{B:Bs}{sl:SL K}{md:Md}{α β S:Type}[Rp K α][Rp K β]{te:TE}{p:Addr}{ws:LI}{n n':Bool}
end
section
variable{K:PySem.W.Frag}{B:Bs}{sl:SL K}{md:Md}{α β S:Type}[Rp K α][Rp K β]{te t1 t2:TE}{p:Addr}
end
section
variable{K:PySem.W.Frag}{B:Bs}{sl:SL K}{F H:Hp}{O:Own}{σ:St}
end
structure qU(α β γ:Type) where
 a:α
 b:β
 c:γ
section
variable{K:PySem.W.Frag}{B:Bs}{sl:SL K}{md:Md}{n:Bool}{α β γ S:Type}[Rp K α][Rp K β][Rp K γ]{te t1 t2 t3:TE}
instance:Rp K (qU α β γ):=⟨λF v x=>∃p u w z,v=.ref p/\F p=some (.tup [u,w,z])/\rp K F u x.a/\rp K F w x.b/\rp K F z x.c,λs ⟨p,u,w,z,h1,h2,h3,h4,h5⟩=>⟨p,u,w,z,h1,s _ _ h2,Rp.mono s h3,Rp.mono s h4,Rp.mono s h5⟩⟩
instance:Nn K (qU α β γ):=⟨λ⟨_,_,_,_,h,_⟩=>by rw[h];intro e;cases e⟩
theorem YG{m1:Option α}{m2:Option β}{m3:Option γ}(h1:Ex B sl md t1 m1)(h2:Ex B sl md t2 m2)(h3:Ex B sl md t3 m3):Ex B sl md (Eh (xQ t1 (xQ t2 (xQ t3 bD)))) (m1.bind λa=>m2.bind λb=>m3.bind λc=>some (qU.mk a b c)):=λd hd F O H σ Q s kk=>by
 cases m1 with
 |none=>cases hd
 |some a =>
  cases m2 with
  |none=>cases hd
  |some b =>
   cases m3 with
   |none=>cases hd
   |some c =>
    cases(show some (qU.mk a b c)=some d from hd)
    refine h1 a rfl F O H σ _ s λv F1 H1 g1 r1=>?_
    refine h2 b rfl F1 O H1 σ _ (s.grow g1) λw F2 H2 g2 r2=>?_
    refine h3 c rfl F2 O H2 σ _ ((s.grow g1).grow g2) λu F3 H3 g3 r3=>?_
    refine⟨by show 3<=sizeLine;decide,λp hp=>?_⟩
    have g4:=bx.new g3.ok hp (.tup [v,w,u])
    exact kk _ _ _ (g1.trans (g2.trans (g3.trans g4))) ⟨p,v,w,u,rfl,Ke g3.ok hp md,Rp.mono (wK (g2.trans (g3.trans g4)) md) r1,Rp.mono (wK (g3.trans g4) md) r2,Rp.mono (wK g4 md) r3⟩
theorem Ak(i j l:Nat)(hs:sl[i]?=some s)(ho:gU s=false)(hs':∀x:Slot K,(sl.set i x)[j]?=some s')(ho':gU s'=false)(hs2:∀x y:Slot K,((sl.set i x).set j y)[l]?=some s2)(ho2:gU s2=false) :
  Tg B sl n (uy K 3 (Ik (m5 i) (Ik (m5 j) (Ik (m5 l) DY)))) (λx:qU α β γ=>((sl.set i (.fz n x.a)).set j (.fz n x.b)).set l (.fz n x.c)):=λv x F O H σ Q a r k=>by
 obtain⟨p,w1,w2,w3,rfl,h1,h2,h3,h4⟩:=r
 refine⟨p,[w1,w2,w3],rfl,.inl (.inl (W9 a.1 h1)),rfl,w1,[w2,w3],rfl,w2,[w3],rfl,w3,[],rfl,rfl,?_⟩
 exact k _ ⟨a.1,((a.2.put (s':=.fz n x.a) (λ_ _ _ z=>.fz h2 z) hs ho).put (s':=.fz n x.b) (λ_ _ _ z=>.fz h3 z) (hs' _) ho').put (λ_ _ _ z=>.fz h4 z) (hs2 _ _) ho2⟩
end
section
variable{K:PySem.W.Frag}{B:Bs}{sl:SL K}{md:Md}{te:TE}
end
section
variable{K:PySem.W.Frag}{B:Bs}{sl sl2:SL K}{md:Md}{te:TE}{t:TS}{β:Type}[Rp K β]{p:Addr}
end
section
variable{K:PySem.W.Frag}{B:Bs}{sl:SL K}{F H:Hp}{O:Own}{σ:St}{t u:TS}{al:Bool}{α β S A A1 A2:Type}[Rp K α][Rp K β]{b:β}
end
end Ts
namespace L2
open PySem PySem.Spec PyProof.Rows
section
variable{X:Cx}
end
end L2
namespace Ts
open PySem L2
open PySem.SeqAt (EqAt RcAt RcNeAt)
section
variable{K:PySem.W.Frag}{B:Bs}{sl:SL K}{md:Md}{te t1 t2:TE}{α β γ δ:Type}[Rp K α][Rp K β][Rp K γ][Rp K δ]
theorem YH{n:Bool}{xs:List α}(i:Nat)(hs:sl[i]?=some (.ow n xs))(hh:sl.all (λs=>!oG s)=true):Sn B sl (Ih (Eu K "list" Wn (dU i))) (λys=>sl.set i (.ow n ys)) (some xs.reverse):=λa ha G D σ H s k=>by
 cases ha
 obtain⟨F,O,g,z⟩:=s
 obtain⟨p,vs,h1,h2,h3,h4⟩:=z.chg hs hh
 obtain⟨O',z'⟩:=h4 vs.reverse xs.reverse h3.rev
 exact⟨_,h1,.inl ⟨rfl,vs,aZ.of h2⟩,p,vs,rfl,rfl,h2,k _ _ ⟨F,O',g,z'⟩⟩
theorem Gy{L:α->SL K}(h:Ex B sl (jH n) te m)(hg:Tg B sl n g L):Sn B sl (lg te g) L m:=λa ha G D σ H s k=>by
 obtain⟨F,O,g0,z⟩:=s
 exact h a ha F O H σ _ z λv F' H' gr r=>hg v a F' O H' σ _ (z.grow gr) r λσ' z'=>k _ _ ⟨F',O,g0.trans gr.ff,z'⟩
end
section
variable{K:PySem.W.Frag}{α β γ:Type}[Rp K α][DecidableEq α][Eqv K α][Rp K β][DecidableEq β][Eqv K β][Rp K γ][DecidableEq γ][Eqv K γ]{X:Cx}{pins:List (Addr×Obj)}{σ:St}{H:Hp}{s:Shared}{A:Around}{a b:qU α β γ}{p p':Addr}{v1 v2 v3 w1 w2 w3:V}
end
section
variable{K:PySem.W.Frag}{B:Bs}{sl:SL K}{md:Md}{te:TE}{β S:Type}[Rp K β]{p:Addr}{ws:LI}{g:TG}{tb:TS}
end
section
variable{K:PySem.W.Frag}{B:Bs}{sl slE slW:SL K}{md:Md}{te:TE}{F F' H H' L L':Hp}{O:Own}{σ:St}{α β γ:Type}[Rp K α][Rp K β][Rp K γ]
inductive nj:SL K->Prop
 |nil:nj []
 |nu {a:SL K}:nj a->nj (.nu (yt.mk ())::a)
 |oth {s:Slot K} {a:SL K}:Ku s=false->nj a->nj (s::a)
inductive Lq:SL K->SL K->SL K->Prop
 |nil:Lq [] [] []
 |nu {α:Type} [Rp K α] [IsL K α] {x:α} {a b c:SL K}:Lq a b c->Lq (.nu x::a) (.fz true x::b) (.nu (yt.mk ())::c)
 |oth {s:Slot K} {a b c:SL K}:Ku s=false->gU s=false->Lq a b c->Lq (s::a) (.un::b) (s::c)
end
end Ts
namespace L2
open PySem PySem.Spec PyProof.Rows
section
variable{X:Cx}
end
end L2
namespace Ts
open PySem L2
section
variable{K:PySem.W.Frag}{mg:Str->Option Value}{B:Bs}{sl:SL K}{md:Md}{te t1 t2:TE}{C:Addr}{α β γ S:Type}[Rp K α][Rp K β][Rp K γ]{u:TS}{al:Bool}
end
end Ts
namespace L2
open PySem PySem.Spec PyProof.Rows
section
variable{X:Cx}
end
end L2
namespace Ts
open PySem L2
section
variable{K:PySem.W.Frag}{B:Bs}{sl:SL K}{md:Md}{α β:Type}[Rp K α][Rp K β]{te t1 t2:TE}
end
end Ts
namespace PySem
open Sem (wp)
structure IK(prog:Program)(w:World)(α:Type)[DecidableEq α] where
 is:Heap->α->Value->Prop
 hash:α->Int
 draws:α->Nat
 inj:∀{h:Heap}{v:Value}{x y:α},is h x v->is h y v->x=y
 keeps:∀{h h':Heap}{k:α}{v:Value}{d:Addr}{o:Obj}{es ep},is h k v->h.get? d=some o->o.data=.dict es ep->SameBut d h h'->is h' k v
 pyHash:∀{A:Around}{E:Value->Shared->Prop}{s:Shared}{k:α}{v:Value}{Q:Int->Shared->Prop},A.units<cLine->is s.heap k v->Q (hash k) { s with toks:=s.toks+draws k }->wpAny (model prog w) A (PySem.pyHash v) Q E s
 eqBool:∀{A:Around}{E:Value->Shared->Prop}{s:Shared}{x y:α}{u v:Value}{Q:Bool->Shared->Prop},A.units<cLine->is s.heap x u->is s.heap y v->Q (decide (x=y)) s->wpAny (model prog w) A (PySem.eqBool u v) Q E s
 quiet:∀{A:Around}{E:Value->Shared->Prop}{s:Shared}{k:α}{v:Value}{Q:Bool->Shared->Prop},is s.heap k v->Q true s->wpAny (model prog w) A (eqIsQuiet 7 v) Q E s
section
variable{prog:Program}{w:World}{α β:Type}[DecidableEq α][DecidableEq β]
def Gz(knd:KeyKind prog w α):IK prog w α where
 is:=λ_ k v=>knd.is k v=true
 hash:=knd.hash
 draws:=λ_=>1
 inj:=λh1 h2=>knd.inj _ _ _ h1 h2
 keeps:=λh _ _ _=>h
 pyHash:=λ_ h q=>knd.pyHash h q
 eqBool:=λ_ h1 h2 q=>knd.eqBool h1 h2 q
 quiet:=λh q=>by rw[eqIsQuiet_byValue _ (knd.byValue _ _ h)];exact wpAny_pure q
theorem GC{knd:KeyKind prog w α}{A:Around}{E:Value->Shared->Prop}{s:Shared}{ks:List α}{a:Addr}{Q:Bool->Shared->Prop}(hk:IsTupleKey knd s.heap ks a)(h:Q true s):wpAny (model prog w) A (eqIsQuiet 7 (.ref a)) Q E s:=by
 have hT:=hk.typeIs
 obtain⟨o,items,n,ho,_,hd,hi⟩:=hk
 unfold eqIsQuiet
 refine wpAny_bind (wpAny_specialOf hT F.slot_tuple_eq.lookup ?_);show wpAny _ _ (isInstance (.ref a) (.type "tuple") >>= _) _ _ s
 refine wpAny_bind (wpAny_isInstance hT isSubtype_tuple_tuple ?_);simp only[Bool.not_true,Bool.false_eq_true,if_false]
 refine wpAny_bind (wpAny_seqItems ho hd (wpAny_bind ?_));show wpAny _ _ (forIn items _ _) _ _ s
 rw[<-forIn_toList]
 refine wpAny_forIn_list _ (λrest r s'=>r.1=none/\s'=s/\∀v∈rest,carriedByValue v=true) _ (λv rest r s' q=>?_) (λr s' q=>?_) _ _ ⟨rfl,rfl,hi.byValue⟩
 ·obtain⟨hr,rfl,hall⟩:=q
  rw[eqIsQuiet_byValue _ (hall v mem_cons_self)]
  refine wpAny_bind (wpAny_pure ?_)
  rw[if_neg (by decide)]
  exact wpAny_pure ⟨rfl,rfl,λu hu=>hall u (mem_cons_of_mem _ hu)⟩
 ·obtain⟨r1,r2⟩:=r
  obtain⟨hr,rfl,_⟩:=q
  have hr:r1=none:=hr
  subst hr
  exact wpAny_pure h
def Lr(knd:KeyKind prog w α):IK prog w (List α) where
 is:=λh k v=>∃a,v=.ref a/\IsTupleKey knd h k a
 hash:=tupleKeyHash knd
 draws:=λks=>ks.length+1
 inj:=λ⟨a,e,h1⟩ ⟨b,e2,h2⟩=>by rw[e] at e2;cases e2;exact h1.inj h2
 keeps:=λ⟨a,e,h⟩ ho hd hs=>⟨a,e,h.keeps ho hd hs⟩
 pyHash:=λhu ⟨a,e,h⟩ q=>by rw[e];exact wpAny_pyHash_tuple hu h q
 eqBool:=λhu ⟨a,e,h1⟩ ⟨b,e2,h2⟩ q=>by rw[e,e2];exact wpAny_eqBool_tuple hu h1 h2 q
 quiet:=λ⟨a,e,h⟩ q=>by rw[e];exact GC h q
def bh(k1:IK prog w α)(k2:IK prog w β)(h:Heap)(x:α×β)(a:Addr):Prop:=∃o u v n,h.get? a=some o/\o.cls=.type "tuple" /\ o.data=.seq #[u,v] n/\k1.is h x.1 u/\k2.is h x.2 v
variable{k1:IK prog w α}{k2:IK prog w β}
theorem bh.ty{s:Shared}(h:bh k1 k2 s.heap x a):s.TypeIs (.ref a) "tuple":=let⟨o,_,_,_,ho,hc,_⟩:=h;⟨o,ho,hc⟩
theorem bh.inj(hx:bh k1 k2 h x a)(hy:bh k1 k2 h y a):x=y:=by
 obtain⟨o,u,v,n,ho,_,hd,i1,i2⟩:=hx
 obtain⟨o',u',v',n',ho',_,hd',j1,j2⟩:=hy
 cases ho.symm.trans ho'
 rw[hd] at hd'
 cases hd'
 exact Prod.ext (k1.inj i1 j1) (k2.inj i2 j2)
def Tv(k1:IK prog w α)(k2:IK prog w β)(x:α×β):Int:=reduceHash (Builtin.Tuple.tupleHashOf [k1.hash x.1,k2.hash x.2])
variable{A:Around}{E:Value->Shared->Prop}{s:Shared}
theorem zNl{Q:Int->Shared->Prop}(hu:A.units+1<cLine)(hk:bh k1 k2 s.heap x a)(h:Q (Tv k1 k2 x) { s with toks:=s.toks+(k1.draws x.1+k2.draws x.2+1) }):wpAny (model prog w) A (pyHash (.ref a)) Q E s:=by
 have hT:=hk.ty
 obtain⟨o,u,v,n,ho,_,hd,i1,i2⟩:=hk
 unfold pyHash
 first|unfold pyHashByItsType|skip
 first|refine wpAny_bind (wpAny_cRoomFor_or (.inr (Nat.lt_of_succ_lt hu)) ?_)|skip
 refine wpAny_bind (wpAny_specialOf hT F.slot_tuple_hash.lookup ?_);show wpAny _ _ (if(some (Value.builtin "tuple.__hash__")==some Value.none)=true then _ else _) Q E s
 rw[if_neg (by rw[beq_builtin_none];exact Bool.false_ne_true)]
 refine wpAny_bind (wpAny_specialOf hT F.slot_tuple_hash.lookup ?_);show wpAny _ _ (callSpecialIfBoundUnlessNone? (.ref a) "__hash__" _ >>= _) Q E s
 refine wpAny_bind (wpAny_callSpecialIfBoundUnlessNone?_slot hT F.slot_tuple_hash (wpAny_call_entry F.slot_tuple_hash hT F.entry_tuple_hash ?_ (F.args_tuple_hash_1 _)));show wpAny _ _ (Builtin.Tuple.tupleItemsOf (.ref a) >>= _) _ _ s
 refine wpAny_bind (wpAny_tupleItemsOf ho hd (wpAny_bind ?_))
 rw[<-forIn_toList]
 show wpAny _ _ (forIn [u,v] _ _) _ _ s
 rw[forIn_cons]
 refine wpAny_bind (wpAny_bind (k1.pyHash (by exact hu) i1 ?_))
 refine wpAny_pure ?_
 show wpAny _ _ (forIn [v] (#[].push (k1.hash x.fst)) _) _ _ _
 rw[forIn_cons]
 refine wpAny_bind (wpAny_bind (k2.pyHash (by exact hu) i2 (wpAny_pure ?_)))
 show wpAny _ _ (forIn [] ((#[].push (k1.hash x.fst)).push (k2.hash x.snd)) _) _ _ _
 rw[forIn_nil]
 refine wpAny_pure ?_
 show wpAny _ _ (retInt (Builtin.Tuple.tupleHashOf [k1.hash x.fst,k2.hash x.snd])) _ _ _
 refine wpAny_ret_mkInt ?_
 have et:s.toks+k1.draws x.fst+k2.draws x.snd+1=s.toks+(k1.draws x.1+k2.draws x.2+1):=by omega
 unfold Tv reduceHash at h
 show wpAny _ _ (if(decide (-(2:Int)^63<=Builtin.Tuple.tupleHashOf [k1.hash x.fst,k2.hash x.snd])&&decide (Builtin.Tuple.tupleHashOf [k1.hash x.fst,k2.hash x.snd]<2^63))=true then _ else _) Q E _
 split
 ·rename_i hr
  rw[if_pos hr] at h
  refine wpAny_pure ?_
  rw[et]
  exact h
 ·rename_i hr
  rw[if_neg hr] at h
  refine wpAny_bind (wpAny_rule (wpAny_pure ?_))
  rw[et]
  exact h
theorem Al{Q:Bool->Shared->Prop}(hu:A.units+1<cLine)(hx:bh k1 k2 s.heap x a)(hy:bh k1 k2 s.heap y b)(h:Q (decide (x=y)) s):wpAny (model prog w) A (eqBool (.ref a) (.ref b)) Q E s:=by
 unfold eqBool
 try with_reducible refine wpAny_holding ?_
 show wpAny _ _ (if(Value.ref a==Value.ref b)=true then _ else _) Q E s
 by_cases hab:(Value.ref a==Value.ref b)=true
 ·rw[if_pos hab]
  have e:a=b:=by have:=eq_of_beq hab;injection this
  subst e
  obtain rfl:=hx.inj hy
  exact wpAny_bind (wpAny_rule (wpAny_pure (by rw[decide_eq_true rfl] at h;exact h)))
 ·rw[if_neg hab]
  have ta:=hx.ty
  have tb:=hy.ty
  obtain⟨oa,u,v,na,hoa,_,hda,i1,i2⟩:=hx
  obtain⟨ob,u',v',nb,hob,_,hdb,j1,j2⟩:=hy
  refine wpAny_bind (wpAny_richCompare_same_room (op:=.Eq) ta tb F.slot_tuple_eq (wpAny_call_entry F.slot_tuple_eq ta F.entry_tuple_eq ?_ (F.args_tuple_eq_2 _ _)) (Nat.lt_of_succ_lt hu))
  show wpAny _ _ (isInstance (.ref b) (.type "tuple") >>= _) _ _ s
  refine wpAny_bind (wpAny_isInstance tb isSubtype_tuple_tuple ?_)
  rw[if_neg (by decide)]
  refine wpAny_bind (wpAny_tupleItemsOf hoa hda (wpAny_bind (wpAny_tupleItemsOf hob hdb (wpAny_bind ?_))))
  show wpAny _ _ (forIn [(u,u'),(v,v')] _ _) _ _ s
  rw[forIn_cons]
  refine wpAny_bind (wpAny_bind (k1.eqBool (by exact hu) i1 j1 ?_))
  by_cases q1:x.1=y.1
  ·rw[if_neg (by rw[decide_eq_true q1];decide)]
   refine wpAny_pure ?_
   show wpAny _ _ (forIn [(v,v')] _ _) _ _ s
   rw[forIn_cons]
   refine wpAny_bind (wpAny_bind (k2.eqBool (by exact hu) i2 j2 ?_))
   by_cases q2:x.2=y.2
   ·rw[if_neg (by rw[decide_eq_true q2];decide)]
    refine wpAny_pure ?_
    show wpAny _ _ (forIn [] _ _) _ _ s
    rw[forIn_nil]
    have e:decide (x=y)=true:=decide_eq_true (Prod.ext q1 q2)
    rw[e] at h
    exact wpAny_pure (wpAny_pure ⟨_,rfl,(λe=>nomatch e),wpAny_truthy_bool h⟩)
   ·rw[if_pos (by rw[decide_eq_false q2];decide)]
    have e:decide (x=y)=false:=decide_eq_false λz=>q2 (by rw[z])
    rw[e] at h
    exact wpAny_bind (wpAny_pure (wpAny_pure (wpAny_pure (wpAny_pure ⟨_,rfl,(λe=>nomatch e),wpAny_truthy_bool h⟩))))
  ·rw[if_pos (by rw[decide_eq_false q1];decide)]
   have e:decide (x=y)=false:=decide_eq_false λz=>q1 (by rw[z])
   rw[e] at h
   exact wpAny_bind (wpAny_pure (wpAny_pure (wpAny_pure (wpAny_pure ⟨_,rfl,(λe=>nomatch e),wpAny_truthy_bool h⟩))))
theorem zK9{Q:Bool->Shared->Prop}(hk:bh k1 k2 s.heap x a)(h:Q true s):wpAny (model prog w) A (eqIsQuiet 8 (.ref a)) Q E s:=by
 have hT:=hk.ty
 obtain⟨o,u,v,n,ho,_,hd,i1,i2⟩:=hk
 unfold eqIsQuiet
 refine wpAny_bind (wpAny_specialOf hT F.slot_tuple_eq.lookup ?_);show wpAny _ _ (isInstance (.ref a) (.type "tuple") >>= _) _ _ s
 refine wpAny_bind (wpAny_isInstance hT isSubtype_tuple_tuple ?_);simp only[Bool.not_true,Bool.false_eq_true,if_false]
 refine wpAny_bind (wpAny_seqItems ho hd (wpAny_bind ?_))
 show wpAny _ _ (forIn (#[u,v]:Array Value) _ _) _ _ s
 rw[<-forIn_toList]
 show wpAny _ _ (forIn [u,v] _ _) _ _ s
 rw[forIn_cons]
 refine wpAny_bind (wpAny_bind (k1.quiet i1 ?_))
 rw[if_neg (by decide)]
 refine wpAny_pure ?_
 show wpAny _ _ (forIn [v] _ _) _ _ s
 rw[forIn_cons]
 refine wpAny_bind (wpAny_bind (k2.quiet i2 ?_))
 rw[if_neg (by decide)]
 refine wpAny_pure ?_
 show wpAny _ _ (forIn [] _ _) _ _ s
 rw[forIn_nil]
 exact wpAny_pure (wpAny_pure h)
def zQq(k1:IK prog w α)(k2:IK prog w β):HeapKind prog w (α×β) where
 is:=bh k1 k2
 hash:=Tv k1 k2
 draws:=λx=>k1.draws x.1+k2.draws x.2+1
 room:=λA=>A.units+1<cLine
 inj:=λhx hy=>hx.inj hy
 keeps:=λ{h h' k a d o es ep} ⟨o',u,v,n,ho',hc,hd',i1,i2⟩ ho hd hs=>by
  have hne:a≠d:=by
   rintro rfl
   cases ho'.symm.trans ho
   rw[hd] at hd'
   exact nomatch hd'
  exact⟨o',u,v,n,(hs.2 a hne).trans ho',hc,hd',k1.keeps i1 ho hd hs,k2.keeps i2 ho hd hs⟩
 pyHash:=λhu hk h=>zNl hu hk h
 eqBool:=λhu hx hy h=>Al hu hx hy h
 quiet:=λhk h=>zK9 hk h
end
section
variable{prog:Program}{w:World}{K:Type}[DecidableEq K]{knd:HeapKind prog w K}{A:Around}{E:Value->Shared->Prop}{s:Shared}
theorem zIc{Q:Value->Shared->Prop}(hu:knd.room A)(hkey:knd.is s.heap k a)(hm:s.heap.DictOfH knd d xs)(hold:∀p,atKey xs k=some p->Q p.2 { s with toks:=s.toks+knd.draws k })(hnew:atKey xs k=none->∀h',h'.DictOfH knd d (xs++[(k,a,v)])->SameBut d s.heap h'->Q v { s with heap:=h',toks:=s.toks+knd.draws k })(hsz:xs.length<=sizeLine):wpAny (model prog w) A (dictSetDefault d (.ref a) v) Q E s:=by
 obtain⟨o,es,ep,ho,hc,hd,he,his,hn⟩:=hm
 unfold dictSetDefault
 try with_reducible refine wpAny_holding ?_
 refine wpAny_bind (knd.pyHash hu hkey (wpAny_bind (wpAny_dictFind_heap (s:={ s with toks:=s.toks+knd.draws k }) hu hkey ho hd he his hn (λhno=>?_) (λj p hj=>?_))))
 ·have hnot:k∉xs.map (·.1):=not_mem_keys_of_get hno
  have no:=atKey_none_of_get hno
  refine wpAny_bind (wpAny_rule (wpAny_bind (wpAny_updateDictKeys (hz:=by have e:=size_of_entries he;omega) (s:={ s with toks:=s.toks+knd.draws k }) ho hd (wpAny_pure (hnew no _ ⟨_,_,ep+1,get?_update_self _ ho (Obj.isFreed_of_dict (Obj.data_mapDictKeys hd _)),hc.mapDictKeys _,Obj.data_mapDictKeys hd _,?_,λx hx=>?_,?_⟩ (SameBut.update ..))))))
  ·simp[he,entryOfKey]
  ·rcases mem_append.mp hx with hx|hx
   ·exact knd.keeps (his x hx) ho hd (SameBut.update ..)
   ·rw[mem_singleton.mp hx]
    exact knd.keeps hkey ho hd (SameBut.update ..)
  ·rw[map_append,nodup_append]
   refine⟨hn,by simp,λx hx y hy e=>hnot ?_⟩
   rw[map_cons,map_nil,mem_singleton] at hy
   have hy:y=k:=hy
   rw[<-hy,<-e]
   exact hx
 ·refine wpAny_bind (wpAny_dictEntries (s:={ s with toks:=s.toks+knd.draws k }) ho hd ?_)
  rw[entry_at he j,hj]
  exact wpAny_bind (wpAny_rule (wpAny_pure (hold p (atKey_of_get hn hj))))
theorem zFy(knd:HeapKind prog w K)(d a:Addr)(hd:(d==sysModules)=false)(v:Value) :
  MeetsIn prog w (Builtin.«dict.setdefault» ⟨[.ref d,.ref a,v],[]⟩) (λA R s=>knd.room A.in1/\∃k xs,knd.is s.heap k a/\s.heap.DictOfH knd d xs/\xs.length<=sizeLine/\(∀p,atKey xs k=some p->R (.ok (.ret p.2)) { s with toks:=s.toks+knd.draws k }) /\
   (atKey xs k=none->∀h',h'.DictOfH knd d (xs++[(k,a,v)])->SameBut d s.heap h'->R (.ok (.ret v)) { s with heap:=h',toks:=s.toks+knd.draws k })) :=
 .of_wp λA R s ⟨hu,k,xs,hkey,hm,hz,h1,h2⟩=>by
  unfold Builtin.«dict.setdefault»
  refine wpAny_bind ?_
  unfold Builtin.Dict.keyAndDefault
  refine wpAny_bind (wpAny_notOrdered_dict hm.typeIs ?_);show wpAny _ _ (pure (d,Value.ref a,some v)) _ _ s
  refine wpAny_pure ?_
  show wpAny _ _ (if(d==sysModules)=true then _ else(dictSetDefault d (.ref a) v >>= _)) _ _ s
  rw[if_neg (by rw[hd];decide)]
  exact wpAny_bind (zIc hu hkey hm (λp hp=>wpAny_pure ⟨_,rfl,h1 p hp⟩) (λhn h' hm' hs'=>wpAny_pure ⟨_,rfl,h2 hn h' hm' hs'⟩) hz)
theorem zQz{Q:Value->Shared->Prop}(hd:(d==sysModules)=false)(hm:s.heap.DictOfH knd d xs)(hfit:(xs.length:Int)<2^63)(h:∀t t',Q (.int xs.length t) { s with toks:=t' }):wpAny (model prog w) A (call (.builtin "len") [.ref d]) Q E s:=by
 have ty:=hm.typeIs
 obtain⟨o,es,ep,ho,hc,hdat,he,_⟩:=hm
 have ez:=size_of_entries he
 refine Calls.call_function_entry kind_len plain_len entry_len (args_len1 _) ?_
 unfold Builtin.«len»
 have mt:MeetsIn prog w (Builtin.«dict.__len__» ⟨[.ref d],[]⟩) (λ_ R s'=>s'=s/\R (.ok (.ret (.int xs.length s.toks))) { s with toks:=s.toks+1 }):=.of_wp λA R s' q=>by
  obtain⟨rfl,q⟩:=q
  show wpAny _ _ (dictSize d >>= _) _ _ _
  unfold dictSize
  refine wpAny_bind (wpAny_bind (wpAny_dictEntries ho hdat (wpAny_pure ?_)))
  show wpAny _ _ (Builtin.Dict.pendingCount d >>= _) _ _ _
  refine wpAny_bind (wpAny_pendingCount_other hd (wpAny_ret_mkInt ?_))
  rw[Nat.add_zero,ez];exact q
 refine wpAny_bind (m:=oneArg "len" _) (wpAny_pure ?_)
 refine wpAny_bind (m:=callSpecial? (.ref d) (Str.ofString "__len__")) (wpAny_callSpecial?_slot (name:=Str.ofString "__len__") ty F.slot_dict_len (call_meetsIn F.slot_dict_len ty F.entry_dict_len (F.args_dict_len_1 _) mt ⟨rfl,?_⟩))
 show wpAny _ _ _ _ _ { s with toks:=s.toks+1 }
 refine wpAny_bind (wpAny_holding (wpAny_pure (wpAny_bind (wpAny_letGo ?_))))
 show wpAny _ _ (if((xs.length:Nat):Int)<0 then _ else _) _ _ _
 rw[if_neg (by omega)]
 show wpAny _ _ (if((xs.length:Nat):Int) ≥ 2^63 then _ else _) _ _ _
 rw[if_neg (by omega)]
 exact wpAny_bind (wpAny_mkInt (wpAny_pure ⟨_,rfl,h _ _⟩))
end
end PySem
namespace L2
open PySem PySem.Spec PyProof.Rows
structure AK(α:Type)[DecidableEq α] where
 at_:Hp->α->V->Prop
 ik:∀(P:Program)(w:World),IK P w α
 ok:∀{P:Program}{w:World}{H:Hp}{h:Heap}{x:α}{v:V}{u:Value},fD P w H h->at_ H x v->RelV v u->(ik P w).is h x u
 mono:∀{H H':Hp}{x:α}{v:V},at_ H x v->(∀b xs,H b=some (.tup xs)->H' b=some (.tup xs))->at_ H' x v
def YJ:AK Key where
 at_:=λ_ k v=>v=kV k
 ik:=λP w=>Gz (wM P w)
 ok:=λ_ e r=>by subst e;exact NQ r
 mono:=λe _=>e
def Jg:AK (List Key) where
 at_:=λH ks v=>∃a,v=.ref a/\H a=some (.tup (ks.map kV))
 ik:=λP w=>Lr (wM P w)
 ok:=λok ⟨a,e,h⟩ r=>by
  subst e
  exact⟨a,r,NT ok h⟩
 mono:=λ⟨a,e,h⟩ k=>⟨a,e,k _ _ h⟩
section
variable{α β:Type}[DecidableEq α][DecidableEq β]
def jV(a1:AK α)(a2:AK β)(H:Hp)(x:α×β)(p:Addr):Prop:=∃v1 v2,H p=some (.tup [v1,v2])/\a1.at_ H x.1 v1/\a2.at_ H x.2 v2
theorem jV.mono{a1:AK α}{a2:AK β}{H H':Hp}{x:α×β}{p:Addr}(h:jV a1 a2 H x p)(k:∀b xs,H b=some (.tup xs)->H' b=some (.tup xs)):jV a1 a2 H' x p:=by
 obtain⟨v1,v2,e,h1,h2⟩:=h
 exact⟨v1,v2,k _ _ e,a1.mono h1 k,a2.mono h2 k⟩
abbrev GD(P:Program)(w:World)(a1:AK α)(a2:AK β):HeapKind P w (α×β):=zQq (a1.ik P w) (a2.ik P w)
theorem jV.is{P:Program}{w:World}{a1:AK α}{a2:AK β}{H:Hp}{h:Heap}{x:α×β}{p:Addr}(ok:fD P w H h)(n:jV a1 a2 H x p):(GD P w a1 a2).is h x p:=by
 obtain⟨v1,v2,e,h1,h2⟩:=n
 obtain⟨_,its,r,o,e1,e2,n,e3⟩:=(show aU P w H h p (.tup [v1,v2]) from ok p _ e)
 cases r with
 |cons r1 r=>cases r with
  |cons r2 r =>
   cases r
   exact⟨o,_,_,n,e1,e2,e3,a1.ok ok h1 r1,a2.ok ok h2 r2⟩
abbrev CZ(α β:Type):=List ((α×β)×Addr×Int)
def Am:CZ α β->List ((α×β)×Addr×Value)->Prop:=Paired λp q=>p.1=q.1/\p.2.1=q.2.1/\∃t,q.2.2=.int p.2.2 t
def uh(P:Program)(w:World)(a1:AK α)(a2:AK β)(d:Addr)(kvs:CZ α β):HO:=.ext λh=>(d==sysModules)=false/\kvs.length<=9000/\∃xs o es ep,Am kvs xs/\h.get? d=some o/\o.ExactDict/\o.data=.dict es ep/\es.toList=xs.map (entryOfKey (GD P w a1 a2))/\(xs.map (·.1)).Nodup
def lA(kvs:CZ α β)(x:α×β):Option Int:=(kvs.find? λp=>decide (p.1=x)).map (·.2.2)
theorem YK(h:Am kvs xs):kvs.length=xs.length:=Paired.length h
theorem Tw(h:Am kvs xs)(x:α×β):(lA kvs x=none/\atKey xs x=none)\/∃i p t,lA kvs x=some i/\atKey xs x=some (p,.int i t):=by
 unfold lA atKey
 induction h with
 |nil=>exact .inl ⟨rfl,rfl⟩
 |@cons p q ps qs r _ ih =>
  obtain⟨e1,e2,t,e3⟩:=r
  by_cases z:p.1=x
  ·refine .inr ⟨p.2.2,q.2.1,t,?_,?_⟩
   ·simp[find?_cons,z]
   ·have z2:q.1=x:=e1▸z
    have e4:q.2=(q.2.1,Value.int p.2.2 t):=Prod.ext rfl e3
    simp[find?_cons,z2]
    exact e4
  ·have z2:¬q.1=x:=λy=>z (e1.trans y)
   simp only[find?_cons,decide_eq_false z,decide_eq_false z2]
   exact ih
theorem Ao(h:Am kvs xs)(hx:x∈xs):∃i,(x.1,x.2.1,i)∈kvs:=by
 induction h with
 |nil=>cases hx
 |@cons p q ps qs r _ ih =>
  obtain⟨e1,e2,t,e3⟩:=r
  rcases mem_cons.mp hx with e|hx
  ·exact⟨p.2.2,by rw[e,<-e1,<-e2];exact mem_cons_self⟩
  ·obtain⟨i,hi⟩:=ih hx
   exact⟨i,mem_cons_of_mem _ hi⟩
theorem Aq(h:Am kvs xs)(x:α×β)(p:Addr)(i:Int)(t:Tok):Am (kvs++[(x,p,i)]) (xs++[(x,p,.int i t)]):=by
 induction h with
 |nil=>exact .cons ⟨rfl,rfl,t,rfl⟩ .nil
 |cons r _ ih=>exact .cons r ih
variable{X:Cx}{pins:List (Addr×Obj)}{σ:St}{H:Hp}{s:Shared}{a1:AK α}{a2:AK β}{d:Addr}{kvs:CZ α β}
theorem Ph(I:Inv X pins σ H s)(e:H d=some (uh X.prog X.w a1 a2 d kvs))(hk:∀p∈kvs,jV a1 a2 H p.1 p.2.1):(d==sysModules)=false/\kvs.length<=9000/\∃xs,Am kvs xs/\s.heap.DictOfH (GD X.prog X.w a1 a2) d xs:=by
 obtain⟨⟨h1,h2,xs,o,es,ep,r,e1,e2,e3,e4,e5⟩,_⟩:=I.hok d _ e
 refine⟨h1,h2,xs,r,o,es,ep,e1,e2,e3,e4,λx hx=>?_,e5⟩
 obtain⟨i,hi⟩:=Ao r hx
 exact(hk _ hi).is I.hok
def GF(P:Program)(w:World)(a1:AK α)(a2:AK β):TE:=λ_ H Q=>∀p,H p=none->Q (.ref p) (upd H p (uh P w a1 a2 p []))
theorem YL{h1 h2:Heap}(p:(d==sysModules)=false/\kvs.length<=9000/\∃xs o es ep,Am kvs xs/\h1.get? d=some o/\o.ExactDict/\o.data=.dict es ep/\es.toList=xs.map (entryOfKey (GD P w a1 a2))/\(xs.map (·.1)).Nodup)(k:∀o,h1.get? d=some o->h2.get? d=some o) :
  (d==sysModules)=false/\kvs.length<=9000/\∃xs o es ep,Am kvs xs/\h2.get? d=some o/\o.ExactDict/\o.data=.dict es ep/\es.toList=xs.map (entryOfKey (GD P w a1 a2))/\(xs.map (·.1)).Nodup:=by
 obtain⟨z1,z2,xs,o,es,ep,r,e1,q⟩:=p
 exact⟨z1,z2,xs,o,es,ep,r,k _ e1,q⟩
theorem zQn:PE X (.Dict [] [] pos) (GF X.prog X.w a1 a2):=λpins s σ H Q I h=>by
 have hd:=(V_ (P:=X.prog) (w:=X.w) (H:=H) s.heap I.big).2.1
 refine wpAny_Dict_empty ⟨.ref s.heap.objs.size,_,I.laid (a:=s.heap.objs.size) (o:=uh X.prog X.w a1 a2 s.heap.objs.size []) (t':=s.toks) (λ_ _ q=>get?_push_of_some _ q) (Nat.le_refl _) ⟨?_,?_,λh1 h2=>YL⟩,rfl,h _ (I.hok.fresh (Nat.le_refl _))⟩
 ·exact⟨hd,Nat.zero_le _,[],_,#[],0,.nil,get?_push_size _ rfl,⟨rfl,rfl,rfl⟩,rfl,rfl,nodup_nil⟩
 ·exact⟨_,get?_push_size _ rfl⟩
def Ls(P:Program)(w:World)(a1:AK α)(a2:AK β):List V->Hp->VK->Prop:=λxs H Q=>∃d kvs,xs=[.ref d]/\H d=some (uh P w a1 a2 d kvs)/\(∀p∈kvs,jV a1 a2 H p.1 p.2.1)/\Q (.int (kvs.length:Int)) H
theorem zPl:lX X (.builtin "len") (Ls X.prog X.w a1 a2):=by
 intro pins s σ H xs us Q I r h
 obtain⟨d,kvs,rfl,e,hk,q⟩:=h
 cases r with
 |cons r1 r =>
  cases r
  rename_i u
  obtain rfl:u=.ref d:=r1
  obtain⟨h1,h2,xs,rel,dd⟩:=Ph I e hk
  have el:=YK rel
  refine zQz h1 dd (by omega) λt t'=>⟨.int (kvs.length:Int),H,I.tok t',⟨t,by rw[el]⟩,q⟩
def YM(P:Program)(w:World)(a1:AK α)(a2:AK β)(td tk:TE):TE:=λσ H Q=>td σ H λx H1=>tk σ H1 λy H2=>∃d kvs p k i,x=.ref d/\y=.ref p/\H2 d=some (uh P w a1 a2 d kvs)/\(∀p∈kvs,jV a1 a2 H2 p.1 p.2.1)/\jV a1 a2 H2 k p/\lA kvs k=some i/\Q (.int i) H2
theorem zQo(hu:X.A.units+2<cLine)(ho:PE X o td)(hi:PE X i ty)(hs:JV i):PE X (.Subscript o i pos) (YM X.prog X.w a1 a2 td ty):=by
 intro pins s σ H Q I h
 refine vm PySem.F.slot_dict_getitem.lookup hs (aO (ho pins s σ H _ I h) λu s1 ⟨x,H1,I1,rx,q1⟩=>aO (hi pins s1 σ H1 _ I1 q1) λiv s2 ⟨y,H2,I2,ry,d,kvs,p,k,z,ex,ey,e,hk,hn,hv,q2⟩=>?_)
 subst ex ey
 obtain rfl:u=Value.ref d:=rx
 obtain rfl:iv=Value.ref p:=ry
 obtain⟨h1,h2,xs,rel,dd⟩:=Ph I2 e hk
 rcases Tw rel k with⟨n1,_⟩|⟨z',p',t,n1,n2⟩
 ·rw[n1] at hv;cases hv
 ·rw[n1] at hv
  cases hv
  exact⟨dd.typeIs,wpAny_getItem_heap (knd:=GD X.prog X.w a1 a2) (show X.A.in1.units+1<cLine from hu) (hn.is I2.hok) dd n2 ⟨.int z,H2,I2.tok _,⟨t,rfl⟩,q2⟩⟩
def GJ(P:Program)(w:World)(a1:AK α)(a2:AK β)(td tk tv:TE):TE:=λσ H Q=>td σ H λx H1=>∃d kvs,x=.ref d/\H1 d=some (uh P w a1 a2 d kvs)/\(∀p∈kvs,jV a1 a2 H1 p.1 p.2.1)/\tk σ H1 λy H2=>tv σ H2 λz H3=>∃kvs p k i,y=.ref p/\z=.int i/\H3 d=some (uh P w a1 a2 d kvs)/\(∀p∈kvs,jV a1 a2 H3 p.1 p.2.1)/\jV a1 a2 H3 k p /\
 (∀j,lA kvs k=some j->Q (.int j) H3)/\(lA kvs k=none->kvs.length<9000/\Q (.int i) (upd H3 d (uh P w a1 a2 d (kvs++[(k,p,i)]))))
theorem zQk(hu:X.A.units+2<cLine)(ho:PE X o td)(he:PE X e ty)(hf:PE X f tx)(m:M2 X o "setdefault" apos e f cpos):PE X (.Call (.Attribute o "setdefault" apos) [e,f] [] cpos) (GJ X.prog X.w a1 a2 td ty tx):=by
 intro pins s σ H Q I h
 refine wpAny_Call_method m.base m.few m.line PySem.F.plainAttrs_dict PySem.F.slot_dict_setdefault PySem.F.type_dict_setdefault (aO (ho pins s σ H _ I h) λu s1 ⟨x,H1,I1,rx,d,aae,ex,e0,hk0,q1⟩=>?_)
 subst ex
 obtain rfl:u=Value.ref d:=rx
 obtain⟨_,_,xs0,_,YQ⟩:=Ph I1 e0 hk0
 refine⟨YQ.typeIs,λb q=>?_,?_⟩
 ·cases q
  obtain⟨ob,_,_,g1,g2,_⟩:=YQ
  exact⟨ob,g1,g2.2.1⟩
 rw[m.trees]
 refine Calls.callWith_builtin rfl (Calls.evalArgs_plain (Calls.spliced_cons (aO (he pins s1 σ H1 _ I1 q1) λiv s2 ⟨y,H2,I2,ry,q2⟩ =>
  Calls.spliced_cons (aO (hf pins s2 σ H2 _ I2 q2) λfv s3 ⟨z,H3,I3,rz,kvs,p,k,i,ey,ez,e3,hk,hn,q3,q4⟩=>Calls.spliced_nil ?_))))
 subst ey ez
 obtain rfl:iv=Value.ref p:=ry
 obtain⟨t,rfl⟩:=rz
 obtain⟨h1,h2,xs,rel,dd⟩:=Ph I3 e3 hk
 have el:=YK rel
 refine call_meetsIn PySem.F.slot_dict_setdefault dd.typeIs PySem.F.entry_dict_setdefault (PySem.F.args_dict_setdefault_3 _ _ _) (zFy (GD X.prog X.w a1 a2) d p h1 (.int i t)) ⟨show X.A.in1.units+1<cLine from hu,k,xs,hn.is I3.hok,dd,Nat.le_trans (show xs.length<=9000 by omega) (by decide),λpq hp=>?_,λno h' Io hs=>?_⟩
 ·rcases Tw rel k with⟨_,n2⟩|⟨j,p',t',n1,n2⟩
  ·rw[n2] at hp;cases hp
  ·rw[n2] at hp
   cases hp
   exact⟨.int j,H3,I3.tok _,⟨t',rfl⟩,q3 j n1⟩
 ·rcases Tw rel k with⟨n1,_⟩|⟨j,p',t',n1,n2⟩
  ·obtain⟨l9,q5⟩:=q4 n1
   obtain⟨o',es',ep',g1,g2,g3,g4,_,g6⟩:=Io
   refine⟨.int i,_,QW (ob:=uh X.prog X.w a1 a2 d (kvs++[(k,p,i)])) I3 (by rw[e3];exact True.intro) hs ⟨o',g1⟩ ⟨?_,⟨o',g1⟩,λh1 h2=>YL⟩,⟨t,rfl⟩,q5⟩
   exact⟨h1,by rw[length_append,length_singleton];omega,_,o',es',ep',Aq rel k p i t,g1,g2,g3,g4,g6⟩
  ·rw[n2] at no;cases no
end
end L2
namespace Ts
open PySem PySem.Spec L2 PyProof.Rows
def dX(a b:Str):Bool:=!ltCps b.cps.toList a.cps.toList
theorem Pj:dX a b=true↔¬b.cps.toList<a.cps.toList:=by
 unfold dX
 rw[ltCps_eq]
 simp
theorem YS(h1:dX a b=true)(h2:dX b c=true):dX a c=true:=by
 rw[Pj] at *
 exact not_lt.mpr (List.le_trans (not_lt.mp h1) (not_lt.mp h2))
theorem zQa(a b:Str):(dX a b||dX b a)=true:=by
 rw[Bool.or_eq_true,Pj,Pj]
 rcases List.le_total a.cps.toList b.cps.toList with h|h
 ·exact .inl (not_lt.mpr h)
 ·exact .inr (not_lt.mpr h)
theorem gJ(h1:dX a b=true)(h2:dX b a=true):a=b:=by
 rw[Pj] at *
 have e:=List.le_antisymm (not_lt.mp h1) (not_lt.mp h2)
 cases a
 cases b
 exact congrArg Str.mk (Array.toList_inj.mp e)
def bf(l:List Str):List Str:=l.mergeSort dX
def Lw(l:List Str):Option (List Str):=if l.length<64 then some (bf l) else none
theorem aD(l:List Str):(bf l).Perm l:=List.mergeSort_perm l dX
theorem dG(l:List Str):(bf l).Pairwise λa b=>dX a b=true:=List.pairwise_mergeSort (le:=dX) (λ_ _ _ h1 h2=>YS h1 h2) zQa l
theorem dH{α:Type}{r:α->α->Prop}(anti:∀a b,r a b->r b a->a=b):∀{xs ys:List α},xs.Perm ys->xs.Pairwise r->ys.Pairwise r->xs=ys
 |[],ys,h,_,_=>by rw[List.nil_perm.mp h]
 |x::xs,[],h,_,_=>by cases List.perm_nil.mp h
 |x::xs,y::ys,h,h1,h2=>by
  have hx:x∈y::ys:=h.subset mem_cons_self
  have hy:y∈x::xs:=h.symm.subset mem_cons_self
  have e:x=y:=by
   rcases mem_cons.mp hx with q|q
   ·exact q
   rcases mem_cons.mp hy with z|z
   ·exact z.symm
   exact anti _ _ (rel_of_pairwise_cons h1 z) (rel_of_pairwise_cons h2 q)
  subst e
  rw[dH anti (List.perm_cons x |>.mp h) (pairwise_cons.mp h1).2 (pairwise_cons.mp h2).2]
theorem jW:∀{l:List Str},sortedS l=true->l.Pairwise λa b=>dX a b=true
 |[],_=>.nil
 |x::r,h=>by
  have go:∀(p:Str)(l:List Str),risingS p l=true->(p::l).Pairwise λa b=>dX a b=true:=by
   intro p l
   induction l generalizing p with
   |nil=>intro _;exact List.pairwise_singleton _ _
   |cons y t ih =>
    intro q
    have q:(!ltCps y.cps.toList p.cps.toList&&risingS y t)=true:=q
    rw[Bool.and_eq_true] at q
    have i:=ih y q.2
    refine pairwise_cons.mpr ⟨λz hz=>?_,i⟩
    rcases mem_cons.mp hz with e|hz
    ·rw[e];exact q.1
    ·exact YS q.1 (rel_of_pairwise_cons i hz)
  exact go x r h
theorem pR{ss:List Str}(r:Vals (ss.map V.str) its):StrsAre its ss:=by
 induction ss generalizing its with
 |nil=>cases r;exact .nil
 |cons x t ih =>
  cases r with
  |cons r1 r =>
   obtain⟨k,rfl⟩:=r1
   exact .cons x k (ih r)
theorem iQ(h:StrsAre vs ss):Vals (ss.map V.str) vs:=by
 induction h with
 |nil=>exact .nil
 |cons x t _ ih=>exact .cons ⟨t,rfl⟩ ih
section
variable{X:Cx}{K:PySem.W.Frag}{B:Bs}{sl:SL K}{md:Md}{t:TE}
def YT(K:PySem.W.Frag):List V->Hp->VK->Prop:=λxs H Q=>∃(p:Addr)(ss:List Str),xs=[.ref p]/\aZ K H p (ss.map V.str)/\ss.length<64/\∀l:Addr,H l=none->Q (.ref l) (upd H l (.lst ((bf ss).map V.str)))
theorem zLx(K:PySem.W.Frag)(hK:X.K=K:=by rfl):lX X (.builtin "sorted") (YT K):=by
 subst hK
 intro pins s σ H xs us Q I r h
 obtain⟨p,ss,rfl,hq,h64,q⟩:=h
 obtain⟨u,rfl,rx⟩:=tZ r
 cases rx
 obtain⟨its,r',pl,hz⟩:=I.list hq
 have hl:=r'.length
 rw[length_map] at hl
 refine sorted_strs pl.isList (pR r') (by omega) λout ss' a1 a2 a3=>?_
 obtain⟨e,he⟩:=sortedAll_at s.heap its out
 have fr:H (s.heap.objs.size+1)=none:=I.hok.fresh (Nat.le_succ _)
 have eu:ss'=bf ss:=dH (r:=λa b=>dX a b=true) (λ_ _=>gJ) (a2.trans (aD ss).symm) (jW a3) (dG ss)
 rw[eu] at a1
 refine⟨.ref (s.heap.objs.size+1),_,I.laid (t':=s.toks) (o:=.lst ((bf ss).map V.str)) (λb ob w=>sortedAll_old w) (Nat.le_succ _) ⟨?_,out.toList,e,iQ a1,?_⟩,rfl,q _ fr⟩
 ·rw[length_map,(aD ss).length_eq]
  exact Nat.le_of_lt (Nat.lt_trans h64 (by decide))
 ·rw[toArray_toList]
  exact he
theorem zRf(h:Ex B sl .hp t m):Eo B sl md (pN (YT K) (xQ t bD)) (m.bind Lw):=λc hc F O H σ Q s k=>by
 cases m with
 |none=>cases hc
 |some ss =>
  have hc:Lw ss=some c:=hc
  unfold Lw at hc
  split at hc
  case isFalse=>cases hc
  rename_i hl
  cases hc
  refine h ss rfl F O H σ _ s λv F' H' g r1=>?_
  obtain⟨p,vs,rfl,z1,z2⟩:=r1
  have z3:vs=ss.map V.str:=A2.iz z2
  subst z3
  exact⟨p,ss,rfl,aZ.of z1,hl,λl hn=>k l _ F' H' g hn (A2.of_map (f:=V.str) (λ_=>rfl) _)⟩
structure Tp(α:Type) where
 xs:List α
deriving instance DecidableEq for Tp
end
open PySem L2
section
variable{X:Cx}{K:PySem.W.Frag}{B:Bs}{sl:SL K}{md:Md}{t:TE}{α:Type}[Rp K α]
instance{α:Type}[Rp K α]:Rp K (Tp α):=⟨λF v x=>∃p vs,v=.ref p/\F p=some (.tup vs)/\A2 (rp K F) vs x.xs,λs ⟨p,vs,h1,h2,h3⟩=>⟨p,vs,h1,s _ _ h2,h3.imp λ_ _=>Rp.mono s⟩⟩
theorem Av(k:Ok B F' O H'):∀md:Md,Same (reg B F' H' md) H'
 |.nw=>bw.trans k.fh
 |.fz=>k.fh
 |.hp=>.refl _
def YW(K:PySem.W.Frag):List V->Hp->VK->Prop:=λxs H Q=>∃p ys,xs=[.ref p]/\aZ K H p ys/\∀l,H l=none->Q (.ref l) (upd H l (.tup ys))
theorem Tz(K:PySem.W.Frag)(hK:X.K=K:=by rfl):lX X (.type "tuple") (YW K):=by
 subst hK
 exactλpins s σ H xs us Q I r ⟨p,ys,e,h1,h2⟩=>zGd pins s σ H xs us Q I r ⟨p,ys,e,.inl ⟨h1,h2⟩⟩
theorem TF{m:Option (List α)}(h:Ex B sl md t m):Ex B sl md (pN (YW K) (xQ t bD)) (m.bind λxs=>some (Tp.mk xs)):=λc hc F O H σ Q s k=>by
 cases m with
 |none=>cases hc
 |some xs =>
  cases(show some (Tp.mk xs)=some c from hc)
  refine h xs rfl F O H σ _ s λv F' H' g r1=>?_
  obtain⟨p,vs,rfl,z1,z2⟩:=r1
  refine⟨p,vs,rfl,aZ.of (Av g.ok md _ _ z1),λl hl=>?_⟩
  have g3:=bx.new g.ok hl (.tup vs)
  exact k _ _ _ (g.trans g3) ⟨l,vs,rfl,Ke g.ok hl md,z2.imp λ_ _=>Rp.mono (wK g3 md)⟩
end
section
variable{κ:Type}[DecidableEq κ]
def dd:List κ->List κ->List κ
 |acc,[]=>acc
 |acc,k::r=>dd (if k∈acc then acc else acc++[k]) r
def lM(ks:List κ):LI:=ks.map λk=>((dd [] ks).idxOf k:Int)
theorem YX(a b:List κ):∀(acc:List κ),dd acc (a++b)=dd (dd acc a) b:=by
 induction a with
 |nil=>intro acc;rfl
 |cons k r ih=>intro acc;exact ih _
theorem TJ:∀(ks acc:List κ),∃r,dd acc ks=acc++r
 |[],acc=>⟨[],(append_nil acc).symm⟩
 |k::ks,acc=>by
  obtain⟨r,e⟩:=TJ ks (if k∈acc then acc else acc++[k])
  show∃r,dd (if k∈acc then acc else acc++[k]) ks=acc++r
  split at e
  ·rename_i h
   rw[if_pos h]
   exact⟨r,e⟩
  ·rename_i h
   rw[if_neg h]
   exact⟨[k]++r,by rw[e,List.append_assoc]⟩
theorem YZ:∀(ks acc:List κ),(dd acc ks).length<=acc.length+ks.length
 |[],acc=>Nat.le_refl _
 |k::ks,acc=>by
  have:=YZ ks (if k∈acc then acc else acc++[k])
  show(dd (if k∈acc then acc else acc++[k]) ks).length<=_
  split at this
  ·rename_i h
   rw[if_pos h,length_cons];omega
  ·rename_i h
   rw[if_neg h,length_cons]
   rw[length_append,length_singleton] at this
   omega
theorem Jh:∀{ks acc:List κ}{k:κ},k∈ks->k∈dd acc ks
 |k'::ks,acc,k,h=>by
  show k∈dd (if k'∈acc then acc else acc++[k']) ks
  rcases mem_cons.mp h with e|h
  ·obtain⟨r,q⟩:=TJ ks (if k'∈acc then acc else acc++[k'])
   rw[q,e]
   refine mem_append_left _ ?_
   split
   ·assumption
   ·exact mem_append_right _ mem_cons_self
  ·exact Jh h
end
end Ts
namespace L2
open PySem Ts
section
variable{α β:Type}[DecidableEq α][DecidableEq β]
def nA(kvs:CZ α β)(ds:List (α×β)):Prop:=kvs.map (·.1)=ds/\∀(j:Nat) p,kvs[j]?=some p->p.2.2=(j:Int)
theorem nA.val{kvs:CZ α β}{ds:List (α×β)}(h:nA kvs ds){k:α×β}(hk:k∈ds):lA kvs k=some (ds.idxOf k:Int):=by
 obtain⟨h1,h2⟩:=h
 have key:∀(l:CZ α β)(n:Nat),(∀(j:Nat) p,l[j]?=some p->p.2.2=((n+j:Nat):Int))->k∈l.map (·.1)->(l.find? λp=>decide (p.1=k)).map (·.2.2)=some (((n+(l.map (·.1)).idxOf k:Nat)):Int):=by
  intro l
  induction l with
  |nil=>intro n _ h;cases h
  |cons p r ih =>
   intro n hn hm
   by_cases q:p.1=k
   ·have e:=hn 0 p rfl
    rw[map_cons,idxOf_cons]
    simp[find?_cons,q,e]
   ·have hm':k∈r.map (·.1):=by
     rw[map_cons] at hm
     rcases mem_cons.mp hm with z|z
     ·exact absurd z.symm q
     ·exact z
    have i:=ih (n+1) (λj p' hj=>by have:=hn (j+1) p' hj;rw[this];congr 1;omega) hm'
    rw[map_cons,idxOf_cons,List.find?_cons_of_neg (by simpa using q),i]
    rw[show(p.1==k)=false from beq_eq_false_iff_ne.mpr q]
    simp only[cond_false]
    congr 2
    omega
 have:=key kvs 0 (λj p hj=>by rw[h2 j p hj];congr 1;omega) (by rw[h1];exact hk)
 rw[h1] at this
 unfold lA
 rw[this]
 congr 2
 omega
theorem nA.non{kvs:CZ α β}{ds:List (α×β)}(h:nA kvs ds){k:α×β}(hk:k∉ds):lA kvs k=none:=by
 unfold lA
 rw[find?_eq_none.mpr λp hp q=>hk (by rw[<-h.1,<-of_decide_eq_true q];exact List.mem_map_of_mem hp)]
 rfl
theorem nA.snoc(h:nA kvs ds)(k:α×β)(p:Addr):nA (kvs++[(k,p,(kvs.length:Int))]) (ds++[k]):=by
 obtain⟨h1,h2⟩:=h
 refine⟨by rw[map_append,h1];rfl,λj q hj=>?_⟩
 rcases Nat.lt_or_ge j kvs.length with z|z
 ·rw[getElem?_append_left z] at hj
  exact h2 j q hj
 ·rw[getElem?_append_right z] at hj
  have e:j-kvs.length=0:=by
   rcases Nat.eq_zero_or_pos (j-kvs.length) with e|e
   ·exact e
   ·rw[List.getElem?_eq_none (by rw[length_singleton];omega)] at hj;cases hj
  rw[e] at hj
  cases hj
  show(kvs.length:Int)=j
  omega
end
end L2
namespace Ts
open PySem L2
structure dO where
 xss:List LI
def gY(F:Hp)(q:Addr)(xs:LI):Prop:=F q=some (.lst (xs.map V.int))
section
variable{K:PySem.W.Frag}{B:Bs}{sl:SL K}{F H G L:Hp}{O:Own}{σ:St}{te t2:TE}{u:TS}{al:Bool}
instance:Rp K dO:=⟨λF v x=>∃(p:Addr)(ps:List Addr),v=.ref p/\F p=some (.lst (ps.map V.ref))/\(p::ps).Nodup/\A2 (gY F) ps x.xss,λs ⟨p,ps,h1,h2,h3,h4⟩=>⟨p,ps,h1,s _ _ h2,h3,h4.imp λ_ _ h=>s _ _ h⟩⟩
theorem C_:∀{ps:List Addr}{xss:List LI},A2 (gY F) ps xss->A2 (rp K F) (ps.map V.ref) xss
 |[],[],_=>trivial
 |_::_,xs::_,h=>⟨⟨_,xs.map V.int,rfl,h.1,Fv xs⟩,C_ h.2⟩
 |[],_::_,h=>h.elim
 |_::_,[],h=>h.elim
theorem Dd{v:V}{x:dO}(h:rp K F v x):rp K F v x.xss:=by
 obtain⟨p,ps,h1,h2,h3,h4⟩:=h
 exact⟨p,ps.map V.ref,h1,h2,C_ h4⟩
theorem Df:∀{ps:List Addr}{xss:List LI}{j:Nat}{r:LI},A2 (gY F) ps xss->xss[j]?=some r->∃q,ps[j]?=some q/\gY F q r
 |p::ps,xs::xss,0,r,h,e=>by cases e;exact⟨p,rfl,h.1⟩
 |p::ps,xs::xss,j+1,r,h,e=>by simpa using Df (j:=j) h.2 e
 |[],[],_,_,_,e=>by simp at e
 |[],_::_,_,_,h,_=>h.elim
 |_::_,[],_,_,h,_=>h.elim
theorem TQ:∀{ps:List Addr}{xss:List LI},(∀q∈ps,∀xs,gY F q xs->gY F' q xs)->A2 (gY F) ps xss->A2 (gY F') ps xss
 |[],[],_,_=>trivial
 |p::ps,_::_,k,h=>⟨k p mem_cons_self _ h.1,TQ (λq hq=>k q (mem_cons_of_mem _ hq)) h.2⟩
 |[],_::_,_,h=>h.elim
 |_::_,[],_,h=>h.elim
theorem Y0:∀{ps:List Addr}{xss:List LI}{j:Nat}{q:Addr}{r:LI},ps.Nodup->ps[j]?=some q->(∀b∈ps,b≠q->∀xs,gY F b xs->gY F' b xs)->gY F' q r->A2 (gY F) ps xss->A2 (gY F') ps (xss.set j r)
 |[],[],_,_,_,_,e,_,_,_=>by simp at e
 |p::ps,xs::xss,0,q,r,nd,e,k,n,h=>by
  cases e
  exact⟨n,TQ (λb hb xs=>k b (mem_cons_of_mem _ hb) (λe=>(nodup_cons.mp nd).1 (e▸hb)) xs) h.2⟩
 |p::ps,xs::xss,j+1,q,r,nd,e,k,n,h=>by
  have e:ps[j]?=some q:=by simpa using e
  exact⟨k p mem_cons_self (λz=>(nodup_cons.mp nd).1 (z▸mem_of_getElem? e)) _ h.1,Y0 (nodup_cons.mp nd).2 e (λb hb=>k b (mem_cons_of_mem _ hb)) n h.2⟩
 |[],_::_,_,_,_,_,_,_,_,h=>h.elim
 |_::_,[],_,_,_,_,_,_,_,h=>h.elim
theorem Y4:∀{ps:List Addr}{xss:List LI}{q:Addr},A2 (gY F) ps xss->q∈ps->∃xs,gY F q xs
 |p::ps,xs::xss,q,h,hq=>by
  rcases mem_cons.mp hq with e|hq
  ·rw[e];exact⟨_,h.1⟩
  ·exact Y4 h.2 hq
 |[],[],_,_,hq=>by cases hq
 |[],_::_,_,h,_=>h.elim
 |_::_,[],_,h,_=>h.elim
theorem zRb{x:dO}(i:Nat)(hs:sl[i]?=some (.nu x)):Ex B sl .hp (dU i) (some x.xss):=λa' ha F O H σ Q s k=>by
 cases ha
 obtain⟨v,h1,h2⟩:=s.2.m7 hs
 exact⟨v,h1,k v F H (.refl s.1) (Dd (Rp.mono (bw.trans lo_le) h2))⟩
theorem Y5{x:dO}(i:Nat)(hs:sl[i]?=some (.nu x)):SB B sl (k_ (uw (dU i)) u) false (some x.xss):=λb hb G D σ H s k=>by
 cases hb
 obtain⟨F,O,g,a⟩:=s
 obtain⟨v,h1,h2⟩:=a.2.m7 hs
 exact⟨v,h1,k v H ⟨a.1.h0,Dd (Rp.mono (xZ lo_le) h2)⟩⟩
theorem Aw:En B sl (rJ bD) (some (dO.mk [])):=λc hc F O H σ Q s kk=>by
 cases hc
 refine⟨Nat.zero_le _,λp hp=>kk _ F H _ (.refl s.1) (aJ hp _) ⟨p,[],rfl,?_,by simp,trivial⟩⟩
 rw[wC hp,zR];rfl
def Ji(j:Int):Option dO:=if 0<=j/\j<=900 then some (dO.mk (replicate j.toNat [])) else none
theorem Y6:∀{ps:List Addr},(∀q∈ps,F q=some (.lst []))->A2 (gY F) ps (replicate ps.length [])
 |[],_=>trivial
 |p::ps,h=>⟨h p mem_cons_self,Y6 λq hq=>h q (mem_cons_of_mem _ hq)⟩
theorem zRh(h:Ex B sl .hp te m):En B sl (Ob 1 [] (rE (xQ te bD)) (m5 0) wj (rJ bD)) (m.bind Ji):=λc hc F O H σ Q s kk=>by
 cases m with
 |none=>cases hc
 |some j =>
  have hc:Ji j=some c:=hc
  unfold Ji at hc
  split at hc
  case isFalse=>cases hc
  rename_i hj
  cases hc
  refine h j rfl F O H σ _ s λv F1 H1 g r=>?_
  cases r
  ·refine⟨j,rfl,Int.le_trans (by decide) hj.1,Int.lt_of_le_of_lt hj.2 (by decide),zLu (lo:=0) (k:=j.toNat) (λi ys σ2 H2=>∃(ps:List Addr),ys=ps.map V.ref/\ps.length=i/\ps.Nodup/\Same H1 H2/\∀q∈ps,H1 q=none/\H2 q=some (.lst [])) ⟨[],rfl,rfl,.nil,.refl _,λq hq=>by cases hq⟩
    (λi ys σ2 H2 hi ⟨ps,e1,e2,_⟩=>by rw[e1,length_map,e2];exact Nat.le_refl _) (Nat.lt_of_le_of_lt (show j.toNat<=900 by omega) (by decide)) ?_ ?_⟩
   ·rintro i ys σ2 H2 hi ⟨ps,rfl,rfl,nd,s2,hq⟩
    refine⟨Nat.zero_le _,λp hp=>⟨ps++[p],by rw[map_append];rfl,by rw[length_append];rfl,?_,s2.trans (aJ hp _),λq hq'=>?_⟩⟩
    ·rw[nodup_append]
     refine⟨nd,by simp,λa ha b hb e=>?_⟩
     rw[mem_singleton.mp hb] at e
     rw[<-e,(hq a ha).2] at hp
     cases hp
    ·rcases mem_append.mp hq' with z|z
     ·exact⟨(hq q z).1,aJ hp _ _ _ (hq q z).2⟩
     ·rw[mem_singleton.mp z]
      exact⟨s2.free hp,zR⟩
   ·rintro ys σ2 H2 ⟨ps,rfl,e2,nd,s2,hq⟩ p hp
    refine kk _ F1 H1 _ g (s2.trans (aJ hp _)) ⟨p,ps,rfl,?_,nodup_cons.mpr ⟨λz=>?_,nd⟩,?_⟩
    ·rw[wC (s2.free hp),zR]
    ·rw[(hq p z).2] at hp;cases hp
    ·rw[<-e2]
     refine Y6 λq z=>?_
     rw[wC (hq q z).1]
     exact aJ hp _ _ _ (hq q z).2
def Pk(x:dO)(ys:LI):Option dO:=if x.xss.length<cap then some (dO.mk (x.xss++[ys])) else none
theorem Ax(i j:Nat)(hi:sl[i]?=some (.nu x))(hj:sl[j]?=some (.ow n ys))(hij:i≠j)(hn:((sl.set j .un).set i .un).all (λs=>!Ku s)=true) :
  Sn B sl (Ih (JZ K "list" N5 (dU i) (xQ (dU j) bD))) (λa=>(sl.set j .un).set i (.nu a)) (Pk x ys):=λc hc G D σ H s k=>by
 unfold Pk at hc
 split at hc
 case isFalse=>cases hc
 rename_i hl
 cases hc
 obtain⟨F,O,g,z⟩:=s
 obtain⟨v,y1,p,ps,rfl,y2,y3,y4⟩:=z.2.m7 hi
 obtain⟨a1,a2,a3,a4⟩:=Iw y2
 obtain⟨O1,O2,q,vs,rfl,w1,w2,_,w4⟩:=z.2.m8 hj
 have ev:vs=ys.map V.int:=A2.iz (w2.imp λ_ _ h=>h)
 obtain⟨b1,b2,b3⟩:=z.1.one
 have qp:p≠q:=λe=>a3 (q,.lst vs) (by simp) e.symm
 have TV:∀x∈O1++O2,x∈O1++(q,HO.lst vs)::O2:=λx hx=>by
  rcases mem_append.mp hx with e|e
  ·exact mem_append_left _ e
  ·exact mem_append_right _ (mem_cons_of_mem _ e)
 have yl:ps.length=x.xss.length:=y4.len
 refine⟨_,y1,.inl ⟨rfl,_,aZ.of a4⟩,_,w1,p,_,.ref q,rfl,rfl,a4,Fd (by rw[length_map,yl];exact hl),k _ _ ⟨F,O1++O2,g,z.1.drop.Kv a1 a2 λx hx=>a3 x (TV x hx),?_⟩⟩
 have zu:=w4 .un (some (.ref q)) λ_ _ _ y=>.un y
 rw[Fg w1] at zu
 have hi':(sl.set j .un)[i]?=some (.nu x):=by rw[getElem?_set_ne (Ne.symm hij)];exact hi
 have z4:ak B F (lo F (O1++O2) (upd H p (.lst (ps.map V.ref++[.ref q])))) (upd H p (.lst (ps.map V.ref++[.ref q]))) ((sl.set j .un).set i .un) σ (O1++O2):=(Xg zu hi' rfl).calm hn
 have hil:i<(sl.set j .un).length:=(List.getElem?_eq_some_iff.mp hi').1
 have nq:q∉ps:=λhq=>by
  obtain⟨xs,hx⟩:=Y4 y4 hq
  exact(Iw hx).2.2.1 (q,.lst vs) (by simp) rfl
 have rl:rp K (dif (lo F (O1++O2) (upd H p (.lst (ps.map V.ref++[.ref q])))) B.H0) (.ref p) (dO.mk (x.xss++[ys])):=by
  refine⟨p,ps++[q],rfl,?_,?_,?_⟩
  ·rw[wC a2,Fw a1 λx hx=>a3 x (TV x hx),zR,map_append];rfl
  ·have n1:=nodup_cons.mp y3
   refine nodup_cons.mpr ⟨λe=>?_,?_⟩
   ·rcases mem_append.mp e with e|e
    ·exact n1.1 e
    ·exact qp (mem_singleton.mp e)
   ·rw[nodup_append]
    refine⟨n1.2,by simp,λa ha b hb e=>nq ?_⟩
    rw[<-mem_singleton.mp hb,<-e]
    exact ha
  ·refine A2.snoc (TQ (λb hb xs hx=>?_) y4) ?_
   ·obtain⟨c1,c2,c3,c4⟩:=Iw hx
    have bp:b≠p:=λe=>(nodup_cons.mp y3).1 (e▸hb)
    show dif _ _ b=_
    rw[wC c2,Fw c1 λx hx=>c3 x (TV x hx),zP bp,c4]
   ·show dif _ _ q=_
    rw[wC b2,Fw b1 (z.1.Ri),zP qp.symm,b3,ev]
 have z5:=z4.put (i:=i) (s:=.un) (s':=.nu (dO.mk (x.xss++[ys]))) (x:=some (.ref p)) (λ_ _ _ y=>.nu rl y) (by rw[getElem?_set_self hil]) rfl
 rw[List.set_set,Fg y1] at z5
 exact z5
def Dg(x:dO)(j y:Int):Option dO:=if 0<=j then(x.xss[j.toNat]?).bind λr=>if r.length<cap then some (dO.mk (x.xss.set j.toNat (r++[y]))) else none else none
theorem Y7(i:Nat)(hs:sl[i]?=some (.nu x))(hn:(sl.set i .un).all (λs=>!Ku s)=true)(h2:Ex B sl .hp t2 m2)(h:Ex B sl .hp te m) :
  Sn B sl (Ih (JZ K "list" N5 (jk (rP K) (dU i) t2) (xQ te bD))) (λa=>sl.set i (.nu a)) (m2.bind λj=>m.bind λy=>Dg x j y):=λc hc G D σ H s k=>by
 cases m2 with
 |none=>cases hc
 |some j =>
  cases m with
  |none=>cases hc
  |some y =>
   have hc:Dg x j y=some c:=hc
   unfold Dg at hc
   split at hc
   case isFalse=>cases hc
   rename_i j0
   cases er:x.xss[j.toNat]? with
   |none=>rw[er] at hc;cases hc
   |some r =>
    rw[er] at hc
    have hc:(if r.length<cap then some (dO.mk (x.xss.set j.toNat (r++[y]))) else none)=some c:=hc
    split at hc
    case isFalse=>cases hc
    rename_i hl
    cases hc
    obtain⟨F,O,g,z⟩:=s
    obtain⟨v,y1,p,ps,rfl,y2,y3,y4⟩:=z.2.m7 hs
    obtain⟨a1,a2,a3,a4⟩:=Iw y2
    obtain⟨q,e3,e4⟩:=Df y4 er
    obtain⟨b1,b2,b3,b4⟩:=Iw e4
    refine⟨_,y1,h2 j rfl F O H σ _ z λw F2 H2 g2 r2=>?_⟩
    cases r2
    have hix:aV (ps.map V.ref) j=some (.ref q):=by
     have:=Wg (Xd e3)
     rw[show((j.toNat:Nat):Int)=j by omega] at this
     exact this
    refine⟨p,_,j,.ref q,rfl,rfl,aZ.of (g2.hh _ _ a4),hix,.inl ⟨rfl,_,aZ.of (g2.hh _ _ b4)⟩,?_⟩
    refine h y rfl F2 O H2 σ _ (z.grow g2) λw F3 H3 g3 r3=>?_
    cases r3
    have sH:=g2.trans g3
    have q1:=sH.nw q b1 (by rw[b4];intro z;cases z)
    have p1:=sH.nw p a1 (by rw[a4];intro z;cases z)
    have b4':=sH.hh _ _ b4
    refine⟨q,_,.int y,rfl,rfl,b4',Fd (by rw[length_map];exact hl),k _ _ ⟨F3,O,g.trans sH.ff,sH.ok.Kv q1 b2 b3,?_⟩⟩
    have z3:=(z.grow sH).2
    have z4:ak B F3 (lo F3 O (upd H3 q (.lst (r.map V.int++[.int y])))) (upd H3 q (.lst (r.map V.int++[.int y]))) (sl.set i .un) σ O:=(Xg z3 hs rfl).calm hn
    have hi:i<sl.length:=(List.getElem?_eq_some_iff.mp hs).1
    have pq:p≠q:=λe=>(nodup_cons.mp y3).1 (e▸mem_of_getElem? e3)
    have rl:rp K (dif (lo F3 O (upd H3 q (.lst (r.map V.int++[.int y])))) B.H0) (.ref p) (dO.mk (x.xss.set j.toNat (r++[y]))):=by
     refine⟨p,ps,rfl,?_,y3,Y0 (nodup_cons.mp y3).2 e3 (λb hb nb xs hx=>?_) ?_ y4⟩
     ·rw[wC a2,Fw p1 a3,zP pq]
      exact sH.hh _ _ a4
     ·obtain⟨c1,c2,c3,c4⟩:=Iw hx
      show dif _ _ b=_
      rw[wC c2,Fw (sH.nw b c1 (by rw[c4];intro z;cases z)) c3,zP nb]
      exact sH.hh _ _ c4
     ·show dif _ _ q=_
      rw[wC b2,Fw q1 b3,zR,map_append];rfl
    have z5:=z4.put (i:=i) (s:=.un) (s':=.nu (dO.mk (x.xss.set j.toNat (r++[y])))) (x:=some (.ref p)) (λ_ _ _ y=>.nu rl y) (by rw[getElem?_set_self hi]) rfl
    rw[List.set_set,Fg y1] at z5
    exact z5
structure TX where
 n:Nat
instance:Rp K TX:=⟨λF v x=>∃p vs,v=.ref p/\F p=some (.lst vs)/\vs.length<=x.n,λs ⟨p,vs,h1,h2,h3⟩=>⟨p,vs,h1,s _ _ h2,h3⟩⟩
end
structure Fx(v:V)(α:Type) where
 x:α
section
variable{K:PySem.W.Frag}{B:Bs}{sl:SL K}{F H G L:Hp}{O:Own}{σ:St}{te t2:TE}{t:TS}{al:Bool}{α:Type}[Rp K α]{md:Md}
instance:Rp K (Fx v α):=⟨λF u a=>u=v/\rp K F u a.x,λs h=>⟨h.1,Rp.mono s h.2⟩⟩
end
section
variable{K:PySem.W.Frag}{B:Bs}{sl:SL K}{te:TE}
end
end Ts
namespace jQ
open PySem PySem.Spec PyProof.Rows
set_option maxRecDepth 100000
theorem zFf:entryFor table "set.__xor__" = some Builtin.«frozenset.__xor__»:=entryFor_alias (id':="frozenset.__xor__") (by kernel_rfl) rfl (by decide +kernel) (by kernel_rfl)
section
variable{prog:Program}{w:World}{κ:Type}[DecidableEq κ]{knd:KeyKind prog w κ}{dec:Value->κ}{led:Bool}{A:Around}{E:Value->Shared->Prop}{s:Shared}
theorem Ay(hdec:∀k v,knd.is k v=true->dec v=k)(id:String)(hn:∀k v,knd.is k v=true->∀b,v≠.ref b)(hab:b≠r)(ga:Good knd dec (yJ w) s.heap r ka)(gb:Good knd dec (yJ w) s.heap b kb)(hl:ka.length+kb.length<=127){Q:Unit->Shared->Prop}(h:∀(h':Heap) (kr:List κ),SameBut r s.heap h'->Good knd dec (yJ w) h' r kr->(∀k,k∈kr↔((k∈ka/\k∉kb)\/(k∉ka/\k∈kb)))->Q () { s with heap:=h' }) :
  wpAny (model prog w) A (Builtin.Frozenset.symmetricDifferenceUpdate id r (.ref b)) Q E s:=by
 obtain⟨o,es,ep,t,h1,h2,h3,hf,hlb,tb,hel,hp⟩:=gb.size
 have TY:kb.Nodup:=by obtain⟨_,_,_,_,_,_,_,_,_,nd,_⟩:=gb;exact nd
 unfold Builtin.Frozenset.symmetricDifferenceUpdate
 rw[if_neg (λe=>hab (Value.ref.inj (eq_of_beq e)))]
 refine wpAny_bind (wpAny_typeOf gb.type ?_)
 rw[if_neg (by decide)]
 refine wpAny_bind (Pa gb.type ?_)
 simp only[↓reduceIte]
 refine wpAny_bind (wpAny_pure (wpAny_bind (wpAny_pure ?_)))
 refine wpAny_bind (wpAny_setEpoch_of h1 h3 hf ?_)
 refine wpAny_holding (wpAny_bind (Yn gb ga (λc hc=>(mem_singleton.mp hc)▸⟨ka,ga⟩) hn λes' h0 sS hp' sb0 ga0=>?_))
 rw[<-forIn_toList]
 have nd':(es'.toList.map λe=>dec e.2).Nodup:=hp'.nodup_iff.mpr TY
 have ln':es'.toList.length=kb.length:=by rw[<-hp'.length_eq,length_map]
 refine wpAny_bind (wpAny_mono (wpAny_forIn_list (β:=Unit) _ (λl _ s'=>∃h2 kr,s'={ s with heap:=h2 }/\SameBut r s.heap h2/\Good knd dec (yJ w) h2 r kr/\ElemsOf knd l/\(l.map λe=>dec e.2).Nodup/\kr.length+l.length<=127/\∀k,((k∈kr/\k∉l.map λe=>dec e.2)\/(k∉kr/\k∈l.map λe=>dec e.2))↔((k∈ka/\k∉kb)\/(k∉ka/\k∈kb))) (λ_ s'=>∃h2 kr,s'={ s with heap:=h2 }/\SameBut r s.heap h2/\Good knd dec (yJ w) h2 r kr/\∀k,k∈kr↔((k∈ka/\k∉kb)\/(k∉ka/\k∈kb))) ?turn ?fin es'.toList () ⟨h0,ka,rfl,sb0,ga0,sS,nd',by omega,λk=>?_⟩) ?post (λ_ _ h=>h))
 case turn =>
  rintro⟨hs',v⟩ l b' s' ⟨h2',kr,rfl,qj,g2,hl2,Ly,hlen,hm⟩
  obtain⟨⟨k,hk,hh⟩,hsc⟩:=hl2 _ mem_cons_self
  dsimp only at hk hh hsc ⊢
  subst hh
  have dv:dec v=k:=hdec k v hk
  rw[map_cons,nodup_cons] at Ly
  dsimp only at Ly
  rw[dv] at Ly
  have Jj:kr.Nodup:=by obtain⟨_,_,_,_,_,_,_,_,_,nd,_⟩:=g2;exact nd
  have hlen:kr.length+(l.length+1)<=127:=hlen
  have hm':∀c,((c∈kr/\¬(c=k\/c∈l.map λe=>dec e.2))\/(c∉kr/\(c=k\/c∈l.map λe=>dec e.2)))↔((c∈ka/\c∉kb)\/(c∉ka/\c∈kb)):=λc=>by
   have:=hm c
   rw[map_cons,mem_cons] at this
   dsimp only at this
   rw[dv] at this
   exact this
  refine wpAny_bind (wpAny_mono (Q:=λ_ s''=>∃h4 kq,s''={ s with heap:=h4 }/\SameBut r s.heap h4/\Good knd dec (yJ w) h4 r kq/\kq.length+l.length<=127/\∀c,c∈kq↔((c∈kr/\c≠k)\/(c=k/\k∉kr))) ?flip ?tail (λ_ _ h=>h))
  case flip =>
   refine wpAny_holding (wpAny_bind (zPb (led:=yJ w) (s:={ s with heap:=h2' }) hdec hk hsc g2 λh3' bb Gv g3 hb=>?_))
   cases bb with
   |true =>
    have km:=hb.mp rfl
    simp only[Bool.not_true,Bool.false_eq_true,↓reduceIte]
    refine wpAny_pure ⟨h3',kr.erase k,rfl,qj.trans Gv,g3,?_,λc=>?_⟩
    ·have:=List.length_erase_le (a:=k) (l:=kr)
     omega
    ·rw[Jj.mem_erase_iff]
     constructor
     ·rintro⟨z1,z2⟩
      exact .inl ⟨z2,z1⟩
     ·rintro(⟨z1,z2⟩|⟨_,z2⟩)
      ·exact⟨z2,z1⟩
      ·exact absurd km z2
   |false =>
    have km:k∉kr:=λz=>by have:=hb.mpr z;cases this
    rw[List.erase_of_not_mem km] at g3
    simp only[Bool.not_false,↓reduceIte]
    refine wpAny_bind (R_ (led:=yJ w) (s:={ s with heap:=h3' }) hdec hk hsc g3 (Nat.lt_of_le_of_lt (show kr.length+1<=127 by omega) (by decide)) λh4 b4 Gu g4=>wpAny_pure ⟨h4,k::kr,rfl,(qj.trans Gv).trans Gu,?_,?_,λc=>?_⟩)
    ·rw[if_neg km] at g4
     exact g4
    ·rw[length_cons];omega
    ·rw[mem_cons]
     constructor
     ·rintro(z|z)
      ·exact .inr ⟨z,km⟩
      ·exact .inl ⟨z,λq=>km (q▸z)⟩
     ·rintro(⟨z,_⟩|⟨z,_⟩)
      ·exact .inr z
      ·exact .inl z
  case tail =>
   rintro _ s'' ⟨h4,kq,rfl,Gu,g4,ln4,m4⟩
   refine wpAny_bind ?_
   unfold Builtin.Frozenset.unchanged
   refine wpAny_bind (wpAny_setEpoch_of (s:={ s with heap:=h4 }) (by show h4.get? b=_;rw[Gu.2 b hab];exact h1) h3 hf ?_)
   simp only[bne_self_eq_false,Bool.false_eq_true,↓reduceIte]
   refine wpAny_pure (wpAny_pure ⟨h4,kq,rfl,Gu,g4,λe he=>hl2 e (mem_cons_of_mem _ he),Ly.2,ln4,λc=>?_⟩)
   rw[<-hm' c,m4]
   by_cases ck:c=k
   ·subst ck
    have nl:=Ly.1
    constructor
    ·rintro(⟨z|⟨_,z⟩,_⟩|⟨_,z⟩)
     ·exact absurd rfl z.2
     ·exact .inr ⟨z,.inl rfl⟩
     ·exact absurd z nl
    ·rintro(⟨_,z⟩|⟨z,_⟩)
     ·exact absurd (.inl rfl) z
     ·exact .inl ⟨.inr ⟨rfl,z⟩,nl⟩
   ·simp only[ck,false_or,ne_eq,not_false_eq_true,and_true,false_and,or_false]
 case fin =>
  rintro b' s' ⟨h2',kr,rfl,qj,g2,_,_,hlen,hm⟩
  refine⟨h2',kr,rfl,qj,g2,λk=>?_⟩
  rw[<-hm k]
  simp
 case post =>
  rintro b' s' ⟨h2',kr,rfl,qj,g2,hm⟩
  exact wpAny_pure (h h2' kr qj g2 hm)
 ·rw[hp'.mem_iff]
theorem Y8(hdec:∀k v,knd.is k v=true->dec v=k)(hn:∀k v,knd.is k v=true->∀b,v≠.ref b)(ga:Good knd dec (yJ w) s.heap a ka)(gb:Good knd dec (yJ w) s.heap b kb)(hl:ka.length<=63)(hl':kb.length<=63){Q:Value->Shared->Prop}(h:∀(h':Heap) (kr:List κ),Good knd dec (yJ w) h' s.heap.objs.size kr->(∀k,k∈kr↔((k∈ka/\k∉kb)\/(k∉ka/\k∈kb)))->(∀c o,c<s.heap.objs.size->s.heap.get? c=some o->h'.get? c=some o)->Q (.ref s.heap.objs.size) { s with heap:=h' }) :
  wpAny (model prog w) A (binaryOp .BitXor (.ref a) (.ref b)) Q E s:=by
 have la:a<s.heap.objs.size:=by obtain⟨o,_,_,_,h1,_⟩:=ga;exact lt_size h1
 have lb:b<s.heap.objs.size:=by obtain⟨o,_,_,_,h1,_⟩:=gb;exact lt_size h1
 refine wpAny_binaryOp_same (op:=.BitXor) (T:="set") ga.type gb.type F.fills_set_xor F.slot_set_xor (wpAny_call_entry F.slot_set_xor ga.type zFf ?_ (F.args_set_xor_2 _ _))
 refine wpAny_bind (m:=Builtin.Frozenset.slot1 "__xor__" ⟨[.ref a,.ref b],[]⟩) ?_
 unfold Builtin.Frozenset.slot1 slotArgs
 refine wpAny_pure ?_
 dsimp only
 refine wpAny_bind (wpAny_bind (Pa ga.type ?_))
 refine Pa gb.type ?_
 simp only[Bool.not_true,Bool.false_eq_true,↓reduceIte]
 refine wpAny_bind (wpAny_pure (wpAny_bind ?_))
 refine wpAny_bind (m:=Builtin.Frozenset.baseOf a) (Ab ga.type ?_)
 have up:∀c o,s.heap.get? c=some o->(s.heap.push { cls:=.type "set",dict:=none,data:=.set #[] 0 (.fresh 0 0 (yJ w)) }).get? c=some o:=λc o e=>get?_push_of_some _ e
 have Y9:Good knd dec (yJ w) (s.heap.push { cls:=.type "set",dict:=none,data:=.set #[] 0 (.fresh 0 0 (yJ w)) }) s.heap.objs.size []:=Sh (get?_push_size _ rfl)
 have Y_:=ga.keep (up a)
 have Za:=gb.keep (up b)
 have fr:(s.heap.push { cls:=.type "set",dict:=none,data:=.set #[] 0 (.fresh 0 0 (yJ w)) }).get? s.heap.objs.size=some { cls:=.type "set",dict:=none,data:=.set #[] 0 (.fresh 0 0 (yJ w)) }:=get?_push_size _ rfl
 generalize hp:s.heap.push { cls:=.type "set",dict:=none,data:=.set #[] 0 (.fresh 0 0 (yJ w)) }=hq at up Y_ Za Y9 fr
 refine wpAny_bind ?_
 unfold Builtin.Frozenset.newFrom
 refine wpAny_bind (zNz ?_)
 rw[hp]
 refine wpAny_bind (wpAny_pure (wpAny_bind (wpAny_holding (Gw (s:={ s with heap:=hq }) hdec _ hn (Nat.ne_of_lt lb) Y9 Za (λ_=>fr) (by simp only[length_nil];omega) λh2 ks sb g2 m=>?_))))
 refine wpAny_pure (wpAny_bind (wpAny_pure ?_))
 have nd2:ks.Nodup:=by obtain⟨_,_,_,_,_,_,_,_,_,nd,_⟩:=g2;exact nd
 have TY:kb.Nodup:=by obtain⟨_,_,_,_,_,_,_,_,_,nd,_⟩:=gb;exact nd
 have lk:ks.length=kb.length:=((perm_ext_iff_of_nodup nd2 TY).mpr λk=>by rw[m k];simp).length_eq
 refine wpAny_bind (wpAny_holding (Ay (s:={ s with heap:=h2 }) hdec _ hn (Nat.ne_of_lt la) g2 (Y_.keep λo e=>by rw[sb.2 a (Nat.ne_of_lt la)];exact e) (by omega) λh3 kr Gv g3 m3=>wpAny_pure (wpAny_pure ⟨.ref s.heap.objs.size,rfl,λz=>Value.noConfusion z,h h3 kr g3 (λk=>?_) λc o hc e=>?_⟩)))
 ·rw[m3 k,m k]
  constructor
  ·rintro(⟨z1,z2⟩|⟨z1,z2⟩)
   ·exact .inr ⟨z2,z1.elim (λq=>by cases q) id⟩
   ·exact .inl ⟨z2,λq=>z1 (.inr q)⟩
  ·rintro(⟨z1,z2⟩|⟨z1,z2⟩)
   ·exact .inr ⟨λq=>q.elim (λq=>by cases q) z2,z1⟩
   ·exact .inl ⟨.inr z2,z1⟩
 ·rw[Gv.2 c (Nat.ne_of_lt hc),sb.2 c (Nat.ne_of_lt hc)]
  exact up c o e
end
end jQ
namespace L2
open PySem PySem.Spec PyProof.Rows jQ
section
variable{X:Cx}
def Dh(ta tb:K6):K6:=λσ H Q=>ta σ H λks H1=>ks.length<64/\tb σ H1 λjs H2=>js.length<64/\∀rs:LI,rs.Nodup->(∀z,z∈rs↔((z∈ks/\z∉js)\/(z∉ks/\z∈js)))->Q rs H2
theorem Az(ha:K7 X a ta)(hb:K7 X b tb):K7 X (.BinOp a .BitXor b pos) (Dh ta tb):=by
 intro pins s σ H Q I h
 refine wpAny_BinOp (aO (ha pins s σ H _ I h) λu s1 ⟨p,ks,H1,e,I1,g,fo,hl,h1⟩=>?_)
 subst e
 obtain⟨o,es,ep,t,go,gx,gd,_⟩:=id g
 have T3:=I1.pinned (fp:=[p]) (λb hb=>by rw[mem_singleton.mp hb];exact fo) (λb hb=>by
  rw[mem_singleton.mp hb]
  exact⟨o,go,λv z=>by rw[gd] at z;cases z⟩)
 refine aO (hb _ s1 σ H1 _ T3 h1) λu2 s2 ⟨p2,js,H2,e2,I2,g2,fo2,hl2,q2⟩=>?_
 subst e2
 have pm:(p,o)∈X.pn++(pins++Eb [p] s1.heap):=mem_append_right _ (mem_append_right _ (uC (mem_singleton.mpr rfl) go))
 have kp:s2.heap.get? p=some o:=(I2.pin (p,o) pm).1
 have g1:=g.keep (h':=s2.heap) λo' e'=>by rw[go] at e';cases e';exact kp
 have I3:=I2.fJ
 refine Y8 Ye (λk v hk b z=>?_) g1 g2 (Nat.le_of_lt_succ hl) (Nat.le_of_lt_succ hl2) λh' kr g3 m k=>?_
 ·obtain⟨t,rfl⟩:=Value.isInt_shape hk
  cases z
 ·have I4:=I3.kept (h':=h') (t':=s2.toks) λb o e=>k b o (lt_size e) e
  obtain⟨_,_,_,_,_,_,_,_,_,nd,_⟩:=id g3
  exact⟨_,kr,H2,rfl,I4,g3,I3.lq (Nat.le_refl _) (I3.hok.fresh (Nat.le_refl _)),q2 kr nd m⟩
def nD:Value->Str
 |.str k _=>k
 |_=>""
theorem T4(h:(PySem.strKind P w).is k v=true):∃t,v=.str k t:=by
 cases v<;>simp[PySem.strKind,Value.isStrOf] at h
 subst h
 exact⟨_,rfl⟩
theorem Zb:∀k v,(PySem.strKind P w).is k v=true->nD v=k:=λk v h=>by
 obtain⟨t,rfl⟩:=T4 h
 rfl
abbrev Lz:=St->Hp->(List Str->Hp->Prop)->Prop
def SsP(X:Cx)(pins:List (Addr×Obj))(σ:St)(Q:List Str->Hp->Prop)(v:Value)(s':Shared):Prop :=
 ∃(a:Addr)(ks:List Str)(H':Hp),v=.ref a/\Inv X pins σ H' s'/\Good (PySem.strKind X.prog X.w) nD (yJ X.w) s'.heap a ks/\jj X pins H' a/\Q ks H'
def LC(X:Cx)(e:Expr)(t:Lz):Prop:=∀(pins:List (Addr×Obj))(s:Shared)(σ:St)(H:Hp)(Q:List Str->Hp->Prop),Inv X pins σ H s->t σ H Q->wpAny (model X.prog X.w) X.A (eval e X.env) (SsP X pins σ Q) X.xe s
theorem Zc:∀{ns:List Str}{its:List Value},StrsAre its ns->∀{i:Nat}{v:Value},its[i]?=some v->∃t,v=.str (ns.getD i "") t
 |_,_,.nil,i,v,h=>by simp at h
 |_,_,.cons n t r,0,v,h=>by simp at h;subst h;exact⟨t,rfl⟩
 |_,_,.cons n t r,i+1,v,h=>by
  obtain⟨t',e⟩:=Zc r (by simpa using h)
  exact⟨t',e⟩
theorem Zd:∀{ns:List Str}{its:List Value},StrsAre its ns->its.length=ns.length
 |_,_,.nil=>rfl
 |_,_,.cons n t r=>congrArg (· + 1) (Zd r)
def sU(K:PySem.W.Frag)(te:TE):Lz:=λσ H Q=>xQ te bD σ H λvs H1=>∃(p:Addr)(ns:List Str),vs=[.ref p]/\aZ K H1 p (ns.map V.str)/\ns.length<4000/\∀ks:List Str,ks.Nodup->(∀z,z∈ks↔z∈ns)->Q ks H1
theorem Ze(K:PySem.W.Frag)(hc:X.calm=true)(hm:X.mg "set" = none)(he:PE X e te)(hK:X.K=K:=by rfl)(hg:Gl X "set":=by rfl)(hs:starEach [e] X.env=[(false,eval e X.env)]:=by rfl):LC X (.Call (.Name "set" p) [e] [] pos) (sU K te):=by
 subst hK
 intro pins s σ H Q I h
 refine wpAny_Call_Name_kw (rB I hg hm Yi ?_)
 have ha:PA X [e] (xQ te bD):=zA he zD hs
 refine PyProof.Rows.callWith_type1 (aO (ha pos pins s σ H _ I h) λus s1 ⟨vs,H1,I1,r1,q1⟩=>?_) hs rfl
 obtain⟨l,ns,e1,hq,h4,q⟩:=q1
 subst e1
 cases r1 with
 |cons r rr =>
  cases rr
  cases r
  obtain⟨its,rv,pl,hz⟩:=I1.list hq
  have hi:StrsAre its ns:=Ts.pR rv
  have hl:=Zd hi
  refine XR (knd:=PySem.strKind X.prog X.w) (dec:=nD) Zb (λi=>ns.getD i "") (I1.ok.hd hc) pl.isList (λi v hv=>?_) (by rw[size_toArray,hl];show ns.length+1<4096;omega) λh' tk g k=>?_
  ·obtain⟨t,rfl⟩:=Zc hi (by rw[getElem?_toArray] at hv;exact hv)
   exact⟨PySem.strKind_is _ _ _ _,rfl⟩
  ·have I2:=I1.kept (h':=h') (t':=tk) λb o e=>k b o (lt_size e) e
   obtain⟨_,_,_,_,_,_,_,_,_,nd,_⟩:=id g
   refine⟨_,_,H1,rfl,I2,g,I1.lq (Nat.le_refl _) (I1.hok.fresh (Nat.le_refl _)),q _ nd λz=>?_⟩
   rw[Sd,size_toArray,hl]
   constructor
   ·rintro⟨j,hj,rfl⟩
    rw[getD_eq_getElem?_getD,List.getElem?_eq_getElem hj]
    exact getElem_mem hj
   ·intro hz
    obtain⟨j,hj,e⟩:=getElem_of_mem hz
    exact⟨j,hj,by rw[getD_eq_getElem?_getD,List.getElem?_eq_getElem hj];exact e⟩
def Di(ta tb:Lz):Lz:=λσ H Q=>ta σ H λks H1=>ks.length<64/\tb σ H1 λjs H2=>js.length<64/\∀rs:List Str,rs.Nodup->(∀z,z∈rs↔((z∈ks/\z∉js)\/(z∉ks/\z∈js)))->Q rs H2
theorem A_(ha:LC X a ta)(hb:LC X b tb):LC X (.BinOp a .BitXor b pos) (Di ta tb):=by
 intro pins s σ H Q I h
 refine wpAny_BinOp (aO (ha pins s σ H _ I h) λu s1 ⟨p,ks,H1,e,I1,g,fo,hl,h1⟩=>?_)
 subst e
 obtain⟨o,es,ep,t,go,gx,gd,_⟩:=id g
 have T3:=I1.pinned (fp:=[p]) (λb hb=>by rw[mem_singleton.mp hb];exact fo) (λb hb=>by
  rw[mem_singleton.mp hb]
  exact⟨o,go,λv z=>by rw[gd] at z;cases z⟩)
 refine aO (hb _ s1 σ H1 _ T3 h1) λu2 s2 ⟨p2,js,H2,e2,I2,g2,fo2,hl2,q2⟩=>?_
 subst e2
 have pm:(p,o)∈X.pn++(pins++Eb [p] s1.heap):=mem_append_right _ (mem_append_right _ (uC (mem_singleton.mpr rfl) go))
 have kp:s2.heap.get? p=some o:=(I2.pin (p,o) pm).1
 have g1:=g.keep (h':=s2.heap) λo' e'=>by rw[go] at e';cases e';exact kp
 have I3:=I2.fJ
 refine Y8 Zb (λk v hk b z=>?_) g1 g2 (Nat.le_of_lt_succ hl) (Nat.le_of_lt_succ hl2) λh' kr g3 m k=>?_
 ·obtain⟨t,rfl⟩:=T4 hk
  cases z
 ·have I4:=I3.kept (h':=h') (t':=s2.toks) λb o e=>k b o (lt_size e) e
  obtain⟨_,_,_,_,_,_,_,_,_,nd,_⟩:=id g3
  exact⟨_,kr,H2,rfl,I4,g3,I3.lq (Nat.le_refl _) (I3.hok.fresh (Nat.le_refl _)),q2 kr nd m⟩
def Zf(ts:Lz):TE:=λσ H Q=>ts σ H λks H1=>ks.length<64/\∀l:Addr,H1 l=none->Q (.ref l) (upd H1 l (.lst ((Ts.bf ks).map V.str)))
theorem Zg:∀{vs:List Value},(∀v∈vs,∃k,(PySem.strKind P w).is k v=true)->StrsAre vs (vs.map nD)
 |[],_=>.nil
 |v::vs,h=>by
  obtain⟨k,hk⟩:=h v mem_cons_self
  obtain⟨t,rfl⟩:=T4 hk
  exact .cons k t (Zg (P:=P) (w:=w) λu hu=>h u (mem_cons_of_mem _ hu))
theorem zK3{xs:List Str}(p:xs.Perm ks)(h:sortedS xs=true):xs=Ts.bf ks:=Ts.dH (r:=λa b=>Ts.dX a b=true) (λ_ _=>Ts.gJ) (p.trans (Ts.aD ks).symm) (Ts.jW h) (Ts.dG ks)
theorem zMp(hc:X.calm=true)(I:Inv X pins σ H s)(g:Good (PySem.strKind X.prog X.w) nD (yJ X.w) s.heap a ks)(h64:ks.length<64)(q:∀l:Addr,H l=none->Q (.ref l) (upd H l (.lst ((Ts.bf ks).map V.str)))):wpAny (model X.prog X.w) X.A (call (.builtin "sorted") [.ref a]) (EP X pins σ Q) X.xe s:=by
 obtain⟨o,es,ep,t,ho,hx,hd,hel,hp,nd,hb,hf,tb⟩:=g
 have hsz:es.size=ks.length:=by rw[<-hp.length_eq,length_map,length_toList]
 refine PySem.Calls.call_function_entry kind_sorted plain_sorted entry_sorted (args_sorted1 _) ?_
 unfold Builtin.«sorted»
 refine wpAny_bind (m:=checkCount "sorted" 1 1 _) (wpAny_pure ?_)
 refine wpAny_bind (Yd (A:=X.A.in1) (I.ok.hd hc) ho hx hd hf tb (fits_of_scanBound hb) λh' tk d acc hkeep hacc=>?_)
 have I':Inv X pins σ H { s with heap:=h',toks:=tk,drawn:=d }:=(I.kept (h':=h') (t':=tk) hkeep).drew d
 have hI:StrsAre acc (acc.map nD):=Zg (P:=X.prog) (w:=X.w) λv hv=>by
  obtain⟨e,he,rfl⟩:=mem_map.mp (hacc.mem_iff.mp hv)
  obtain⟨⟨k,hk,_⟩,_⟩:=hel e he
  exact⟨k,hk⟩
 have hpk:(acc.map nD).Perm ks:=by
  refine(hacc.map nD).trans ?_
  rw[map_map]
  exact hp
 have hal:acc.length=ks.length:=by rw[<-hpk.length_eq,length_map]
 have hsl:acc.length<=sizeLine:=by rw[hal];exact Nat.le_of_lt (Nat.lt_trans h64 (by decide))
 refine wpAny_bind (wpAny_newList ?_ hsl)
 have hoL:(h'.push (seqObj "list" acc.toArray 0)).get? h'.objs.size=some (seqObj "list" acc.toArray 0):=get?_push_size _ rfl
 refine wpAny_bind (wpAny_holding (wpAny_call_entry slot_list_sort ⟨_,hoL,rfl⟩ entry_list_sort (list_sort_treeK strKind_oneLt hoL hI.keysOf (λv₁ v₂ rest e=>keyKind_strs (by rw[<-e];exact hI)) (by omega) λst' sp sh=>⟨_,rfl,?_⟩) (args_list_sort _)))
 obtain⟨ss',a1,a2,a3⟩:=sorted_out_str hI sp sh
 refine wpAny_pure ⟨_,rfl,?_⟩
 obtain⟨e,he⟩:=sortedHeap_at (out:=(arrOf st').map (·.2)) hoL
 have eu:=zK3 (a2.trans hpk) a3
 rw[eu] at a1
 refine⟨.ref h'.objs.size,_,I'.laid (t':=tk) (o:=.lst ((Ts.bf ks).map V.str)) (λb ob w=>?_) (Nat.le_refl _) ?_,rfl,q _ (I'.hok.fresh (Nat.le_refl _))⟩
 ·have hb:h'.get? b=some ob:=w
  have hlt:=lt_size hb
  rw[sortedHeap_old (Nat.ne_of_lt hlt) (by rw[size_push'];exact Nat.lt_succ_of_lt hlt),Heap.get?_push_ne _ _ _ (Nat.ne_of_lt hlt)]
  exact hb
 ·refine⟨?_,((arrOf st').map (·.2)).toList,e,Ts.iQ a1,?_⟩
  ·rw[length_map,(Ts.aD ks).length_eq];omega
  ·rw[toArray_toList];exact he
theorem zNg(hc:X.calm=true)(hm:X.mg "sorted" = none)(he:LC X e ts)(hg:Gl X "sorted":=by rfl)(hs:starEach [e] X.env=[(false,eval e X.env)]:=by rfl):PE X (.Call (.Name "sorted" p) [e] [] pos) (Zf ts):=by
 intro pins s σ H Q I h
 refine wpAny_Call_Name_kw (rB I hg hm (by decide +kernel:bootBuiltins "sorted" = some (.builtin "sorted")) ?_)
 refine PyProof.Rows.callWith_builtin1 (Q:=_) ?_ hs rfl
 rw[hs]
 show wpAny _ _ (spliced ((false,eval e X.env)::backTo pos [])) _ _ s
 refine Calls.spliced_cons (aO (he pins s σ H _ I h) λu s1 ⟨a,ks,H1,e1,I1,g,fo,h64,q⟩=>?_)
 subst e1
 refine Calls.spliced_nil ?_
 exact zMp hc I1 g h64 q
end
end L2
namespace Ts
open PySem L2
def oR(ns ms:LI):LI:=oh (ns.filter (λz=>!decide (z∈ms))++ms.filter λz=>!decide (z∈ns))
def LK(ns ms:LI):Option LI:=if ns.length+ms.length<64 then some (oR ns ms) else none
def qt(ns ms:List Str):List Str:=bf (ns.filter (λz=>!decide (z∈ms))++ms.filter λz=>!decide (z∈ns))
def LQ(ns ms:List Str):Option (List Str):=if ns.length+ms.length<64/\ns.Nodup/\ms.Nodup then some (qt ns ms) else none
theorem Jk{α:Type}[DecidableEq α]{ns ms:List α}{z:α}:z∈ns.filter (λz=>!decide (z∈ms))++ms.filter (λz=>!decide (z∈ns))↔((z∈ns/\z∉ms)\/(z∉ns/\z∈ms)):=by
 rw[mem_append,mem_filter,mem_filter]
 simp only[Bool.not_eq_true',decide_eq_false_iff_not]
 constructor
 ·rintro(h|h)
  ·exact .inl h
  ·exact .inr ⟨h.2,h.1⟩
 ·rintro(h|h)
  ·exact .inl h
  ·exact .inr ⟨h.2,h.1⟩
theorem Ba{α:Type}[DecidableEq α](ns ms:List α):(ns.filter (λz=>!decide (z∈ms))++ms.filter (λz=>!decide (z∈ns))).length<=ns.length+ms.length:=by
 rw[length_append]
 have:=length_filter_le (λz=>!decide (z∈ms)) ns
 have:=length_filter_le (λz=>!decide (z∈ns)) ms
 omega
section
variable{K:PySem.W.Frag}{B:Bs}{sl:SL K}{md:Md}{t u:TE}
theorem zLs(h:Ex B sl .hp t m)(h':Ex B sl .hp u m'):Eo B sl md (SN (Dh (O_ K t) (O_ K u))) (m.bind λa=>m'.bind λb=>LK a b):=λc hc F O H σ Q s k=>by
 cases m with
 |none=>cases hc
 |some ns =>
  cases m' with
  |none=>cases hc
  |some ms =>
   have hc:LK ns ms=some c:=hc
   unfold LK at hc
   split at hc
   case isFalse=>cases hc
   rename_i hl
   cases hc
   refine h ns rfl F O H σ _ s λv F1 H1 g1 r1=>?_
   obtain⟨p,vs,rfl,z1,z2⟩:=r1
   have z3:vs=ns.map V.int:=z2.vals
   subst z3
   refine⟨p,ns,rfl,aZ.of z1,by omega,λks nd hm=>⟨Nat.lt_of_le_of_lt (K8 nd λz hz=>(hm z).mp hz) (by omega),?_⟩⟩
   refine h' ms rfl F1 O H1 σ _ (s.grow g1) λv F2 H2 g2 r2=>?_
   obtain⟨p',vs',rfl,y1,y2⟩:=r2
   have y3:vs'=ms.map V.int:=y2.vals
   subst y3
   refine⟨p',ms,rfl,aZ.of y1,by omega,λjs nd' hm'=>⟨Nat.lt_of_le_of_lt (K8 nd' λz hz=>(hm' z).mp hz) (by omega),λrs Jj hr=>⟨?_,λl xs hn p1 p2=>?_⟩⟩⟩
   ·refine Nat.lt_of_le_of_lt (K8 (ns:=ns++ms) Jj λz hz=>?_) (by rw[length_append];omega)
    rcases(hr z).mp hz with q|q
    ·exact mem_append_left _ ((hm z).mp q.1)
    ·exact mem_append_right _ ((hm' z).mp q.2)
   ·have e:xs=oR ns ms:=z_ (SQ p2 (p1.nodup_iff.mpr Jj)) (Jd _) λz=>by unfold oR;rw[p1.mem_iff,hr,hm,hm',xK,Jk]
    subst e
    exact k l _ F2 H2 (g1.trans g2) hn (Fv _)
theorem zI3(h:Ex B sl .hp t m)(h':Ex B sl .hp u m'):Eo B sl md (Zf (Di (sU K t) (sU K u))) (m.bind λa=>m'.bind λb=>LQ a b):=λc hc F O H σ Q s k=>by
 cases m with
 |none=>cases hc
 |some ns =>
  cases m' with
  |none=>cases hc
  |some ms =>
   have hc:LQ ns ms=some c:=hc
   unfold LQ at hc
   split at hc
   case isFalse=>cases hc
   rename_i hl
   obtain⟨hl,n1,n2⟩:=hl
   cases hc
   refine h ns rfl F O H σ _ s λv F1 H1 g1 r1=>?_
   obtain⟨p,vs,rfl,z1,z2⟩:=r1
   have z3:vs=ns.map V.str:=A2.iz z2
   subst z3
   refine⟨p,ns,rfl,aZ.of z1,by omega,λks nd hm=>⟨?_,?_⟩⟩
   ·rw[((perm_ext_iff_of_nodup nd n1).mpr hm).length_eq];omega
   refine h' ms rfl F1 O H1 σ _ (s.grow g1) λv F2 H2 g2 r2=>?_
   obtain⟨p',vs',rfl,y1,y2⟩:=r2
   have y3:vs'=ms.map V.str:=A2.iz y2
   subst y3
   have ndx:(ns.filter (λz=>!decide (z∈ms))++ms.filter λz=>!decide (z∈ns)).Nodup:=by
    rw[nodup_append]
    refine⟨n1.filter _,n2.filter _,λa ha b hb e=>?_⟩
    have h1:=(mem_filter.mp ha).2
    have h2:=(mem_filter.mp hb).1
    rw[<-e] at h2
    simp[h2] at h1
   refine⟨p',ms,rfl,aZ.of y1,by omega,λjs nd' hm'=>⟨?_,λrs Jj hr=>?_⟩⟩
   ·rw[((perm_ext_iff_of_nodup nd' n2).mpr hm').length_eq];omega
   ·have pr:rs.Perm (ns.filter (λz=>!decide (z∈ms))++ms.filter λz=>!decide (z∈ns)):=(perm_ext_iff_of_nodup Jj ndx).mpr λz=>by rw[hr,hm,hm',Jk]
    refine⟨by rw[pr.length_eq];exact Nat.lt_of_le_of_lt (Ba ns ms) hl,λl hn=>?_⟩
    have e:bf rs=qt ns ms:=dH (r:=λa b=>dX a b=true) (λ_ _=>gJ) (((aD rs).trans pr).trans (aD _).symm) (dG rs) (dG _)
    rw[e]
    exact k l _ F2 H2 (g1.trans g2) hn (A2.of_map (f:=V.str) (λ_=>rfl) _)
end
section
variable{K:PySem.W.Frag}{B:Bs}{sl:SL K}{md:Md}{t:TE}
instance:Rp K Key:=⟨λ_ v k=>v=kV k,λ_ h=>h⟩
instance:Nn K Key:=⟨λ{_ v a} h=>by cases a<;>(intro e;rw[e] at h;cases h)⟩
instance:Sc K Key:=⟨kV,Iff.rfl,λ{a b} h=>by cases a<;>cases b<;>cases h<;>rfl⟩
theorem sV(h:Ex B sl md t m):Ex B sl md t (m.bind λa=>some (Sum.inl a:Key)):=λc hc F O H σ Q s k=>by
 cases m with
 |none=>cases hc
 |some a=>cases hc;exact h a rfl F O H σ Q s k
theorem LR(h:Ex B sl md t m):Ex B sl md t (m.bind λa=>some (Sum.inr a:Key)):=λc hc F O H σ Q s k=>by
 cases m with
 |none=>cases hc
 |some a=>cases hc;exact h a rfl F O H σ Q s k
end
def top(i:Nat):Stmt:=PySem.Challenge.pw_treesay_k65_folded_twice.main.body.getD i (.Pass ⟨0,0,0,0⟩)
abbrev iB:Stmt:=top 11
abbrev cL:Stmt:=top 12
abbrev dh:Stmt:=top 13
abbrev jo:Stmt:=top 14
abbrev dj:Stmt:=top 15
abbrev dY:Stmt:=top 16
abbrev jX:Stmt:=top 17
abbrev Pn:Stmt:=top 18
abbrev sW:Stmt:=N7 (top 19) 0
abbrev cN:Stmt:=N7 (top 19) 1
abbrev bU:Stmt:=N7 (top 19) 2
abbrev bN:Stmt:=N7 (top 19) 5
abbrev dZ:Stmt:=top 21
abbrev cO:Stmt:=top 22
abbrev bW:Stmt:=top 24
abbrev cP:Stmt:=top 25
abbrev cB:Stmt:=top 26
abbrev d7:Stmt:=top 27
abbrev cD:Stmt:=top 28
abbrev d8:Stmt:=top 29
abbrev cF:Stmt:=top 30
abbrev bJ:Stmt:=top 31
abbrev jq:Stmt:=top 32
abbrev jY:Stmt:=top 33
abbrev cQ:Stmt:=top 34
abbrev dw:Stmt:=top 35
abbrev dz:Stmt:=top 36
abbrev jr:Stmt:=top 37
abbrev iC:Stmt:=top 38
abbrev fQ:Stmt:=top 40
abbrev jt:Stmt:=top 41
abbrev fU:Stmt:=top 42
abbrev fV:Stmt:=top 43
abbrev d9:Stmt:=top 44
abbrev fW:Stmt:=top 45
abbrev fX:Stmt:=top 46
abbrev d_:Stmt:=top 47
abbrev fY:Stmt:=top 48
abbrev lN:Stmt:=top 49
section
variable{P:Program}{w:World}{K:PySem.W.Frag}{mg:Str->Option Value}{base:Heap}
def T5(K:PySem.W.Frag):Sp:=λvs H Q _=>∃(a:Addr)(bs:List Addr)(xss:List LI),vs=[.ref a]/\aZ K H a (bs.map V.ref)/\m9 K H bs xss/\xss.length<=60/\Oq xss.length xss /\
 ∀(r:Addr)(cs:List Addr)(H':Hp),Same H H'->H r=none->H' r=some (.lst (cs.map V.ref))->cs.length=xss.length->m_ H' cs (src xss)->(∀c∈cs,H c=none)->Q (.ref r) H'
theorem sX:ao ["steps","sources","stand","targets","target"] ["steps"] (zI Pn):=⟨rfl,rfl,rfl,by decide +kernel,rfl,by decide +kernel,by decide +kernel⟩
theorem T6:(["stand"]:List Str).Nodup:=by decide +kernel
theorem GK{cs:List Addr}(nd:cs.Nodup){i j:Nat}{c:Addr}(h1:cs[i]?=some c)(h2:cs[j]?=some c):i=j:=by
 obtain⟨k1,e1⟩:=List.getElem?_eq_some_iff.mp h1
 obtain⟨k2,e2⟩:=List.getElem?_eq_some_iff.mp h2
 exact(getElem_inj nd).mp (e1.trans e2.symm)
theorem m_.put{GP:Nat->LI}(r:m_ H cs row)(nd:cs.Nodup)(hc:cs[j]?=some c)(e:GP j=xs)(e':∀k,k≠j->GP k=row k):m_ (upd H c (.lst (xs.map V.int))) cs GP:=λk d hd=>by
 by_cases hk:k=j
 ·subst hk
  rw[hc] at hd
  cases hd
  rw[zR,e]
 ·rw[zP (λz=>hk (GK nd hd (by rw[z];exact hc))),e' k hk]
  exact r k d hd
theorem L_(F:bR K "sources_of" "sources_of" Pn f fd)(B:Bl K mg):aB P w K mg base bH 1 f fd ["steps"] (T5 K):=by
 refine F.ok sX (λvs H Q E h=>?_) (λcdv A outer s H vs Q E hr h=>?_)
 ·obtain⟨a,bs,xss,rfl,_⟩:=h
  rfl
 obtain⟨a,bs,xss,rfl,hS,hR,Pq,hV,q⟩:=h
 have Zh:(bs.map V.ref).length=xss.length:=by rw[length_map];exact hR.1
 refine⟨_,zC (Ce (i:=1) (own:=["stand"]) (ix:=[]) sX.nd rfl rfl rfl rfl rfl (Qx (pv 0)) (λC s H fp=>yI (i:=0) T6 rfl (Or.inl rfl)) (λC s H fp=>wD) (λC s H fp=>xT zD))
  (zC (wB PassesOwn.never rfl (WT rfl B.enum (zA (pv 0) zD)) (uz rfl (yB (yI (i:=2) sX.nd rfl (Or.inl rfl)) (yB (yI (i:=3) sX.nd rfl (Or.inl rfl)) vC)))
   (Ig (wB PassesOwn.never rfl (Qx (pv 3)) (yI (i:=4) sX.nd rfl (Or.inl rfl))
    (Ig (yN (Ca PySem.F.plainAttrs_list PySem.F.slot_list_append PySem.F.type_list_append yP (wG Wj (pv 1) (pv 4) (λ_ _=>rfl)) (zA (pv 2) zD)))))))
  (Ig (yE (pv 1)))),?_⟩
 refine⟨_,rfl,a,rfl,⟨_,hS⟩,WR (K:=K) (a:=a) (xs:=bs.map V.ref) (λi ys σ H2=>∃(cs:List Addr)(v:Option V),ys=cs.map V.ref/\σ=[v]/\Same H H2/\News H H2 cs (replicate i [])/\cs.length=i)
  ⟨[],none,rfl,rfl,Same.refl H,News.nil,rfl⟩ (λi ys σ H2 _ ⟨cs,v,e,_,s2,_,hi⟩=>⟨s2.seq hS,by rw[e,length_map,hi];exact Nat.le_refl _⟩) (Wt (by omega)) ?_ ?_⟩
 ·rintro i y ys σ H2 hi ⟨cs,v,rfl,rfl,s2,hN,T7⟩
  refine zQv ?_
  refine⟨(by show 0<=sizeLine;decide),λl hl'=>?_⟩
  refine⟨cs++[l],_,by rw[map_append]<;>rfl,rfl,s2.trans (aJ hl' _),?_,by rw[length_append,T7]<;>rfl⟩
  have e:replicate (i+1) ([]:List V)=replicate i []++[[]]:=List.replicate_succ'
  rw[e]
  exact hN.snoc s2 hl'
 rintro ys σ H2 ⟨cs,v,rfl,rfl,s2,hN,T7⟩ r hr0
 have hcl:cs.length=xss.length:=by rw[T7,Zh]
 have s3:Same H (upd H2 r (.lst (cs.map V.ref))):=s2.trans (aJ hr0 _)
 have hrH:H r=none:=s2.free hr0
 have Zi:r∉cs:=hN.Ks hr0
 have R0:m_ (upd H2 r (.lst (cs.map V.ref))) cs (src (xss.take 0)):=λj c hc=>by
  obtain⟨xs,h1,h2⟩:=hN.at_ j c hc
  have e:xs=[]:=by
   rw[getElem?_replicate] at h1
   split at h1
   ·exact(Option.some.inj h1).symm
   ·cases h1
  subst e
  rw[zP (λz=>Zi (by rw[<-z];exact mem_of_getElem? hc)),h2]
  rfl
 refine⟨_,rfl,a,rfl,⟨_,s3.seq hS⟩,zQ9 (K:=K) (a:=a) (xs:=bs.map V.ref) (λi σ H4=>∃u v t,σ=[some (.ref a),some (.ref r),u,v,t]/\Same H H4/\H4 r=some (.lst (cs.map V.ref))/\m_ H4 cs (src (xss.take i)))
  ⟨none,none,none,rfl,s3,zR,R0⟩ (λi σ H4 _ ⟨_,_,_,_,s4,_⟩=>s4.seq hS) ?_ ?_⟩
 ·rintro i x t σ H4 hi ht ⟨u,v,t',rfl,s4,T8,R4⟩
  obtain⟨b,rfl,hb⟩:=RK hi
  obtain⟨xs,hx,Zj⟩:=hR.2 i b hb
  obtain⟨ne,nd,len,vr⟩:=hV.2 xs (mem_of_getElem? hx)
  have il:=yC hx
  have st:Same H4 (upd H4 t (.tup [.int i,.ref b])):=aJ ht _
  have s5:=s4.trans st
  refine⟨t,_,rfl,nZ.of zR,rfl,_,_,rfl,_,_,rfl,rfl,?_⟩
  refine⟨_,rfl,b,rfl,⟨_,s5.seq Zj⟩,Vy (K:=K) (a:=b) (xs:=xs.map V.int) (λm σ H6=>∃tt,σ=[some (.ref a),some (.ref r),some (.int i),some (.ref b),tt]/\Same H H6/\H6 r=some (.lst (cs.map V.ref)) /\
   m_ H6 cs λj=>src (xss.take i) j++(if(j:Int)∈xs.take m then[(i:Int)] else[])) ⟨t',rfl,s5,st _ _ T8,λj c hc=>?_⟩ (λm σ H6 _ ⟨_,_,s6,_⟩=>s6.seq Zj) ?_ ?_⟩
  ·rw[st _ _ (R4 j c hc)]
   simp
  ·rintro m y σ H6 hm ⟨tt,rfl,s6,Pr,R6⟩
   obtain⟨z,rfl,hz⟩:=int_at hm
   obtain⟨z0,z1⟩:=vr z (mem_of_getElem? hz)
   have zl:z.toNat<cs.length:=by rw[hcl];omega
   have hc:cs[z.toNat]?=some cs[z.toNat]:=List.getElem?_eq_getElem zl
   have hz':((z.toNat:Nat):Int)=z:=by omega
   have hrow:=R6 z.toNat _ hc
   have hno:¬z∈xs.take m:=RM nd hz
   simp only[hz',if_neg hno,append_nil] at hrow
   have hix:aV (cs.map V.ref) z=some (.ref cs[z.toNat]):=by
    have:=Wg (Xd hc)
    rw[hz'] at this
    exact this
   refine⟨_,rfl,_,rfl,r,_,z,_,rfl,rfl,aZ.of Pr,hix,.inl ⟨rfl,_,aZ.of hrow⟩,_,rfl,_,_,_,rfl,rfl,hrow,?_,?_⟩
   ·have:=yc (xss.take i) z.toNat
    rw[length_take] at this
    refine Wt ?_
    rw[length_map]
    omega
   ·have cH:H cs[z.toNat]=none:=hN.new _ (mem_of_getElem? hc)
    have cr:r≠cs[z.toNat]:=λe=>Zi (by rw[e];exact mem_of_getElem? hc)
    refine⟨_,rfl,s6.put cH _,by rw[zP cr];exact Pr,?_⟩
    have em:(src (xss.take i) z.toNat).map V.int++[V.int i]=(src (xss.take i) z.toNat++[(i:Int)]).map V.int:=by rw[map_append]<;>rfl
    rw[em]
    refine R6.put hN.nd hc ?_ λk hk=>?_
    ·rw[hz',if_pos ((uA hz).mpr (.inr rfl))]
    ·have hk':((k:Int)∈xs.take (m+1))=((k:Int)∈xs.take m):=by
      rw[uA hz]
      refine propext ⟨λh=>h.elim id λe=>absurd (by omega) hk,.inl⟩
     simp only[hk']
  ·rintro σ H6 ⟨tt,rfl,s6,Pr,R6⟩
   refine⟨_,_,_,rfl,s6,Pr,λj c hc=>?_⟩
   rw[R6 j c hc,zP3 hx j,length_map,take_length]
 ·rintro σ H4 ⟨u,v,t,rfl,s4,T8,R4⟩
  refine⟨_,rfl,?_⟩
  have e:xss.take (bs.map V.ref).length=xss:=by rw[Zh];exact take_length
  rw[e] at R4
  exact q r cs H4 s4 hrH T8 hcl R4 hN.new
end
structure sY(K:PySem.W.Frag)(x qual:Str)(st:Stmt)(dV:Value)(f:Addr)(fd:FuncData):Prop where
 ex:∃(oc:Value)(od:Option Addr)(kV doc pm:Value)(an:Option Addr)(cdv ct:Value)(osl:Array (Option Value)),
  fd=fnOf x qual (vT st) (wE st) (zI st) dV kV doc pm an cdv ct/\K.lookup f=some ⟨oc,od,.func fd,osl⟩/\codeIn K cdv qual=true
 kp:keepIn K (.ref f)=true
section
variable{P:Program}{w:World}{K:PySem.W.Frag}{mg:Str->Option Value}{base:Heap}
theorem sY.ok(F:sY K x qual st dV f fd)(S:ao N ps (zI st))(len:∀vs H Q E,sp vs H Q E->vs.length=ps.length)(hbody:∀(cdv:Value) (A:Around) (outer:List Env) (s:Shared) (H:Hp) (vs:List V) (Q:VK) (E:XK),bI k (A.deeper (PyProof.Rows.envOfC qual (zI st) s.heap.objs.size f cdv))->sp vs H Q E ->
   ∃t,mY (lY bH P w K mg base N qual (zI st) f cdv A outer s H E).BK (wE st) t/\t { nx:=λ_ H'=>Q .non H',rt:=Q } (start N vs) H):aB P w K mg base bH (k+1) f fd ps sp:=by
 obtain⟨oc,od,kV,doc,pm,an,cdv,ct,osl,rfl,lk,hcd⟩:=F.ex
 refine BR lk hcd S len λA outer s H vs Q E hr hsp=>?_
 obtain⟨t,h,q⟩:=hbody cdv A outer s H vs Q E hr hsp
 exact⟨t,h.BK,q⟩
structure Cl(K:PySem.W.Frag)(mg:Str->Option Value)(C:Addr):Prop where
 cl:Cls K C
 nS:aW K C "steps"
 nM:aW K C "marks"
 nF:aW K C "fair"
 nB:aW K C "sources"
 Zk:mg "Machine" = some (.ref C)
theorem GQ:ao ["self","steps","marks","fair","given_marks","given_fair"] ["self","steps","marks","fair"] (zI sW):=⟨rfl,rfl,rfl,by decide +kernel,rfl,by decide +kernel,by decide +kernel⟩
theorem Ma:(["name","stands"]:List Str).Nodup:=by decide +kernel
theorem bZ(f:Str)(v:V):∀fs:List (Str×V),(au f v fs).length<=fs.length+1
 |[]=>Nat.le_refl _
 | (g,x)::r=>by
  unfold au
  split
  ·exact Nat.le_succ _
  ·exact Nat.succ_le_succ (bZ f v r)
theorem Zm:∀{vs:List V}{xss:List LI},A2 (rp K R) vs xss->∃bs:List Addr,vs=bs.map V.ref/\m9 K R bs xss
 |[],[],_=>⟨[],rfl,rfl,λi b h=>by simp at h⟩
 |v::vs,xs::xss,h=>by
  obtain⟨bs,e,h1,h2⟩:=Zm h.2
  obtain⟨p,ws,rfl,h3,h4⟩:=h.1
  have h5:ws=xs.map V.int:=h4.vals
  refine⟨p::bs,by rw[e,map_cons],by rw[length_cons,length_cons,h1],λi b hb=>?_⟩
  cases i with
  |zero=>simp at hb;subst hb;exact⟨xs,rfl,aZ.of (by rw[h3,h5])⟩
  |succ i=>exact h2 i b (by simpa using hb)
 |[],_::_,h=>h.elim
 |_::_,[],h=>h.elim
def Jl(xss:LLI):Option LLI:=if xss.length<=60/\Oq xss.length xss then some (srcs xss) else none
theorem GR(F:bR K "sources_of" "sources_of" Pn f fd)(B:Bl K mg):aB P w K mg base bH 1 f fd ["steps"] (cu K false (λa:LLI×Unit=>([.fz false a.1]:SL K)) λa=>Jl a.1):=by
 refine(L_ F B).imp λvs H Q E h=>?_
 obtain⟨⟨xss,⟨⟩⟩,b,Fa,s,hb,r,q⟩:=h
 have hb:Jl xss=some b:=hb
 unfold Jl at hb
 split at hb
 case isFalse=>cases hb
 rename_i hv
 cases hb
 cases r with
 |cons r1 r2 =>
  cases r2
  obtain⟨a,ws,rfl,h1,h2⟩:=r1
  obtain⟨bs,rfl,h3⟩:=Zm (K:=K) h2
  refine⟨a,bs,xss,rfl,aZ.of (s _ _ h1),h3.same s,hv.1,hv.2,λrr cs H' s' hr e l R N=>q _ _ s' ?_⟩
  refine⟨rr,_,rfl,by show dif H' H rr=_;rw[wC hr];exact e,?_⟩
  exact yp (K:=K) l R λc hc o e=>by show dif H' H c=_;rw[wC (N c hc)];exact e
theorem GX{fS:LLI->Option Unit}{fM:ug->Int->Option Unit}{fF:LLI->Int->Option Unit}{fC fO:LLI->Option LLI}(F:sY K "__init__" "Machine.__init__" sW dV f fd)(T:Cl K mg C)(B:Bl K mg)(CS:bO P w K mg base k "check_steps" ["steps"] (cu K false (λa:LLI×Unit=>([.fz false a.1]:SL K)) λa=>fS a.1))(CM:bO P w K mg base k "check_marks" ["marks","many"] (cu K false (λa:ug×Int×Unit=>([.fz false a.1,.fz false a.2.1]:SL K)) λa=>fM a.1 a.2.1))(CF:bO P w K mg base k "check_fair" ["fair","many"] (cu K false (λa:LLI×Int×Unit=>([.fz false a.1,.fz false a.2.1]:SL K)) λa=>fF a.1 a.2.1))(CC:bO P w K mg base k "copied" ["lists"] (cu K false (λa:LLI×Unit=>([.fz false a.1]:SL K)) λa=>fC a.1))(CO:bO P w K mg base k "sources_of" ["steps"] (cu K false (λa:LLI×Unit=>([.fz false a.1]:SL K)) λa=>fO a.1)) :
  aB P w K mg base bH (k+1) f fd ["self","steps","marks","fair"] (I8 K C (OJ C fS fM fF fC fO)):=by
 refine F.ok GQ (λvs H Q E h=>?_) (λcdv A outer s H vs Q E hr h=>?_)
 ·obtain⟨p,dx,vS,vM,vF,xss,mo,fo,M,rfl,_⟩:=h
  rfl
 obtain⟨p,dx,vS,vM,vF,xss,mo,fo,M,rfl,hp,rS,rM,rF,hm,q⟩:=h
 unfold OJ at hm
 obtain⟨⟨⟩,e1,hm⟩:=uT hm
 obtain⟨⟨⟩,e2,hm⟩:=uT hm
 obtain⟨⟨⟩,e3,hm⟩:=uT hm
 obtain⟨a,e4,hm⟩:=uT hm
 obtain⟨b,e5,hm⟩:=uT hm
 obtain⟨c,e6,hm⟩:=uT hm
 obtain⟨d,e7,hm⟩:=uT hm
 cases hm
 refine⟨_,zC (Nr (i:=4) GQ.nd rfl (Or.inl rfl) (Vu (Np (Qs (pv 2))) (xT zD) (pv 2)))
  (zC (Nr (i:=5) GQ.nd rfl (Or.inl rfl) (Vu (Np (Qs (pv 3))) (xT zD) (pv 3)))
  (zC (yN (zU CS hr (zA (pv 1) zD)))
  (zC (yN (zU CM hr (zA (pv 4) (zA (zT (wI K) rfl B.len PySem.boot_len (zA (pv 1) zD)) zD))))
  (zC (yN (zU CF hr (zA (pv 5) (zA (zT (wI K) rfl B.len PySem.boot_len (zA (pv 1) zD)) zD))))
  (zC (NP (pv 0) (zU CC hr (zA (pv 1) zD)) rfl)
  (zC (NP (pv 0) (vD (own:=["name","stands"]) (ix:=[]) rfl rfl rfl (xB K (pv 4)) (λC s H fp=>Ka (K:=K) (n:=2) rfl rfl (yB (yI (i:=0) Ma rfl (Or.inl rfl)) (yB (yI (i:=1) Ma rfl (Or.inl rfl)) vC))) (λC s H fp=>wD)
   (λC s H fp=>vV (zA (pv 0) (zA (wR (Ky K) rfl B.list Kr (zA (pv 1) zD)) zD)))) rfl)
  (zC (NP (pv 0) (zU CC hr (zA (pv 5) zD)) rfl)
  (Ig (NP (pv 0) (zU CO hr (zA (VL (pv 0) rfl) zD)) rfl))))))))),?_⟩
 have sg0:Sg (K:=K) ⟨hid H p,H⟩ (hid H p) [.fz false (fL.mk ():fL p),.fz false xss,.fz false mo,.fz false fo,.un,.un] [some (.ref p),some vS,some vM,some vF,none,none] H :=
  ⟨hid H p,[],.refl _,Xz (.fz (show rp K _ _ (fL.mk ():fL p) from rfl) (.fz rS (.fz rM (.fz rF (.un (.un .nil))))))⟩
 refine(Sn.of (yG false 4 rfl rfl (W5 (oH (md:=.hp) (RG (zG 2 rfl))) (Eo.ex (qP (α:=Str×LI))) (Xb (xC 2 rfl)))) (show _=some (mo.getD []) by cases mo<;>rfl)) _ rfl (hid H p) _ _ H sg0 λσ1 H1 sg1=>?_
 refine(Sn.of (yG false 5 rfl rfl (W5 (oH (md:=.hp) (RG (zG 3 rfl))) (Eo.ex (qP (α:=LI))) (Xb (xC 3 rfl)))) (show _=some (fo.getD []) by cases fo<;>rfl)) _ rfl (hid H p) _ _ H1 sg1 λσ2 H2 sg2=>?_
 refine(Sn.of (Ir (md:=.hp) (zL (f:=λa:LLI×Unit=>fS a.1) (zF (zG 1 rfl) zM))) (show _=fS xss from rfl)) () e1 (hid H p) _ _ H2 sg2 λσ3 H3 sg3=>?_
 refine(Sn.of (Ir (md:=.hp) (zL (f:=λa:ug×Int×Unit=>fM a.1 a.2.1) (zF (zG 4 rfl) (zF (Ex.sc (md:=.hp) (wP (zG 1 rfl))) zM)))) (show _=fM (mo.getD []) (xss.length:Int) from rfl)) () e2 (hid H p) _ _ H3 sg3 λσ4 H4 sg4=>?_
 refine(Sn.of (Ir (md:=.hp) (zL (f:=λa:LLI×Int×Unit=>fF a.1 a.2.1) (zF (zG 5 rfl) (zF (Ex.sc (md:=.hp) (wP (zG 1 rfl))) zM)))) (show _=fF (fo.getD []) (xss.length:Int) from rfl)) () e3 (hid H p) _ _ H4 sg4 λσ5 H5 sg5=>?_
 obtain⟨F5,O5,g5,k5,s5⟩:=sg5
 have s5:ak (K:=K) ⟨hid H p,H⟩ F5 (lo F5 O5 H5) H5 [.fz false (fL.mk ():fL p),.fz false xss,.fz false mo,.fz false fo,.fz false (mo.getD []),.fz false (fo.getD [])] σ5 O5:=s5
 cases s5 with|fz r0 s5 =>
 cases s5 with|fz r1 s5 =>
 cases s5 with|fz r2 s5 =>
 cases s5 with|fz r3 s5 =>
 cases s5 with|fz r4 s5 =>
 cases s5 with|fz r5 s5 =>
 cases s5
 rename_i v0 v1 v2 v3 v4 v5
 have r0:v0=.ref p:=r0
 subst r0
 have hF:Same F5 (hid H5 p):=λb o e=>by
  by_cases z:b=p
  ·subst z
   rcases k5.fa b o e with z|z
   ·have z:hid H b b=some o:=z
    rw[I9] at z
    cases z
   ·have z:H b=none:=z
    rw[hp] at z
    cases z
  ·rw[Gi z];exact k5.fh b o e
 have r1:rp K (hid H5 p) v1 xss:=Rp.mono hF r1
 have r2:rp K (hid H5 p) v2 mo:=Rp.mono hF r2
 have r3:rp K (hid H5 p) v3 fo:=Rp.mono hF r3
 have r4:rp K (hid H5 p) v4 (mo.getD []):=Rp.mono hF r4
 have r5:rp K (hid H5 p) v5 (fo.getD []):=Rp.mono hF r5
 have T9:Same H H5:=k5.h0
 have Zn:H5 p=some (.ins C dx []):=T9 _ _ hp
 refine⟨_,rfl,(xss,()),a,H5,.refl _,e4,.cons (Rp.mono KZ r1) .nil,λy1 H6 s6 t1=>?_⟩
 have t1:rp K (dif H6 H5) y1 a:=t1
 have hp6:=s6 _ _ Zn
 refine⟨_,rfl,p,C,dx,[],rfl,hp6,T.cl,T.nS,(by show 0<1000;decide),?_⟩
 have f1:=Rp.mono (O4 (H:=H) (p:=p) (λb o _ e=>T9 b o e) (by rw[Zn];intro z;cases z)) t1
 have Zo:∀b o,b≠p->H b=some o->(upd H6 p (.ins C dx (au "steps" y1 []))) b=some o:=λb o n e=>by rw[zP n];exact s6 _ _ (T9 _ _ e)
 have h6:Same (hid H5 p) (hid (upd H6 p (.ins C dx (au "steps" y1 []))) p):=by rw[CP];exact I_ s6
 have E2:Ex (K:=K) ⟨hid (upd H6 p (.ins C dx (au "steps" y1 []))) p,upd H6 p (.ins C dx (au "steps" y1 []))⟩ [.fz false (fL.mk ():fL p),.fz false xss,.fz false mo,.fz false fo,.fz false (mo.getD []),.fz false (fo.getD [])] .nw _ _ :=
  (xN (n:=false) (jK:=[.un,.un]) (no:=2) (ix:=[]) rfl rfl (xP (xC 4 rfl)) (sE 0 1 rfl rfl (λ_=>rfl) rfl) (λx=>qd) (λx=>wW (zE 0 rfl) (Kl (zG 1 rfl)).ex) (λx=>oJ.un (oJ.un oJ.nil))).ex
 refine E2 b e5 (hid (upd H6 p (.ins C dx (au "steps" y1 []))) p) [] _ _ _ (Xz (.fz (show rp K _ _ (fL.mk ():fL p) from rfl) (.fz (Rp.mono h6 r1) (.fz (Rp.mono h6 r2) (.fz (Rp.mono h6 r3) (.fz (Rp.mono h6 r4) (.fz (Rp.mono h6 r5) .nil))))))) λy2 F7 H7 g7 t2=>?_
 have s7:=g7.hh
 have t2:rp K (dif H7 (upd H6 p (.ins C dx (au "steps" y1 [])))) y2 b:=Rp.mono (xZ g7.ok.fh) t2
 have hp7:H7 p=some (.ins C dx (au "steps" y1 [])):=s7 _ _ zR
 refine⟨_,rfl,p,C,dx,_,rfl,hp7,T.cl,T.nM,(by show 1<1000;decide),?_⟩
 have f2:=Rp.mono (O4 (H:=H) (p:=p) Zo (by rw[zR];intro z;cases z)) t2
 have Zq:∀b o,b≠p->H b=some o->(upd H7 p (.ins C dx (au "marks" y2 (au "steps" y1 [])))) b=some o:=λb o n e=>by rw[zP n];exact s7 _ _ (Zo _ _ n e)
 have h7:Same (hid (upd H6 p (.ins C dx (au "steps" y1 []))) p) (hid (upd H7 p (.ins C dx (au "marks" y2 (au "steps" y1 [])))) p):=by rw[CP (H:=H7)];exact I_ s7
 refine⟨_,rfl,(fo.getD [],()),c,_,.refl _,e6,.cons (Rp.mono (h6.trans (h7.trans KZ)) r5) .nil,λy3 H8 s8 t3=>?_⟩
 have t3:rp K (dif H8 (upd H7 p (.ins C dx (au "marks" y2 (au "steps" y1 []))))) y3 c:=t3
 have hp8:H8 p=some (.ins C dx (au "marks" y2 (au "steps" y1 []))):=s8 _ _ zR
 have l2:(au "marks" y2 (au "steps" y1 [])).length<1000:=by
  have a1:=bZ "marks" y2 (au "steps" y1 [])
  have a2:=bZ "steps" y1 []
  have a3:([]:List (Str×V)).length=0:=rfl
  omega
 refine⟨_,rfl,p,C,dx,_,rfl,hp8,T.cl,T.nF,l2,?_⟩
 have f3:=Rp.mono (O4 (H:=H) (p:=p) Zq (by rw[zR];intro z;cases z)) t3
 have Zr:∀b o,b≠p->H b=some o->(upd H8 p (.ins C dx (au "fair" y3 (au "marks" y2 (au "steps" y1 []))))) b=some o:=λb o n e=>by rw[zP n];exact s8 _ _ (Zq _ _ n e)
 have h8:Same (hid (upd H7 p (.ins C dx (au "marks" y2 (au "steps" y1 [])))) p) (hid (upd H8 p (.ins C dx (au "fair" y3 (au "marks" y2 (au "steps" y1 []))))) p):=by rw[CP (H:=H8)];exact I_ s8
 have lk:(au "fair" y3 (au "marks" y2 (au "steps" y1 []))).lookup ("steps":Str)=some y1:=by
  rw[yF,if_neg (by decide +kernel),yF,if_neg (by decide +kernel),yF,if_pos rfl]
 have d1:Same (dif (hid H6 p) (hid H p)) (hid (upd H8 p (.ins C dx (au "fair" y3 (au "marks" y2 (au "steps" y1 []))))) p):=bw.trans ((by rw[CP];exact .refl _:Same (hid H6 p) (hid (upd H6 p (.ins C dx (au "steps" y1 []))) p)).trans (h7.trans h8))
 refine⟨_,rfl,p,C,dx,_,_,rfl,zR,T.cl,T.nS,lk,(a,()),d,_,.refl _,e7,.cons (Rp.mono (d1.trans KZ) f1) .nil,λy4 H9 s9 t4=>?_⟩
 have t4:rp K (dif H9 (upd H8 p (.ins C dx (au "fair" y3 (au "marks" y2 (au "steps" y1 [])))))) y4 d:=t4
 have hp9:H9 p=some (.ins C dx (au "fair" y3 (au "marks" y2 (au "steps" y1 [])))):=s9 _ _ zR
 have l3:(au "fair" y3 (au "marks" y2 (au "steps" y1 []))).length<1000:=by
  have a0:=bZ "fair" y3 (au "marks" y2 (au "steps" y1 []))
  have a1:=bZ "marks" y2 (au "steps" y1 [])
  have a2:=bZ "steps" y1 []
  have a3:([]:List (Str×V)).length=0:=rfl
  omega
 refine⟨_,rfl,p,C,dx,_,rfl,hp9,T.cl,T.nB,l3,?_⟩
 have f4:=Rp.mono (O4 (H:=H) (p:=p) Zr (by rw[zR];intro z;cases z)) t4
 have kp9:∀b o,b≠p->H b=some o->(upd H9 p (.ins C dx (au "sources" y4 (au "fair" y3 (au "marks" y2 (au "steps" y1 [])))))) b=some o:=λb o n e=>by rw[zP n];exact s9 _ _ (Zr _ _ n e)
 have u9:Same (hid H9 p) (upd H9 p (.ins C dx (au "sources" y4 (au "fair" y3 (au "marks" y2 (au "steps" y1 [])))))):=(by rw[CP];exact .refl _:Same (hid H9 p) (hid (upd H9 p (.ins C dx (au "sources" y4 (au "fair" y3 (au "marks" y2 (au "steps" y1 [])))))) p)).trans KZ
 have u8:Same (hid H8 p) (hid H9 p):=(by rw[CP];exact .refl _:Same (hid H8 p) (hid (upd H8 p (.ins C dx (au "fair" y3 (au "marks" y2 (au "steps" y1 []))))) p)).trans (I_ s9)
 have u7:Same (hid H7 p) (hid H8 p):=(by rw[CP];exact .refl _:Same (hid H7 p) (hid (upd H7 p (.ins C dx (au "marks" y2 (au "steps" y1 [])))) p)).trans (I_ s8)
 have u6:Same (hid H6 p) (hid H7 p):=(by rw[CP];exact .refl _:Same (hid H6 p) (hid (upd H6 p (.ins C dx (au "steps" y1 []))) p)).trans (I_ s7)
 refine q _ kp9 ⟨p,dx,au "sources" y4 (au "fair" y3 (au "marks" y2 (au "steps" y1 []))),y1,y2,y3,y4,rfl,?_,?_,Rp.mono (xZ (u6.trans (u7.trans (u8.trans u9)))) f1,?_,Rp.mono (xZ (u7.trans (u8.trans u9))) f2,?_,Rp.mono (xZ (u8.trans u9)) f3,?_,Rp.mono (xZ u9) f4,?_⟩
 ·rw[wC I9];exact zR
 ·rw[yF,if_neg (by decide +kernel)];exact lk
 ·rw[yF,if_neg (by decide +kernel),yF,if_neg (by decide +kernel),yF,if_pos rfl]
 ·rw[yF,if_neg (by decide +kernel),yF,if_pos rfl]
 ·rw[yF,if_pos rfl]
 ·intro g hg
  simp only[RP,mem_cons,List.not_mem_nil,or_false] at hg
  rcases hg with rfl|rfl|rfl|rfl|rfl|rfl<;>(rw[yF,if_neg (by decide +kernel),yF,if_neg (by decide +kernel),yF,if_neg (by decide +kernel),yF,if_neg (by decide +kernel)];rfl)
end
section
variable{P:Program}{w:World}{K:PySem.W.Frag}{mg:Str->Option Value}{base:Heap}{α β:Type}[DecidableEq α][DecidableEq β]
def Mf(K:PySem.W.Frag)(a1:AK α)(a2:AK β):Sp:=λvs H Q _=>∃(l:Addr)(ps:List Addr)(ks:List (α×β)),vs=[.ref l]/\aZ K H l (ps.map V.ref)/\Paired (λp k=>jV a1 a2 H k p) ps ks/\ks.length<=900/\∀(r:Addr)(H':Hp),Same H H'->H r=none->H' r=some (.lst ((lM ks).map V.int))->Q (.ref r) H'
theorem Mg:ao ["keys","known","key"] ["keys"] (zI bW):=fsc
theorem GZ{κ:Type}[DecidableEq κ](acc:List κ)(k:κ):dd acc [k]=if k∈acc then acc else acc++[k]:=rfl
theorem Mh:(["key","known"]:List Str).Nodup:=by decide +kernel
theorem Zt{α β:Type}{F:α->β->Prop}{a:List α}{b:List β}(h:Paired F a b){i:Nat}{x:α}(hx:a[i]?=some x):∃y,b[i]?=some y/\F x y:=by
 induction h generalizing i with
 |nil=>cases hx
 |cons r _ ih =>
  cases i with
  |zero=>cases hx;exact⟨_,rfl,r⟩
  |succ i=>exact ih hx
theorem Zu(a1:AK α)(a2:AK β)(F:bR K "numbered" "numbered" bW f fd)(B:Bl K mg):aB P w K mg base bH (k+1) f fd ["keys"] (Mf K a1 a2):=by
 refine F.ok Mg (λvs H Q E ⟨l,ps,ks,e,_⟩=>by rw[e];rfl) λcdv A outer s H vs Q E hr h=>?_
 obtain⟨l,ps,ks,rfl,hS,hP,h9,q⟩:=h
 have hu:(A.deeper (PyProof.Rows.envOfC "numbered" (zI bW) s.heap.objs.size f cdv)).units+2<cLine:=Nat.lt_of_le_of_lt (Nat.add_le_add_left (by decide:2<=64) _) hr.units
 have nd:=Mg.nd
 refine⟨_,zC (Nr (i:=1) nd rfl (by first|exact Or.inl rfl|exact Or.inr rfl) (zQn (a1:=a1) (a2:=a2)))
  (zC (wB PassesOwn.never rfl (xB K (pv 0)) (yI (i:=2) nd rfl (by first|exact Or.inl rfl|exact Or.inr rfl))
   (Ig (yN (zQk (a1:=a1) (a2:=a2) hu (pv 1) (pv 2) (zT (zPl (a1:=a1) (a2:=a2)) rfl B.len PySem.boot_len (zA (pv 1) zD)) ⟨rfl,rfl,rfl,rfl⟩))))
  (Ig (yE (vD (te:=YM P w a1 a2 (dU 1) (dU 0)) (own:=["key"]) (ix:=[1]) rfl rfl rfl (xB K (pv 0)) (λC s H fp=>yI (i:=0) Mh rfl (Or.inl rfl)) (λC s H fp=>wD) (λC s H fp=>zQo (X:=cA _ _ _ _ C s H fp) (a1:=a1) (a2:=a2) hu (pv 1) (pv 0) (λ_ _=>rfl)))))),?_⟩
 have hl:ks.length=ps.length:=(Paired.length hP).symm
 have up:∀{H':Hp},Same H H'->∀(k:α×β)(p:Addr),jV a1 a2 H k p->jV a1 a2 H' k p:=λs' k p n=>jV.mono n λb xs e=>s' _ _ e
 refineλd hd=>?_
 refine⟨_,rfl,l,rfl,⟨_,(aJ hd _).seq hS⟩,Vy (K:=K) (a:=l) (xs:=ps.map V.ref) (λi σ H2=>∃u kvs,σ=[some (.ref l),some (.ref d),u]/\Same H H2/\H2 d=some (uh P w a1 a2 d kvs)/\nA kvs (dd [] (ks.take i))/\∀p∈kvs,jV a1 a2 H p.1 p.2.1)
  ⟨none,[],rfl,aJ hd _,zR,⟨rfl,λj p h=>by simp at h⟩,λp h=>by cases h⟩ (λi σ H2 _ ⟨_,_,_,s2,_⟩=>s2.seq hS) ?_ ?_⟩
 ·rintro i x σ H2 hi ⟨u,kvs,rfl,s2,e2,nb,hk⟩
  obtain⟨p,rfl,hp⟩:=RK hi
  obtain⟨key,hkey,na⟩:=Zt hP hp
  have hk2:∀p∈kvs,jV a1 a2 H2 p.1 p.2.1:=λp hp=>up s2 _ _ (hk p hp)
  have et:dd [] (ks.take (i+1))=if key∈dd [] (ks.take i) then dd [] (ks.take i) else dd [] (ks.take i)++[key]:=by
   rw[take_add_one,hkey,YX]
   show dd _ [key]=_
   rw[GZ]
   by_cases z:key∈dd [] (ks.take i)
   ·rw[if_pos z,if_pos z]
   ·rw[if_neg z,if_neg z]
  refine⟨_,rfl,d,kvs,rfl,e2,hk2,_,rfl,_,rfl,d,kvs,rfl,e2,hk2,kvs,p,key,_,rfl,rfl,e2,hk2,up s2 _ _ na,λj hj=>?_,λno=>?_⟩
  ·refine⟨some (.ref p),kvs,rfl,s2,e2,?_,hk⟩
   rw[et]
   by_cases z:key∈dd [] (ks.take i)
   ·rw[if_pos z];exact nb
   ·rw[nb.non z] at hj;cases hj
  ·have hlen:kvs.length<=i:=by
    have:=congrArg length nb.1
    rw[length_map] at this
    rw[this]
    have z:=YZ (ks.take i) []
    rw[length_take] at z
    simp only[length_nil] at z
    omega
   have hi9:=yC hkey
   refine⟨by omega,some (.ref p),_,rfl,s2.put hd _,zR,?_,λp' hp'=>?_⟩
   ·rw[et]
    by_cases z:key∈dd [] (ks.take i)
    ·rw[nb.val z] at no;cases no
    ·rw[if_neg z];exact nb.snoc key p
   ·rcases mem_append.mp hp' with z|z
    ·exact hk p' z
    ·rw[mem_singleton.mp z];exact na
 ·rintro σ H2 ⟨u,kvs,rfl,s2,e2,nb,hk⟩
  rw[length_map,<-hl,take_length] at nb
  have hk2:∀p∈kvs,jV a1 a2 H2 p.1 p.2.1:=λp hp=>up s2 _ _ (hk p hp)
  refine⟨_,rfl,l,rfl,⟨_,s2.seq hS⟩,WR (K:=K) (a:=l) (xs:=ps.map V.ref) (λi ys σ H3=>∃v,σ=[v,some (.ref d)]/\H3=H2/\ys=(ks.take i).map λk=>V.int ((dd [] ks).idxOf k:Int))
   ⟨none,rfl,rfl,rfl⟩ (λi ys σ H3 hi ⟨v,_,e,ey⟩=>⟨by rw[e];exact s2.seq hS,by rw[ey,length_map,length_take];omega⟩) (by rw[length_map];exact Nat.lt_of_le_of_lt (show ps.length<=900 by omega) (by decide)) ?_ ?_⟩
  ·rintro i x ys σ H3 hi ⟨v,rfl,rfl,rfl⟩
   obtain⟨p,rfl,hp⟩:=RK hi
   obtain⟨key,hkey,na⟩:=Zt hP hp
   refine⟨_,rfl,_,rfl,d,kvs,p,key,_,rfl,rfl,e2,hk2,up s2 _ _ na,nb.val (Jh (mem_of_getElem? hkey)),_,rfl,rfl,?_⟩
   rw[take_add_one,hkey,map_append];rfl
  ·rintro ys σ H3 ⟨v,rfl,rfl,rfl⟩ r hr
   refine q r _ (s2.trans (aJ hr _)) ?_ ?_
   ·have:=s2
    exact Classical.byContradiction λz=>by
     obtain⟨o,ho⟩:=Option.ne_none_iff_exists'.mp z
     rw[s2 _ _ ho] at hr;cases hr
   ·rw[zR,length_map,<-hl,take_length]
    unfold lM
    rw[map_map]
    have ei:∀k:α×β,@idxOf (α×β) instBEqProd k (dd [] ks)=@idxOf (α×β) instBEqOfDecidableEq k (dd [] ks):=λk=>by
     unfold idxOf
     congr 1
     funext x
     exact Bool.eq_iff_iff.mpr ((@beq_iff_eq _ instBEqProd _ _ _).trans (@beq_iff_eq _ instBEqOfDecidableEq _ _ _).symm)
    congr 2
    refine map_congr_left λk _=>?_
    show V.int _=V.int _
    rw[ei]
end
section
variable{κ κ':Type}[DecidableEq κ][DecidableEq κ']
theorem T_{f:κ->κ'}(inj:∀a b,f a=f b->a=b):∀(ks acc:List κ),dd (acc.map f) (ks.map f)=(dd acc ks).map f
 |[],acc=>rfl
 |k::ks,acc=>by
  show dd (if f k∈acc.map f then acc.map f else acc.map f++[f k]) (ks.map f)=(dd (if k∈acc then acc else acc++[k]) ks).map f
  have e:(f k∈acc.map f)↔k∈acc:=by
   rw[mem_map]
   exact⟨λ⟨a,ha,e⟩=>inj _ _ e▸ha,λh=>⟨k,h,rfl⟩⟩
  by_cases z:k∈acc
  ·rw[if_pos z,if_pos (e.mpr z)]
   exact T_ inj ks acc
  ·rw[if_neg z,if_neg λh=>z (e.mp h),show acc.map f++[f k]=(acc++[k]).map f by rw[map_append];rfl]
   exact T_ inj ks _
theorem Zv{f:κ->κ'}(inj:∀a b,f a=f b->a=b)(k:κ):∀l:List κ,(l.map f).idxOf (f k)=l.idxOf k
 |[]=>rfl
 |x::l=>by
  rw[map_cons,idxOf_cons,idxOf_cons,Zv inj k l]
  by_cases z:x=k
  ·subst z;simp
  ·have z2:¬f x=f k:=λe=>z (inj _ _ e)
   rw[show(x==k)=false from beq_eq_false_iff_ne.mpr z,show(f x==f k)=false from beq_eq_false_iff_ne.mpr z2]
theorem Bb{f:κ->κ'}(inj:∀a b,f a=f b->a=b)(ks:List κ):lM (ks.map f)=lM ks:=by
 unfold lM
 rw[map_map]
 refine map_congr_left λk _=>?_
 show(((dd [] (ks.map f)).idxOf (f k):Nat):Int)=_
 rw[show dd [] (ks.map f)=(dd [] ks).map f from T_ inj ks [],Zv inj]
end
def G3{κ:Type}[DecidableEq κ](ks:List κ):Option LI:=if ks.length<=900 then some (lM ks) else none
section
variable{P:Program}{w:World}{K:PySem.W.Frag}{mg:Str->Option Value}{base:Heap}
def uI(q0:List ((Tp Str)×(Tp Int))):Option LI:=G3 q0
def uH(q0:List (Int×(Tp Int))):Option LI:=G3 q0
abbrev Ua(K:PySem.W.Frag):Sp:=cu K false (λa:(List ((Tp Str)×(Tp Int)))×Unit=>([.fz false a.1]:SL K)) (λa=>uI a.1)
abbrev Ub(K:PySem.W.Frag):Sp:=cu K false (λa:(List (Int×(Tp Int)))×Unit=>([.fz false a.1]:SL K)) (λa=>uH a.1)
def kS(x:Tp Str):List Key:=x.xs.map .inr
def kT(x:Tp Int):List Key:=x.xs.map .inl
theorem Uc{α β:Type}{f:α->β}(inj:∀a b,f a=f b->a=b):∀{a b:List α},a.map f=b.map f->a=b
 |[],[],_=>rfl
 |x::a,y::b,h=>by
  rw[map_cons,map_cons] at h
  obtain⟨h1,h2⟩:=List.cons.inj h
  rw[inj _ _ h1,Uc inj h2]
 |[],_::_,h=>by cases h
 |_::_,[],h=>by cases h
theorem G4(a b:Tp Str)(h:kS a=kS b):a=b:=by
 cases a
 cases b
 exact congrArg Tp.mk (Uc (λ_ _ e=>by cases e;rfl) h)
theorem Zw(a b:Tp Int)(h:kT a=kT b):a=b:=by
 cases a
 cases b
 exact congrArg Tp.mk (Uc (λ_ _ e=>by cases e;rfl) h)
theorem Zx{γ α β:Type}[DecidableEq α][DecidableEq β][DecidableEq γ][Rp K γ]{a1:AK α}{a2:AK β}(f:γ->α×β)(inj:∀a b,f a=f b->a=b)(h:∀{F:Hp} {v:V} {x:γ},rp K F v x->∃p,v=.ref p/\jV a1 a2 F (f x) p)(hh:cu K false (λa:List γ×Unit=>([.fz false a.1]:SL K)) (λa=>G3 a.1) vs H Q E):Mf K a1 a2 vs H Q E:=by
 obtain⟨⟨ks,⟨⟩⟩,b,Fa,s,hb,r,q⟩:=hh
 have hb:G3 ks=some b:=hb
 unfold G3 at hb
 split at hb
 case isFalse=>cases hb
 rename_i hl
 cases hb
 cases r with
 |cons r1 r2 =>
  cases r2
  obtain⟨l,us,rfl,h1,h2⟩:=r1
  have key:∀{us:List V}{ks:List γ},A2 (rp K Fa) us ks->∃ps:List Addr,us=ps.map V.ref/\Paired (λp k=>jV a1 a2 H k p) ps (ks.map f):=by
   intro us
   induction us with
   |nil=>intro ks z;cases ks with
    |nil=>exact⟨[],rfl,.nil⟩
    |cons _ _=>exact z.elim
   |cons u us ih=>intro ks z;cases ks with
    |nil=>exact z.elim
    |cons k ks =>
     obtain⟨ps,e,pr⟩:=ih z.2
     obtain⟨p,e1,n⟩:=h z.1
     exact⟨p::ps,by rw[e,e1];rfl,.cons (n.mono λb xs e=>s _ _ e) pr⟩
  obtain⟨ps,rfl,pr⟩:=key h2
  refine⟨l,ps,ks.map f,rfl,aZ.of (s _ _ h1),pr,by rw[length_map];exact hl,λrr H' s' hr e=>q _ _ s' ⟨rr,_,rfl,by show dif H' H rr=_;rw[wC hr];exact e,?_⟩⟩
  rw[Bb inj]
  exact Fv _
theorem Dj(h:A2 (rp K F) vs x):vs=(x.map (Sum.inl:Int->Key)).map kV:=by
 rw[map_map];exact A2.iz (h.imp λ_ _ e=>e)
theorem Mi(h:A2 (rp K F) vs x):vs=(x.map (Sum.inr:Str->Key)).map kV:=by
 rw[map_map];exact A2.iz (h.imp λ_ _ e=>e)
theorem G5{F:Hp}{v:V}{x:(Tp Str)×(Tp Int)}(h:rp K F v x):∃p,v=.ref p/\jV Jg Jg F (kS x.1,kT x.2) p:=by
 obtain⟨p,a,b,e1,e2,⟨pa,va,e3,e4,e5⟩,⟨pb,vb,e6,e7,e8⟩⟩:=h
 exact⟨p,e1,a,b,e2,⟨pa,e3,by rw[e4,Mi e5];rfl⟩,⟨pb,e6,by rw[e7,Dj e8];rfl⟩⟩
theorem G6{F:Hp}{v:V}{x:Int×(Tp Int)}(h:rp K F v x):∃p,v=.ref p/\jV YJ Jg F ((Sum.inl x.1:Key),kT x.2) p:=by
 obtain⟨p,a,b,e1,e2,e3,⟨pb,vb,e6,e7,e8⟩⟩:=h
 exact⟨p,e1,a,b,e2,e3,⟨pb,e6,by rw[e7,Dj e8];rfl⟩⟩
theorem zG6(F:bR K "numbered" "numbered" bW f fd)(B:Bl K mg):aB P w K mg base bH (k+1) f fd ["keys"] (Ua K) :=
 (Zu Jg Jg F B).imp λvs H Q E h=>Zx (λx:(Tp Str)×(Tp Int)=>(kS x.1,kT x.2)) (λa b e=>Prod.ext (G4 _ _ (Prod.mk.inj e).1) (Zw _ _ (Prod.mk.inj e).2)) G5 h
theorem zG5(F:bR K "numbered" "numbered" bW f fd)(B:Bl K mg):aB P w K mg base bH (k+1) f fd ["keys"] (Ub K) :=
 (Zu YJ Jg F B).imp λvs H Q E h=>Zx (λx:Int×(Tp Int)=>((Sum.inl x.1:Key),kT x.2)) (λa b e=>Prod.ext (Sum.inl.inj (Prod.mk.inj e).1) (Zw _ _ (Prod.mk.inj e).2)) G6 h
end
end Ts
set_option maxHeartbeats 40000000
namespace Ts
open PySem L2
section
variable{P:Program}{w:World}{K:PySem.W.Frag}{mg:Str->Option Value}{base:Heap}
def Mj(q0:Int)(q1:Int):Option Bool:=if true=true then if(!false)=true then if decide ((0:Int)<=q0)=true then some (decide (q0<q1)) else some false else some false else some false
theorem jB:ao ["thing","many"] ["thing","many"] (zI iB):=fsc
abbrev Zy(K:PySem.W.Frag):Sp:=cu K false (λa:Int×Int×Unit=>([.z a.1,.z a.2.1]:SL K)) (λa=>Mj a.1 a.2.1)
theorem zIm(F:bR K "is_stand" "is_stand" iB f fd)(B:Bl K mg):aB P w K mg base bH (k+1) f fd ["thing","many"] (Zy K):=by
 refine yQ F jB (λ_=>rfl) (λ_=>rfl) λcdv A outer s H E hr=>?_
 have nd:=jB.nd
 refine⟨_,(zC (yE (Qv (zT (RT K (Rg (n:="int"))) rfl B.Ot RN (zA (pv 0) (zA (Qq (v:=.ty "int") rfl B.int Xe rfl) zD))) (Qv (DX (zT (RT K (Rg (n:="bool"))) rfl B.Ot RN (zA (pv 0) (zA (Qq (v:=.ty "bool") rfl B.bool yh rfl) zD)))) (Vs (VD rH Ny zK (pv 0) (pv 1)))))) zH),?_⟩
 rintro Fa ⟨q0,q1,⟨⟩⟩
 exact SB.of (yK (esc (Rm (RJ B.ii rfl (zE 0 rfl)) (Rm (Fb (RJ B.ib rfl (zE 0 rfl))) (Xw (f:=(λi j=>decide (i<=j))) (g:=(λi j=>decide (i<j))) (zJ 0) (zE 0 rfl) (zE 1 rfl)))))) (by unfold Mj;simp only[bnd])
def yV(q0:LI)(q1:Int)(q2:Str):Option Unit:=(some ()).bind λoU=>((some q0).bind λxs=>xR (λ(s2:List (Key×Bool)) (x4:Int)=>(((Mj x4 q1).bind λa5=>some (!a5)).bind λb=>if b=true then none else some ()).bind λs6=>(if((mz (Dc.mk s2).kv x4).isSome)=true then none else some ()).bind λs8=>(dput s2 x4 true).bind λeE=>some eE) xs (([]:List (Key×Bool)))).bind λs3=>some ()
theorem eX:ao ["stands","many","where","ahead","stand"] ["stands","many","where"] (zI cL):=fsc
abbrev vK(K:PySem.W.Frag):Sp:=cu K false (λa:LI×Int×Str×Unit=>([.z a.1,.z a.2.1,.z a.2.2.1]:SL K)) (λa=>yV a.1 a.2.1 a.2.2.1)
theorem zDs(F:bR K "check_stands" "check_stands" cL f fd)(B:Bl K mg)(iD:bO P w K mg base k "is_stand" ["thing","many"] (Zy K)):aB P w K mg base bH (k+1) f fd ["stands","many","where"] (vK K):=by
 refine OD F eX (λ_=>rfl) (λ_=>rfl) λcdv A outer s H E hr=>?_
 have nd:=eX.nd
 have hu:=Cd hr
 refine⟨_,(zC (yO 3 nd Wb) (zC (wB PassesOwn.never rfl (xB K (pv 0)) (bT 4 nd) (zC (vL (Qu (Qt (zU iD hr (zA (pv 4) (zA (pv 1) zD))))) Ii zH) (zC (vL (Np (V8 hu (pv 4) (pv 3))) Ii zH) (zC (V9 hu (pv 3) (pv 4) DP rfl) zH)))) zH)),?_⟩
 rintro Fa ⟨q0,q1,q2,⟨⟩⟩
 exact⟨_,Sn.of (zO (W8 (α:=Bool) 3 rfl rfl) (λoU=>(zO (vU (n:=false) (L:=(λs2:List (Key×Bool)=>([.z q0,.z q1,.z q2,.od (s2:List (Key×Bool)),.un]:SL K))) (([]:List (Key×Bool))) bB (xP (xC 0 rfl)) (λs2=>(yL 4 rfl rfl)) (λs2 x4=>(zO (n6 (Rk (oH (md:=.hp) (zL (zF (esc (zE 4 rfl)) (zF (esc (zE 1 rfl)) zM))))) IV (zY (λs7:Unit=>([.z q0,.z q1,.z q2,.od (s2:List (Key×Bool)),.z x4]:SL K)) () bB)) (λs6=>(zO (n6 (oH (md:=.hp) (FW (zE 4 rfl) (Xv 3 rfl))) IV (zY (λs9:Unit=>([.z q0,.z q1,.z q2,.od (s2:List (Key×Bool)),.z x4]:SL K)) () bB)) (λs8=>(zO (zj 3 rfl rfl (esc (E_ true)) (zE 4 rfl)) (λeE=>(zY (λs2:List (Key×Bool)=>([.z q0,.z q1,.z q2,.od (s2:List (Key×Bool)),.un]:SL K)) eE bB))))))))) (λs3=>(zY (λ_:Unit=>([.un,.un,.un,.un,.un]:SL K)) () bB))))) (by unfold yV;simp only[bnd])⟩
def wU(q0:List LI):Option Unit:=(some (q0.length:Int)).bind λmany1=>((if(decide (many1<(1:Int)))=true then some true else some (decide ((60:Int)<many1))).bind λb=>if b=true then none else some ()).bind λs2=>((some (p8 q0)).bind λxs=>xR (λ(s4:Unit) (x6:Int×LI)=>(((((Gf "steps of stand " x6.1).bind λa8=>some ((a8,()))).bind λb9=>some (many1,b9)).bind λb10=>some (x6.2,b10)).bind λz7=>yV z7.1 z7.2.1 z7.2.2.1).bind λu11=>(if(decide ((x6.2.length:Int)=(0:Int)))=true then none else some ()).bind λs12=>some ()) xs ()).bind λs5=>some ()
theorem fZ:ao ["steps","many","stand","targets"] ["steps"] (zI dh):=fsc
abbrev zGi(K:PySem.W.Frag):Sp:=cu K false (λa:((List LI))×Unit=>([.z a.1]:SL K)) (λa=>wU a.1)
theorem zEo(F:bR K "check_steps" "check_steps" dh f fd)(B:Bl K mg)(lB:mg "MOST_STANDS" = some (.int 60 lC))(aK:bO P w K mg base k "check_stands" ["stands","many","where"] (vK K)):aB P w K mg base bH (k+1) f fd ["steps"] (zGi K):=by
 refine OD F fZ (λ_=>rfl) (λ_=>rfl) λcdv A outer s H E hr=>?_
 have nd:=fZ.nd
 refine⟨_,(zC (yO 1 nd (zT (wI K) rfl B.len PySem.boot_len (zA (pv 0) zD))) (zC (vL (PW.pt (pw_or (yA Ny (pv 1) zK (yZ _)) (pw_or1 (yA Nz (pv 1) (Nm (v:=.int 60) rfl lB ⟨_,rfl⟩) (yZ _))))) Ii zH) (zC (wB PassesOwn.never rfl (Kz K B.enum (zA (pv 0) zD)) (uz rfl (yB (bT 2 nd) (yB (bT 3 nd) vC))) (zC (yN (zU aK hr (zA (pv 3) (zA (pv 1) (zA (rW (pv 2) (by decide)) zD))))) (zC (vL (yA (qQ K Int hr) (zT (wI K) rfl B.len PySem.boot_len (zA (pv 3) zD)) zK (yZ _)) Ii zH) zH))) zH))),?_⟩
 rintro Fa ⟨q0,⟨⟩⟩
 exact⟨_,Sn.of (zO (yG true 1 rfl rfl (esc (wP (zG 0 rfl)))) (λmany1=>(zO (n6 (Kd (yD (md:=.hp) (sJ (zE 1 rfl) (zJ 1))) (yD (md:=.hp) (Oj (zE 1 rfl) (zJ 60)))) IV (zY (λs3:Unit=>([.z q0,.y many1,.un,.un]:SL K)) () bB)) (λs2=>(zO (vU (n:=false) (L:=(λs4:Unit=>([.z q0,.y many1,.un,.un]:SL K))) () bB (Kf (xC 0 rfl)) (λs4=>(sE 2 3 rfl rfl (λ_=>rfl) rfl)) (λs4 x6=>(zO (Ir (md:=.hp) (zL (zF (zG 3 rfl) (zF (esc (zE 1 rfl)) (zF (esc (Xx "steps of stand " (zE 2 rfl))) zM))))) (λu11=>(zO (n6 (yD (md:=.hp) (qR (wP (zG 3 rfl)) (zJ 0))) IV (zY (λs13:Unit=>([.z q0,.y many1,.z x6.1,.z x6.2]:SL K)) () bB)) (λs12=>(zY (λs4:Unit=>([.z q0,.y many1,.un,.un]:SL K)) () bB))))))) (λs5=>(zY (λ_:Unit=>([.un,.un,.un,.un]:SL K)) () bB))))))) (by unfold wU;simp only[bnd])⟩
def uL(q0:Str):Option Bool:=(if(!true)=true then some true else some (decide (q0∈(["all","not","both","either","somenext","eachnext","sometill","eachtill","someever","eachever"]:List Str)))).bind λb=>if b=true then some false else((sO q0).bind λb1=>if decide ((1:Int)<=b1)=true then some (decide (b1<=(8:Int))) else some false).bind λc4=>if c4=true then((some (zp q0)).bind λxs=>xG (λ(x2:Str)=>some true) (λ(x2:Str)=>some (KQ x2 ("abcdefghijklmnopqrstuvwxyz":Str))) xs).bind λa3=>some (a3.all id) else some false
theorem jZ:ao ["name"] ["name"] (zI jo):=fsc
abbrev Zz(K:PySem.W.Frag):Sp:=cu K false (λa:Str×Unit=>([.z a.1]:SL K)) (λa=>uL a.1)
theorem zLe(F:bR K "is_name" "is_name" jo f fd)(B:Bl K mg)(qu:mg "LETTERS" = some (.str "abcdefghijklmnopqrstuvwxyz" qw))(j4:mg "LONGEST_NAME" = some (.int 8 j5))(j6:mg "SAYING_WORDS" = some (.ref bC))(cR:∀H,nZ K H bC ((["all","not","both","either","somenext","eachnext","sometill","eachtill","someever","eachever"]:List Str).map V.str))(G7:mg "all" = none)(G8:mg "str" = none):aB P w K mg base bH (k+1) f fd ["name"] (Zz K):=by
 refine yQ F jZ (λ_=>rfl) (λ_=>rfl) λcdv A outer s H E hr=>?_
 have nd:=jZ.nd
 refine⟨_,(zC (vL (PW.pt (pw_or (Qu (Qt (zT (RT K (Rg (n:="str"))) rfl B.Ot RN (zA (pv 0) (zA (Qq (v:=.ty "str") rfl G8 Gh rfl) zD))))) (pw_or1 (yA (Kw K) (pv 0) (Nm (v:=.ref bC) rfl j6 rfl) (by with_unfolding_all rfl))))) (zC (yE DP) zH) zH) (zC (yE (Qv (VD rH rH zK (zT zPk rfl B.len PySem.boot_len (zA (pv 0) zD)) (Nm (v:=.int 8) rfl j4 ⟨_,rfl⟩)) (Vs (zT (zPn K rfl) rfl G7 Fz (zA (vD (own:=["sign"]) (ix:=[]) rfl rfl rfl (Ga (pv 0)) (λC s H fp=>yI (i:=0) (show(["sign"]:List Str).Nodup from by decide +kernel) rfl (Or.inl rfl)) (λC s H fp=>wD) (λC s H fp=>(QF zNq (pv 0) (Nm (v:=.str "abcdefghijklmnopqrstuvwxyz") rfl qu ⟨_,rfl⟩) (by with_unfolding_all rfl)))) zD))))) zH)),?_⟩
 rintro Fa ⟨q0,⟨⟩⟩
 exact SB.of (Cp (Kd (Rk (oH (md:=.hp) (RJ KR rfl (zE 0 rfl)))) (yD (md:=.hp) (Ge cR (zE 0 rfl)))) (yK (esc (E_ false))) (yK (esc (Rm (Xw (f:=(λi j=>decide (i<=j))) (g:=(λi j=>decide (i<=j))) (zJ 1) (zq (zE 0 rfl)) (zJ 8)) (zRe (xN (n:=true) (jK:=[.un]) (no:=1) (ix:=[]) rfl rfl (Gb (zE 0 rfl)) (yL 0 rfl rfl) (λx2=>qd) (λx2=>(esc (Gd (zE 0 rfl) (vR "abcdefghijklmnopqrstuvwxyz")))) (λx2=>fP)).ex))))) (by unfold uL;simp only[bnd])
def wV(q0:List (Str×LI))(q1:Int):Option Unit:=(some ()).bind λoU=>((some q0).bind λxs=>xR (λ(s2:List (Key×Bool)) (x4:Str×LI)=>(((uL x4.1).bind λa5=>some (!a5)).bind λb=>if b=true then none else some ()).bind λs6=>(if((CN (Dc.mk s2).kv x4.1).isSome)=true then none else some ()).bind λs8=>(KY s2 x4.1 true).bind λeE=>(((((IW "mark " x4.1).bind λa12=>some ((a12,()))).bind λb13=>some (q1,b13)).bind λMl=>some (x4.2,Ml)).bind λUd=>yV Ud.1 Ud.2.1 Ud.2.2.1).bind λu15=>some eE) xs (([]:List (Key×Bool)))).bind λs3=>some ()
theorem f9:ao ["marks","many","ahead","name","stands"] ["marks","many"] (zI dj):=fsc
abbrev zGj(K:PySem.W.Frag):Sp:=cu K false (λa:((List (Str×LI)))×Int×Unit=>([.z a.1,.z a.2.1]:SL K)) (λa=>wV a.1 a.2.1)
theorem zEp(F:bR K "check_marks" "check_marks" dj f fd)(B:Bl K mg)(aK:bO P w K mg base k "check_stands" ["stands","many","where"] (vK K))(ju:bO P w K mg base k "is_name" ["name"] (Zz K)):aB P w K mg base bH (k+1) f fd ["marks","many"] (zGj K):=by
 refine OD F f9 (λ_=>rfl) (λ_=>rfl) λcdv A outer s H E hr=>?_
 have nd:=f9.nd
 have hu:=Cd hr
 refine⟨_,(zC (yO 2 nd Wb) (zC (wB PassesOwn.never rfl (xB K (pv 0)) (uz rfl (yB (bT 3 nd) (yB (bT 4 nd) vC))) (zC (vL (Qu (Qt (zU ju hr (zA (pv 3) zD)))) Ii zH) (zC (vL (Np (V8 hu (pv 3) (pv 2))) Ii zH) (zC (V9 hu (pv 2) (pv 3) DP rfl) (zC (yN (zU aK hr (zA (pv 4) (zA (pv 1) (zA (rW (pv 3) (by decide)) zD))))) zH))))) zH)),?_⟩
 rintro Fa ⟨q0,q1,⟨⟩⟩
 exact⟨_,Sn.of (zO (W8 (α:=Bool) 2 rfl rfl) (λoU=>(zO (vU (n:=false) (L:=(λs2:List (Key×Bool)=>([.z q0,.z q1,.od (s2:List (Key×Bool)),.un,.un]:SL K))) (([]:List (Key×Bool))) bB (xP (xC 0 rfl)) (λs2=>(sE 3 4 rfl rfl (λ_=>rfl) rfl)) (λs2 x4=>(zO (n6 (Rk (oH (md:=.hp) (zL (zF (esc (zE 3 rfl)) zM)))) IV (zY (λs7:Unit=>([.z q0,.z q1,.od (s2:List (Key×Bool)),.z x4.1,.z x4.2]:SL K)) () bB)) (λs6=>(zO (n6 (oH (md:=.hp) (zx (zE 3 rfl) (Xv 2 rfl))) IV (zY (λs9:Unit=>([.z q0,.z q1,.od (s2:List (Key×Bool)),.z x4.1,.z x4.2]:SL K)) () bB)) (λs8=>(zO (zP9 2 rfl rfl (esc (E_ true)) (zE 3 rfl)) (λeE=>(zO (Ir (md:=.hp) (zL (zF (zG 4 rfl) (zF (esc (zE 1 rfl)) (zF (esc (Gg "mark " (zE 3 rfl))) zM))))) (λu15=>(zY (λs2:List (Key×Bool)=>([.z q0,.z q1,.od (s2:List (Key×Bool)),.un,.un]:SL K)) eE bB))))))))))) (λs3=>(zY (λ_:Unit=>([.un,.un,.un,.un,.un]:SL K)) () bB))))) (by unfold wV;simp only[bnd])⟩
def vP(q0:List LI)(q1:Int):Option Unit:=((some (p8 q0)).bind λxs=>xR (λ(s1:Unit) (x3:Int×LI)=>(((((Gf "fair set " x3.1).bind λa5=>some ((a5,()))).bind λb6=>some (q1,b6)).bind λb7=>some (x3.2,b7)).bind λz4=>yV z4.1 z4.2.1 z4.2.2.1).bind λu8=>some ()) xs ()).bind λs2=>some ()
theorem g8:ao ["fair","many","number","stands"] ["fair","many"] (zI dY):=fsc
abbrev zH5(K:PySem.W.Frag):Sp:=cu K false (λa:((List LI))×Int×Unit=>([.z a.1,.z a.2.1]:SL K)) (λa=>vP a.1 a.2.1)
theorem zFu(F:bR K "check_fair" "check_fair" dY f fd)(B:Bl K mg)(aK:bO P w K mg base k "check_stands" ["stands","many","where"] (vK K)):aB P w K mg base bH (k+1) f fd ["fair","many"] (zH5 K):=by
 refine OD F g8 (λ_=>rfl) (λ_=>rfl) λcdv A outer s H E hr=>?_
 have nd:=g8.nd
 refine⟨_,(zC (wB PassesOwn.never rfl (Kz K B.enum (zA (pv 0) zD)) (uz rfl (yB (bT 2 nd) (yB (bT 3 nd) vC))) (zC (yN (zU aK hr (zA (pv 3) (zA (pv 1) (zA (rW (pv 2) (by decide)) zD))))) zH)) zH),?_⟩
 rintro Fa ⟨q0,q1,⟨⟩⟩
 exact⟨_,Sn.of (zO (vU (n:=false) (L:=(λs1:Unit=>([.z q0,.z q1,.un,.un]:SL K))) () bB (Kf (xC 0 rfl)) (λs1=>(sE 2 3 rfl rfl (λ_=>rfl) rfl)) (λs1 x3=>(zO (Ir (md:=.hp) (zL (zF (zG 3 rfl) (zF (esc (zE 1 rfl)) (zF (esc (Xx "fair set " (zE 2 rfl))) zM))))) (λu8=>(zY (λs1:Unit=>([.z q0,.z q1,.un,.un]:SL K)) () bB))))) (λs2=>(zY (λ_:Unit=>([.un,.un,.un,.un]:SL K)) () bB))) (by unfold vP;simp only[bnd])⟩
def Jm(q0:List LI):Option (List LI):=(some q0).bind λxs=>xG (λ(x1:LI)=>some true) (λ(x1:LI)=>some x1) xs
theorem lO:ao ["lists"] ["lists"] (zI jX):=fsc
abbrev zRs(K:PySem.W.Frag):Sp:=cu K false (λa:((List LI))×Unit=>([.z a.1]:SL K)) (λa=>Jm a.1)
theorem zNt(F:bR K "copied" "copied" jX f fd)(B:Bl K mg):aB P w K mg base bH (k+1) f fd ["lists"] (zRs K):=by
 refine yQ F lO (λ_=>rfl) (λ_=>rfl) λcdv A outer s H E hr=>?_
 have nd:=lO.nd
 refine⟨_,(zC (yE (vD (own:=["things"]) (ix:=[]) rfl rfl rfl (xB K (pv 0)) (λC s H fp=>yI (i:=0) (show(["things"]:List Str).Nodup from by decide +kernel) rfl (Or.inl rfl)) (λC s H fp=>wD) (λC s H fp=>(wR (Ky K) rfl B.list Kr (zA (pv 0) zD))))) zH),?_⟩
 rintro Fa ⟨q0,⟨⟩⟩
 exact SB.of (yK (xN (n:=false) (jK:=[.un]) (no:=1) (ix:=[]) rfl rfl (xP (xC 0 rfl)) (yL 0 rfl rfl) (λx1=>qd) (λx1=>(Kl (zG 0 rfl)).ex) (λx1=>fP)).ex) (by unfold Jm;simp only[bnd])
end
abbrev G9(C:Addr):=OJ C wU wV vP Jm Jl
section
variable{P:Program}{w:World}{K:PySem.W.Frag}{mg:Str->Option Value}{base:Heap}
def xM(q0:aF C):Option Int:=some (q0.steps.length:Int)
theorem eY:ao ["self"] ["self"] (zI cN):=fsc
abbrev uY(K:PySem.W.Frag)(C:Addr):Sp:=cu K false (λa:(aF C)×Unit=>([.z a.1]:SL K)) (λa=>xM a.1)
theorem zDt(F:bR K "many" "Machine.many" cN f fd)(B:Bl K mg)(T:Cl K mg C):aB P w K mg base bH (k+1) f fd ["self"] (uY K C):=by
 refine yQ F eY (λ_=>rfl) (λ_=>rfl) λcdv A outer s H E hr=>?_
 have nd:=eY.nd
 refine⟨_,(zC (yE (zT (wI K) rfl B.len PySem.boot_len (zA (qT K (pv 0)) zD))) zH),?_⟩
 rintro Fa ⟨q0,⟨⟩⟩
 exact SB.of (yK (esc (wP (Ou T.cl T.nS (zG 0 rfl))))) (by unfold xM;simp only[bnd])
def zV(q0:aF C)(q1:Int):Option LI:=(aV q0.steps q1).bind λa1=>Iz a1
theorem cT:ao ["self","stand"] ["self","stand"] (zI bU):=fsc
abbrev wA(K:PySem.W.Frag)(C:Addr):Sp:=cu K false (λa:(aF C)×Int×Unit=>([.z a.1,.z a.2.1]:SL K)) (λa=>zV a.1 a.2.1)
theorem zBy(F:bR K "next_of" "Machine.next_of" bU f fd)(B:Bl K mg)(T:Cl K mg C)(bV:mg "sorted" = none):aB P w K mg base bH (k+1) f fd ["self","stand"] (wA K C):=by
 refine yQ F cT (λ_=>rfl) (λ_=>rfl) λcdv A outer s H E hr=>?_
 have nd:=cT.nd
 refine⟨_,(zC (yE (zT (zLy K) rfl bV Xj (zA (wG (bL K) (qT K (pv 0)) (pv 1) (λ_ _=>rfl)) zD))) zH),?_⟩
 rintro Fa ⟨q0,q1,⟨⟩⟩
 exact SB.of (yK (zf (wY (Ou T.cl T.nS (zG 0 rfl)) (zE 1 rfl))).ex) (by unfold zV;simp only[bnd])
def yH(q0:aF C)(q1:Int):Option (List Str):=((some q0.marks).bind λxs=>xG (λ(x1:Str×LI)=>some (decide (q1∈x1.2))) (λ(x1:Str×LI)=>some x1.1) xs).bind λa2=>Lw a2
theorem cI:ao ["self","stand"] ["self","stand"] (zI bN):=fsc
abbrev wX(K:PySem.W.Frag)(C:Addr):Sp:=cu K false (λa:(aF C)×Int×Unit=>([.z a.1,.z a.2.1]:SL K)) (λa=>yH a.1 a.2.1)
theorem zBn(F:bR K "names_at" "Machine.names_at" bN f fd)(B:Bl K mg)(T:Cl K mg C)(bV:mg "sorted" = none):aB P w K mg base bH (k+1) f fd ["self","stand"] (wX K C):=by
 refine yQ F cI (λ_=>rfl) (λ_=>rfl) λcdv A outer s H E hr=>?_
 have nd:=cI.nd
 refine⟨_,(zC (yE (zT (zLx K) rfl bV Xj (zA (vD (own:=["name","stands"]) (ix:=[1]) rfl rfl rfl (xB K (qT K (pv 0))) (λC s H fp=>Ka (K:=K) (n:=2) rfl rfl (yB (yI (i:=0) (show(["name","stands","stand"]:List Str).Nodup from by decide +kernel) rfl (Or.inl rfl)) (yB (yI (i:=1) (show(["name","stands","stand"]:List Str).Nodup from by decide +kernel) rfl (Or.inl rfl)) vC))) (λC s H fp=>J7 (yA (Kw K) (pv 2) (pv 1) (by with_unfolding_all rfl))) (λC s H fp=>(pv 0))) zD))) zH),?_⟩
 rintro Fa ⟨q0,q1,⟨⟩⟩
 exact SB.of (yK (zRf (xN (n:=false) (jK:=[.un,.un,.z q1]) (no:=2) (ix:=[1]) rfl rfl (xP (Ov T.cl T.nM (xC 0 rfl))) (sE 0 1 rfl rfl (λ_=>rfl) rfl) (λx1=>(yD (md:=.hp) (Om (zE 2 rfl) (zG 1 rfl)))) (λx1=>(esc (zE 0 rfl))) (λx1=>fP)).ex).ex) (by unfold yH;simp only[bnd])
def xE(q0:aF C):Option LI:=(xM q0).bind λa1=>Je a1
theorem g_:ao ["machine"] ["machine"] (zI dZ):=fsc
abbrev uS(K:PySem.W.Frag)(C:Addr):Sp:=cu K false (λa:(aF C)×Unit=>([.z a.1]:SL K)) (λa=>xE a.1)
theorem zFt(F:bR K "everywhere" "everywhere" dZ f fd)(B:Bl K mg)(aX:fK P w K mg base k C "many" ["self"] (uY K C)):aB P w K mg base bH (k+1) f fd ["machine"] (uS K C):=by
 refine yQ F g_ (λ_=>rfl) (λ_=>rfl) λcdv A outer s H E hr=>?_
 have nd:=g_.nd
 refine⟨_,(zC (yE (zQm rfl rfl B.list rfl B.range (zA (Xl aX hr (pv 0)) zD))) zH),?_⟩
 rintro Fa ⟨q0,⟨⟩⟩
 exact SB.of (yK (zRg (yq (by decide +kernel) (zG 0 rfl) zM)).ex) (by unfold xE;simp only[bnd])
def yS(q0:aF C)(q1:Int):Option LI:=(some (p8 q0.fair)).bind λxs=>xG (λ(x1:Int×LI)=>some (decide (q1∈x1.2))) (λ(x1:Int×LI)=>some x1.1) xs
theorem eZ:ao ["machine","stand"] ["machine","stand"] (zI cP):=fsc
abbrev uX(K:PySem.W.Frag)(C:Addr):Sp:=cu K false (λa:(aF C)×Int×Unit=>([.z a.1,.z a.2.1]:SL K)) (λa=>yS a.1 a.2.1)
theorem zDr(F:bR K "fair_numbers" "fair_numbers" cP f fd)(B:Bl K mg)(T:Cl K mg C):aB P w K mg base bH (k+1) f fd ["machine","stand"] (uX K C):=by
 refine yQ F eZ (λ_=>rfl) (λ_=>rfl) λcdv A outer s H E hr=>?_
 have nd:=eZ.nd
 refine⟨_,(zC (yE (vD (own:=["number","stands"]) (ix:=[1]) rfl rfl rfl (Kz K B.enum (zA (qT K (pv 0)) zD)) (λC s H fp=>Ka (K:=K) (n:=2) rfl rfl (yB (yI (i:=0) (show(["number","stands","stand"]:List Str).Nodup from by decide +kernel) rfl (Or.inl rfl)) (yB (yI (i:=1) (show(["number","stands","stand"]:List Str).Nodup from by decide +kernel) rfl (Or.inl rfl)) vC))) (λC s H fp=>J7 (yA (Kw K) (pv 2) (pv 1) (by with_unfolding_all rfl))) (λC s H fp=>(pv 0)))) zH),?_⟩
 rintro Fa ⟨q0,q1,⟨⟩⟩
 exact SB.of (yK (xN (n:=false) (jK:=[.un,.un,.z q1]) (no:=2) (ix:=[1]) rfl rfl (Kf (Ow T.cl T.nF (xC 0 rfl))) (sE 0 1 rfl rfl (λ_=>rfl) rfl) (λx1=>(yD (md:=.hp) (Om (zE 2 rfl) (zG 1 rfl)))) (λx1=>(esc (zE 0 rfl))) (λx1=>fP)).ex) (by unfold yS;simp only[bnd])
def xW(q0:aF C):Option LI:=(some (([]:List ((Tp Str)×(Tp Int))))).bind λj7=>((xE q0).bind λxs=>xR (λ(s2:List ((Tp Str)×(Tp Int))) (x4:Int)=>((((yH q0 x4).bind λa6=>some (Tp.mk a6)).bind λa8=>((yS q0 x4).bind λa7=>some (Tp.mk a7)).bind λb9=>some (a8,b9)).bind λa10=>push s2 a10).bind λj8=>some j8) xs j7).bind λs3=>uI s3
theorem dI:ao ["machine","keys","stand"] ["machine"] (zI cB):=fsc
abbrev ZC(K:PySem.W.Frag)(C:Addr):Sp:=cu K false (λa:(aF C)×Unit=>([.z a.1]:SL K)) (λa=>xW a.1)
theorem zC2(F:bR K "first_numbers" "first_numbers" cB f fd)(B:Bl K mg)(jw:mg "tuple" = none)(aH:fK P w K mg base k C "names_at" ["self","stand"] (wX K C))(aN:bO P w K mg base k "everywhere" ["machine"] (uS K C))(aP:bO P w K mg base k "fair_numbers" ["machine","stand"] (uX K C))(gj:bO P w K mg base k "numbered" ["keys"] (Ua K)):aB P w K mg base bH (k+1) f fd ["machine"] (ZC K C):=by
 refine yQ F dI (λ_=>rfl) (λ_=>rfl) λcdv A outer s H E hr=>?_
 have nd:=dI.nd
 refine⟨_,(zC (yO 1 nd (xT zD)) (zC (wB PassesOwn.never rfl (xB K (zU aN hr (zA (pv 0) zD))) (bT 2 nd) (zC (yN (oK K PySem.F.plainAttrs_list PySem.F.slot_list_append PySem.F.type_list_append yP (pv 1) (zA (vV (zA (wR (Tz K) rfl jw S7 (zA (FJ aH hr (pv 0) (zA (pv 2) zD)) zD)) (zA (wR (Tz K) rfl jw S7 (zA (zU aP hr (zA (pv 0) (zA (pv 2) zD))) zD)) zD))) zD))) zH)) (zC (yE (zU gj hr (zA (pv 1) zD))) zH))),?_⟩
 rintro Fa ⟨q0,⟨⟩⟩
 exact SB.of (zN (sy true 1 rfl rfl (qP (α:=(Tp Str)×(Tp Int)))) (λj7=>(zN (vU (n:=true) (L:=(λs2:List ((Tp Str)×(Tp Int))=>([.z q0,.ow true s2,.un]:SL K))) j7 bB (xP (zL (zF (zG 0 rfl) zM))) (λs2=>(yL 2 rfl rfl)) (λs2 x4=>(zO (xI 1 rfl rfl (wW (TF (yq (by decide +kernel) (zG 0 rfl) (zF (esc (zE 2 rfl)) zM))) (TF (zL (zF (zG 0 rfl) (zF (esc (zE 2 rfl)) zM)))))) (λj8=>(zY (λs2:List ((Tp Str)×(Tp Int))=>([.z q0,.ow true s2,.un]:SL K)) j8 bB))))) (λs3=>(yK (zL (zF (uU 1 rfl) zM))))))) (by unfold xW;simp only[bnd])
def zW(q0:LI)(q1:LI):Option LI:=((some q1).bind λxs=>xG (λ(x1:Int)=>some true) (λ(x1:Int)=>aV q0 x1) xs).bind λa2=>Gp a2
theorem h_:ao ["numbers","stands"] ["numbers","stands"] (zI d7):=fsc
abbrev uR(K:PySem.W.Frag):Sp:=cu K false (λa:LI×LI×Unit=>([.z a.1,.z a.2.1]:SL K)) (λa=>zW a.1 a.2.1)
theorem zFp(F:bR K "numbers_of" "numbers_of" d7 f fd)(B:Bl K mg)(bV:mg "sorted" = none)(mD:mg "set" = none):aB P w K mg base bH (k+1) f fd ["numbers","stands"] (uR K):=by
 refine yQ F h_ (λ_=>rfl) (λ_=>rfl) λcdv A outer s H E hr=>?_
 have nd:=h_.nd
 refine⟨_,(zC (yE (Yk rfl bV (SM K rfl mD (vD (own:=["stand"]) (ix:=[0]) rfl rfl rfl (xB K (pv 1)) (λC s H fp=>yI (i:=0) (show(["stand","numbers"]:List Str).Nodup from by decide +kernel) rfl (Or.inl rfl)) (λC s H fp=>wD) (λC s H fp=>(wG (bL K) (pv 1) (pv 0) (λ_ _=>rfl))))))) zH),?_⟩
 rintro Fa ⟨q0,q1,⟨⟩⟩
 exact SB.of (yK (zLt (xN (n:=false) (jK:=[.un,.z q0]) (no:=1) (ix:=[0]) rfl rfl (xP (xC 1 rfl)) (yL 0 rfl rfl) (λx1=>qd) (λx1=>(esc (esc (wY (zG 1 rfl) (zE 0 rfl))))) (λx1=>fP)).ex).ex) (by unfold zW;simp only[bnd])
def yM(q0:aF C)(q1:LI):Option LI:=(some (([]:List (Int×(Tp Int))))).bind λj7=>((xE q0).bind λxs=>xR (λ(s2:List (Int×(Tp Int))) (x4:Int)=>(((aV q1 x4).bind λa10=>(((((zV q0 x4).bind λa7=>some ((a7,()))).bind λb8=>some (q1,b8)).bind λz6=>zW z6.1 z6.2.1).bind λa9=>some (Tp.mk a9)).bind λoV=>some (a10,oV)).bind λa12=>push s2 a12).bind λj8=>some j8) xs j7).bind λs3=>uH s3
theorem dJ:ao ["machine","numbers","keys","stand"] ["machine","numbers"] (zI cD):=fsc
abbrev ZD(K:PySem.W.Frag)(C:Addr):Sp:=cu K false (λa:(aF C)×LI×Unit=>([.z a.1,.z a.2.1]:SL K)) (λa=>yM a.1 a.2.1)
theorem zC3(F:bR K "finer_numbers" "finer_numbers" cD f fd)(B:Bl K mg)(jw:mg "tuple" = none)(aA:fK P w K mg base k C "next_of" ["self","stand"] (wA K C))(aN:bO P w K mg base k "everywhere" ["machine"] (uS K C))(gk:bO P w K mg base k "numbered" ["keys"] (Ub K))(aL:bO P w K mg base k "numbers_of" ["numbers","stands"] (uR K)):aB P w K mg base bH (k+1) f fd ["machine","numbers"] (ZD K C):=by
 refine yQ F dJ (λ_=>rfl) (λ_=>rfl) λcdv A outer s H E hr=>?_
 have nd:=dJ.nd
 refine⟨_,(zC (yO 2 nd (xT zD)) (zC (wB PassesOwn.never rfl (xB K (zU aN hr (zA (pv 0) zD))) (bT 3 nd) (zC (yN (oK K PySem.F.plainAttrs_list PySem.F.slot_list_append PySem.F.type_list_append yP (pv 2) (zA (vV (zA (wG (bL K) (pv 1) (pv 3) (λ_ _=>rfl)) (zA (wR (Tz K) rfl jw S7 (zA (zU aL hr (zA (pv 1) (zA (FJ aA hr (pv 0) (zA (pv 3) zD)) zD))) zD)) zD))) zD))) zH)) (zC (yE (zU gk hr (zA (pv 2) zD))) zH))),?_⟩
 rintro Fa ⟨q0,q1,⟨⟩⟩
 exact SB.of (zN (sy true 2 rfl rfl (qP (α:=Int×(Tp Int)))) (λj7=>(zN (vU (n:=true) (L:=(λs2:List (Int×(Tp Int))=>([.z q0,.z q1,.ow true s2,.un]:SL K))) j7 bB (xP (zL (zF (zG 0 rfl) zM))) (λs2=>(yL 3 rfl rfl)) (λs2 x4=>(zO (xI 2 rfl rfl (wW (esc (wY (zG 1 rfl) (zE 3 rfl))) (TF (zL (zF (zG 1 rfl) (zF (yq (by decide +kernel) (zG 0 rfl) (zF (esc (zE 3 rfl)) zM)) zM)))))) (λj8=>(zY (λs2:List (Int×(Tp Int))=>([.z q0,.z q1,.ow true s2,.un]:SL K)) j8 bB))))) (λs3=>(yK (zL (zF (uU 2 rfl) zM))))))) (by unfold yM;simp only[bnd])
def xD(q0:aF C):Option (List LI):=((xW q0).bind λa2=>some (a2::([]))).bind λjC=>((((aV jC (0:Int)).bind λa5=>some ((a5,()))).bind λb6=>some (q0,b6)).bind λz4=>yM z4.1 z4.2.1).bind λoW=>(Ck (λs7:(List LI)×LI=>(aV s7.1 (-(1:Int))).bind λb9=>some (!decide (s7.2=b9))) (λs7:(List LI)×LI=>(push s7.1 s7.2).bind λj9=>(yM q0 s7.2).bind λiR=>some (j9,iR)) fuel (jC,oW)).bind λs8=>some s8.1
theorem ig:ao ["machine","told","finer"] ["machine"] (zI d8):=fsc
abbrev Ue(K:PySem.W.Frag)(C:Addr):Sp:=cu K false (λa:(aF C)×Unit=>([.z a.1]:SL K)) (λa=>xD a.1)
theorem zFq(F:bR K "numberings" "numberings" d8 f fd)(B:Bl K mg)(bK:bO P w K mg base k "finer_numbers" ["machine","numbers"] (ZD K C))(cG:bO P w K mg base k "first_numbers" ["machine"] (ZC K C)):aB P w K mg base bH (k+1) f fd ["machine"] (Ue K C):=by
 refine yQ F ig (λ_=>rfl) (λ_=>rfl) λcdv A outer s H E hr=>?_
 have nd:=ig.nd
 refine⟨_,(zC (yO 1 nd (xT (zA (zU cG hr (zA (pv 0) zD)) zD))) (zC (yO 2 nd (zU bK hr (zA (pv 0) (zA (wG (bL K) (pv 1) zK (λ_ _=>rfl)) zD)))) (zC (zQi PassesOwn.never (yA (Cq K LI hr) (pv 2) (wG (bL K) (pv 1) (rG QD zK) (λ_ _=>rfl)) (yZ _)) (zC (yN (oK K PySem.F.plainAttrs_list PySem.F.slot_list_append PySem.F.type_list_append yP (pv 1) (zA (pv 2) zD))) (zC (yO 2 nd (zU bK hr (zA (pv 0) (zA (pv 2) zD)))) zH))) (zC (yE (pv 1)) zH)))),?_⟩
 rintro Fa ⟨q0,⟨⟩⟩
 exact SB.of (zN (sy true 1 rfl rfl (Cj (xO (zL (zF (zG 0 rfl) zM)) Ci) (λa h=>Nat.le_trans ((vA Cw) a h) (by decide)))) (λjC=>(zN (yG true 2 rfl rfl (zL (zF (zG 0 rfl) (zF (wY (uU 1 rfl) (zJ 0)) zM)))) (λoW=>(zN (zP8 (L:=(λs7:(List LI)×LI=>([.z q0,.ow true s7.1,.y s7.2]:SL K))) fuel (jC,oW) bB (λs7=>(yD (md:=.hp) (Cr (zG 2 rfl) (wY (uU 1 rfl) (RZ (zJ 1)))))) (λs7=>(zO (xI 1 rfl rfl (xC 2 rfl)) (λj9=>(zO (yG true 2 rfl rfl (zL (zF (zG 0 rfl) (zF (zG 2 rfl) zM)))) (λiR=>(zY (λs7:(List LI)×LI=>([.z q0,.ow true s7.1,.y s7.2]:SL K)) (j9,iR) bB))))))) (λs8=>(Od 1 rfl rfl))))))) (by unfold xD;simp only[bnd])
def yT(q0:aF C):Option LI:=(xD q0).bind λa1=>aV a1 (-(1:Int))
theorem dM:ao ["machine"] ["machine"] (zI cF):=fsc
abbrev uN(K:PySem.W.Frag)(C:Addr):Sp:=cu K false (λa:(aF C)×Unit=>([.z a.1]:SL K)) (λa=>yT a.1)
theorem zC4(F:bR K "class_numbers" "class_numbers" cF f fd)(B:Bl K mg)(bG:bO P w K mg base k "numberings" ["machine"] (Ue K C)):aB P w K mg base bH (k+1) f fd ["machine"] (uN K C):=by
 refine yQ F dM (λ_=>rfl) (λ_=>rfl) λcdv A outer s H E hr=>?_
 have nd:=dM.nd
 refine⟨_,(zC (yE (wG (bL K) (zU bG hr (zA (pv 0) zD)) (rG QD zK) (λ_ _=>rfl))) zH),?_⟩
 rintro Fa ⟨q0,⟨⟩⟩
 exact SB.of (yK (wY (zL (zF (zG 0 rfl) zM)) (RZ (zJ 1)))) (by unfold yT;simp only[bnd])
def zZ(q0:LI):Option (List LI):=(((qe q0).bind λa5=>some (a5+(1:Int))).bind λa6=>Ji a6).bind λjC=>((some (p8 q0)).bind λxs=>xR (λ(s7:dO) (x9:Int×Int)=>(Dg s7 x9.2 x9.1).bind λMp=>some Mp) xs jC).bind λs8=>some s8.xss
theorem b_:ao ["numbers","told","stand","number"] ["numbers"] (zI bJ):=fsc
abbrev wN(K:PySem.W.Frag):Sp:=cu K false (λa:LI×Unit=>([.z a.1]:SL K)) (λa=>zZ a.1)
theorem zBd(F:bR K "stands_of_numbers" "stands_of_numbers" bJ f fd)(B:Bl K mg)(G_:mg "max" = none):aB P w K mg base bH (k+1) f fd ["numbers"] (wN K):=by
 refine yQ F b_ (λ_=>rfl) (λ_=>rfl) λcdv A outer s H E hr=>?_
 have nd:=b_.nd
 refine⟨_,(zC (Ce (i:=1) (own:=["number"]) (ix:=[]) nd rfl rfl rfl rfl rfl (yU rfl B.range (zA (zX vX (zT (zPj K rfl) rfl G_ Fy (zA (pv 0) zD)) zK) zD)) (λC s H fp=>yI (i:=0) (show(["number"]:List Str).Nodup from by decide +kernel) rfl (Or.inl rfl)) (λC s H fp=>wD) (λC s H fp=>(xT zD))) (zC (wB PassesOwn.never rfl (Kz K B.enum (zA (pv 0) zD)) (uz rfl (yB (bT 2 nd) (yB (bT 3 nd) vC))) (zC (yN (oK K PySem.F.plainAttrs_list PySem.F.slot_list_append PySem.F.type_list_append yP (wG (bL K) (pv 1) (pv 3) (λ_ _=>rfl)) (zA (pv 2) zD))) zH)) (zC (yE (pv 1)) zH))),?_⟩
 rintro Fa ⟨q0,⟨⟩⟩
 exact SB.of (zN (Cv 1 rfl rfl (zRh (vY (zc (zG 0 rfl)) (zJ 1)))) (λjC=>(zN (vU (n:=false) (L:=(λs7:dO=>([.z q0,.nu (s7:dO),.un,.un]:SL K))) jC bB (Kf (xC 0 rfl)) (λs7=>(sE 2 3 rfl rfl (λ_=>rfl) rfl)) (λs7 x9=>(zO (Y7 1 rfl rfl (zE 3 rfl) (zE 2 rfl)) (λMp=>(zY (λs7:dO=>([.z q0,.nu (s7:dO),.un,.un]:SL K)) Mp bB))))) (λs8=>(Y5 1 rfl))))) (by unfold zZ;simp only[bnd])
def vO(q0:aF C):Option (List LI):=((yT q0).bind λa2=>some ((a2,()))).bind λz1=>zZ z1.1
theorem j_:ao ["machine"] ["machine"] (zI jq):=fsc
abbrev ZF(K:PySem.W.Frag)(C:Addr):Sp:=cu K false (λa:(aF C)×Unit=>([.z a.1]:SL K)) (λa=>vO a.1)
theorem zLf(F:bR K "classes" "classes" jq f fd)(B:Bl K mg)(aR:bO P w K mg base k "class_numbers" ["machine"] (uN K C))(aM:bO P w K mg base k "stands_of_numbers" ["numbers"] (wN K)):aB P w K mg base bH (k+1) f fd ["machine"] (ZF K C):=by
 refine yQ F j_ (λ_=>rfl) (λ_=>rfl) λcdv A outer s H E hr=>?_
 have nd:=j_.nd
 refine⟨_,(zC (yE (zU aM hr (zA (zU aR hr (zA (pv 0) zD)) zD))) zH),?_⟩
 rintro Fa ⟨q0,⟨⟩⟩
 exact SB.of (yK (zL (zF (zL (zF (zG 0 rfl) zM)) zM))) (by unfold vO;simp only[bnd])
def Jo(C:Addr)(q0:aF C):Option (aF C):=(yT q0).bind λcg=>((zZ cg).bind λxs=>xG (λ(x3:LI)=>some true) (λ(x3:LI)=>(((((aV x3 (0:Int)).bind λa5=>some ((a5,()))).bind λz4=>zV q0 z4.1).bind λa7=>some ((a7,()))).bind λb8=>some (cg,b8)).bind λz6=>zW z6.1 z6.2.1) xs).bind λsZ=>((some q0.marks).bind λxs=>xG (λ(x10:Str×LI)=>some true) (λ(x10:Str×LI)=>(zW cg x10.2).bind λoV=>some (x10.1,oV)) xs).bind λtu=>((some q0.fair).bind λxs=>xG (λ(oX:LI)=>some true) (λ(oX:LI)=>zW cg oX) xs).bind λtD=>G9 C sZ (some tu) (some tD)
theorem lQ:ao ["machine","numbers","steps","marks","fair"] ["machine"] (zI jY):=fsc
abbrev ZG(K:PySem.W.Frag)(C:Addr):Sp:=cu K false (λa:(aF C)×Unit=>([.z a.1]:SL K)) (λa=>Jo C a.1)
theorem zNs(F:bR K "folded" "folded" jY f fd)(B:Bl K mg)(T:Cl K mg C)(MK:Mk K C fI)(GI:aB P w K mg base bH k0 fI Jp ["self","steps","marks","fair"] (I8 K C (G9 C)))(Jq:Binds K Jp ["self","steps","marks","fair"] [])(aA:fK P w K mg base (k0+1) C "next_of" ["self","stand"] (wA K C))(aR:bO P w K mg base (k0+1) "class_numbers" ["machine"] (uN K C))(aL:bO P w K mg base (k0+1) "numbers_of" ["numbers","stands"] (uR K))(aM:bO P w K mg base (k0+1) "stands_of_numbers" ["numbers"] (wN K)):aB P w K mg base bH ((k0+1)+1) f fd ["machine"] (ZG K C):=by
 refine yQ F lQ (λ_=>rfl) (λ_=>rfl) λcdv A outer s H E hr=>?_
 have nd:=lQ.nd
 refine⟨_,(zC (yO 1 nd (zU aR hr (zA (pv 0) zD))) (zC (Ce (i:=2) (own:=["stands"]) (ix:=[1,0]) nd rfl rfl rfl rfl rfl (xB K (zU aM hr (zA (pv 1) zD))) (λC s H fp=>yI (i:=0) (show(["stands","numbers","machine"]:List Str).Nodup from by decide +kernel) rfl (Or.inl rfl)) (λC s H fp=>wD) (λC s H fp=>(zU aL hr (zA (pv 1) (zA (FJ aA hr (pv 2) (zA (wG (bL K) (pv 0) zK (λ_ _=>rfl)) zD)) zD))))) (zC (Ce (i:=3) (own:=["name","stands"]) (ix:=[1]) nd rfl rfl rfl rfl rfl (xB K (qT K (pv 0))) (λC s H fp=>Ka (K:=K) (n:=2) rfl rfl (yB (yI (i:=0) (show(["name","stands","numbers"]:List Str).Nodup from by decide +kernel) rfl (Or.inl rfl)) (yB (yI (i:=1) (show(["name","stands","numbers"]:List Str).Nodup from by decide +kernel) rfl (Or.inl rfl)) vC))) (λC s H fp=>wD) (λC s H fp=>(vV (zA (pv 0) (zA (zU aL hr (zA (pv 2) (zA (pv 1) zD))) zD))))) (zC (Ce (i:=4) (own:=["stands"]) (ix:=[1]) nd rfl rfl rfl rfl rfl (xB K (qT K (pv 0))) (λC s H fp=>yI (i:=0) (show(["stands","numbers"]:List Str).Nodup from by decide +kernel) rfl (Or.inl rfl)) (λC s H fp=>wD) (λC s H fp=>(zU aL hr (zA (pv 1) (zA (pv 0) zD))))) (zC (yE (VP MK GI hr rfl T.Zk Jq .nil J3 (zA (pv 2) (zA (pv 3) (zA (pv 4) zD))))) zH))))),?_⟩
 rintro Fa ⟨q0,⟨⟩⟩
 exact SB.of (zN (yG true 1 rfl rfl (zL (zF (zG 0 rfl) zM))) (λcg=>(zN (yG true 2 rfl rfl (xN (n:=true) (jK:=[.un,.y cg,.z q0]) (no:=1) (ix:=[1,0]) rfl rfl (xP (zL (zF (zG 1 rfl) zM))) (yL 0 rfl rfl) (λx3=>qd) (λx3=>(zL (zF (zG 1 rfl) (zF (yq (by decide +kernel) (zG 2 rfl) (zF (esc (esc (wY (zG 0 rfl) (zJ 0)))) zM)) zM)))) (λx3=>fP)).ex) (λsZ=>(zN (yG true 3 rfl rfl (xN (n:=false) (jK:=[.un,.un,.y cg]) (no:=2) (ix:=[1]) rfl rfl (xP (Ov T.cl T.nM (xC 0 rfl))) (sE 0 1 rfl rfl (λ_=>rfl) rfl) (λx10=>qd) (λx10=>(wW (zE 0 rfl) (zL (zF (zG 2 rfl) (zF (zG 1 rfl) zM))))) (λx10=>fP)).ex) (λtu=>(zN (yG true 4 rfl rfl (xN (n:=false) (jK:=[.un,.y cg]) (no:=1) (ix:=[1]) rfl rfl (xP (Ow T.cl T.nF (xC 0 rfl))) (yL 0 rfl rfl) (λoX=>qd) (λoX=>(zL (zF (zG 1 rfl) (zF (zG 0 rfl) zM)))) (λoX=>fP)).ex) (λtD=>(yK (Xy (zG 2 rfl) (zG 3 rfl) (zG 4 rfl)).ex))))))))) (by unfold Jo;simp only[bnd])
def uG(q0:List Str)(q1:List Str):Option (List Str):=LQ q0 q1
theorem iT:ao ["one","other"] ["one","other"] (zI cO):=fsc
abbrev ZJ(K:PySem.W.Frag):Sp:=cu K false (λa:(List Str)×(List Str)×Unit=>([.z a.1,.z a.2.1]:SL K)) (λa=>uG a.1 a.2.1)
theorem zG4(F:bR K "unshared" "unshared" cO f fd)(B:Bl K mg)(bV:mg "sorted" = none)(mD:mg "set" = none):aB P w K mg base bH (k+1) f fd ["one","other"] (ZJ K):=by
 refine yQ F iT (λ_=>rfl) (λ_=>rfl) λcdv A outer s H E hr=>?_
 have nd:=iT.nd
 refine⟨_,(zC (yE (zNg rfl bV (A_ (Ze K rfl mD (pv 0)) (Ze K rfl mD (pv 1))))) zH),?_⟩
 rintro Fa ⟨q0,q1,⟨⟩⟩
 exact SB.of (yK (zI3 (zG 0 rfl) (zG 1 rfl)).ex) (by unfold uG;simp only[bnd])
def uF(q0:LI)(q1:LI):Option LI:=LK q0 q1
theorem iU:ao ["one","other"] ["one","other"] (zI cO):=fsc
abbrev ZK(K:PySem.W.Frag):Sp:=cu K false (λa:LI×LI×Unit=>([.z a.1,.z a.2.1]:SL K)) (λa=>uF a.1 a.2.1)
theorem zG3(F:bR K "unshared" "unshared" cO f fd)(B:Bl K mg)(bV:mg "sorted" = none)(mD:mg "set" = none):aB P w K mg base bH (k+1) f fd ["one","other"] (ZK K):=by
 refine yQ F iU (λ_=>rfl) (λ_=>rfl) λcdv A outer s H E hr=>?_
 have nd:=iU.nd
 refine⟨_,(zC (yE (Yk rfl bV (Az (SM K rfl mD (pv 0)) (SM K rfl mD (pv 1))))) zH),?_⟩
 rintro Fa ⟨q0,q1,⟨⟩⟩
 exact SB.of (yK (zLs (zG 0 rfl) (zG 1 rfl)).ex) (by unfold uF;simp only[bnd])
def wH(q0:aF C)(q1:Int)(q2:Int):Option (Str×Key):=(((yH q0 q1).bind λa4=>((yH q0 q2).bind λa3=>some ((a3,()))).bind λb5=>some (a4,b5)).bind λz2=>uG z2.1 z2.2.1).bind λnames1=>if(decide ((0:Int)<(names1.length:Int)))=true then((aV names1 (0:Int)).bind λa6=>some (Sum.inr a6:Key)).bind λb7=>some ((("mark":Str),b7)) else(((((yS q0 q1).bind λa10=>((yS q0 q2).bind λa9=>some ((a9,()))).bind λoV=>some (a10,oV)).bind λz8=>uF z8.1 z8.2.1).bind λa12=>aV a12 (0:Int)).bind λa13=>some (Sum.inl a13:Key)).bind λMl=>some ((("fair":Str),Ml))
theorem fj:ao ["machine","one","other","names"] ["machine","one","other"] (zI cQ):=fsc
abbrev ZL(K:PySem.W.Frag)(C:Addr):Sp:=cu K false (λa:(aF C)×Int×Int×Unit=>([.z a.1,.z a.2.1,.z a.2.2.1]:SL K)) (λa=>wH a.1 a.2.1 a.2.2.1)
theorem zDp(F:bR K "sight_reason" "sight_reason" cQ f fd)(B:Bl K mg)(aH:fK P w K mg base k C "names_at" ["self","stand"] (wX K C))(aP:bO P w K mg base k "fair_numbers" ["machine","stand"] (uX K C))(gq:bO P w K mg base k "unshared" ["one","other"] (ZJ K))(gw:bO P w K mg base k "unshared" ["one","other"] (ZK K)):aB P w K mg base bH (k+1) f fd ["machine","one","other"] (ZL K C):=by
 refine yQ F fj (λ_=>rfl) (λ_=>rfl) λcdv A outer s H E hr=>?_
 have nd:=fj.nd
 refine⟨_,(zC (yO 3 nd (zU gq hr (zA (FJ aH hr (pv 0) (zA (pv 1) zD)) (zA (FJ aH hr (pv 0) (zA (pv 2) zD)) zD)))) (zC (vL (yA Nz (zT (wI K) rfl B.len PySem.boot_len (zA (pv 3) zD)) zK (yZ _)) (zC (yE (vV (zA vW (zA (wG (bL K) (pv 3) zK (λ_ _=>rfl)) zD)))) zH) zH) (zC (yE (vV (zA vW (zA (wG (bL K) (zU gw hr (zA (zU aP hr (zA (pv 0) (zA (pv 1) zD))) (zA (zU aP hr (zA (pv 0) (zA (pv 2) zD))) zD))) zK (λ_ _=>rfl)) zD)))) zH))),?_⟩
 rintro Fa ⟨q0,q1,q2,⟨⟩⟩
 exact SB.of (zN (yG true 3 rfl rfl (zL (zF (yq (by decide +kernel) (zG 0 rfl) (zF (esc (zE 1 rfl)) zM)) (zF (yq (by decide +kernel) (zG 0 rfl) (zF (esc (zE 2 rfl)) zM)) zM)))) (λnames1=>(Cp (yD (md:=.hp) (Oj (wP (zG 3 rfl)) (zJ 0))) (yK (wW (vR "mark") (LR (esc (wY (zG 3 rfl) (zJ 0)))))) (yK (wW (vR "fair") (sV (esc (wY (zL (zF (zL (zF (zG 0 rfl) (zF (esc (zE 1 rfl)) zM))) (zF (zL (zF (zG 0 rfl) (zF (esc (zE 2 rfl)) zM))) zM))) (zJ 0))))))))) (by unfold wH;simp only[bnd])
def xX(q0:aF C)(q1:LI)(q2:Int)(q3:Int):Option LI:=((((zV q0 q3).bind λa3=>some ((a3,()))).bind λb4=>some (q1,b4)).bind λz2=>zW z2.1 z2.2.1).bind λoY=>(zV q0 q2).bind λxs=>xG (λ(x5:Int)=>(aV q1 x5).bind λa6=>some (!decide (a6∈oY))) (λ(x5:Int)=>some x5) xs
theorem gA:ao ["machine","numbers","one","other","known"] ["machine","numbers","one","other"] (zI dw):=fsc
abbrev ZM(K:PySem.W.Frag)(C:Addr):Sp:=cu K false (λa:(aF C)×LI×Int×Int×Unit=>([.z a.1,.z a.2.1,.z a.2.2.1,.z a.2.2.2.1]:SL K)) (λa=>xX a.1 a.2.1 a.2.2.1 a.2.2.2.1)
theorem zEm(F:bR K "steps_aside" "steps_aside" dw f fd)(B:Bl K mg)(aA:fK P w K mg base k C "next_of" ["self","stand"] (wA K C))(aL:bO P w K mg base k "numbers_of" ["numbers","stands"] (uR K)):aB P w K mg base bH (k+1) f fd ["machine","numbers","one","other"] (ZM K C):=by
 refine yQ F gA (λ_=>rfl) (λ_=>rfl) λcdv A outer s H E hr=>?_
 have nd:=gA.nd
 refine⟨_,(zC (yO 4 nd (zU aL hr (zA (pv 1) (zA (FJ aA hr (pv 0) (zA (pv 3) zD)) zD)))) (zC (yE (vD (own:=["stand"]) (ix:=[1,4]) rfl rfl rfl (xB K (FJ aA hr (pv 0) (zA (pv 2) zD))) (λC s H fp=>yI (i:=0) (show(["stand","numbers","known"]:List Str).Nodup from by decide +kernel) rfl (Or.inl rfl)) (λC s H fp=>J7 (yA (Ox K) (wG (bL K) (pv 1) (pv 0) (λ_ _=>rfl)) (pv 2) (by with_unfolding_all rfl))) (λC s H fp=>(pv 0)))) zH)),?_⟩
 rintro Fa ⟨q0,q1,q2,q3,⟨⟩⟩
 exact SB.of (zN (yG true 4 rfl rfl (zL (zF (zG 1 rfl) (zF (yq (by decide +kernel) (zG 0 rfl) (zF (esc (zE 3 rfl)) zM)) zM)))) (λoY=>(yK (xN (n:=true) (jK:=[.un,.z q1,.y oY]) (no:=1) (ix:=[1,4]) rfl rfl (xP (yq (by decide +kernel) (zG 0 rfl) (zF (esc (zE 2 rfl)) zM))) (yL 0 rfl rfl) (λx5=>(yD (md:=.hp) (Oo (esc (wY (zG 1 rfl) (zE 0 rfl))) (zG 2 rfl)))) (λx5=>(esc (zE 0 rfl))) (λx5=>fP)).ex))) (by unfold xX;simp only[bnd])
def wS(q0:aF C)(q1:LI)(q2:Int)(q3:Int):Option (Str×Key):=(xX q0 q1 q2 q3).bind λmF=>if(decide ((0:Int)<(mF.length:Int)))=true then((aV mF (0:Int)).bind λa2=>some (Sum.inl a2:Key)).bind λb3=>some ((("step":Str),b3)) else(((xX q0 q1 q3 q2).bind λa4=>aV a4 (0:Int)).bind λa5=>some (Sum.inl a5:Key)).bind λb6=>some ((("answer":Str),b6))
theorem gB:ao ["machine","numbers","one","other","asides"] ["machine","numbers","one","other"] (zI dz):=fsc
abbrev ZP(K:PySem.W.Frag)(C:Addr):Sp:=cu K false (λa:(aF C)×LI×Int×Int×Unit=>([.z a.1,.z a.2.1,.z a.2.2.1,.z a.2.2.2.1]:SL K)) (λa=>wS a.1 a.2.1 a.2.2.1 a.2.2.2.1)
theorem zEn(F:bR K "step_reason" "step_reason" dz f fd)(B:Bl K mg)(bY:bO P w K mg base k "steps_aside" ["machine","numbers","one","other"] (ZM K C)):aB P w K mg base bH (k+1) f fd ["machine","numbers","one","other"] (ZP K C):=by
 refine yQ F gB (λ_=>rfl) (λ_=>rfl) λcdv A outer s H E hr=>?_
 have nd:=gB.nd
 refine⟨_,(zC (yO 4 nd (zU bY hr (zA (pv 0) (zA (pv 1) (zA (pv 2) (zA (pv 3) zD)))))) (zC (vL (yA Nz (zT (wI K) rfl B.len PySem.boot_len (zA (pv 4) zD)) zK (yZ _)) (zC (yE (vV (zA vW (zA (wG (bL K) (pv 4) zK (λ_ _=>rfl)) zD)))) zH) zH) (zC (yE (vV (zA vW (zA (wG (bL K) (zU bY hr (zA (pv 0) (zA (pv 1) (zA (pv 3) (zA (pv 2) zD))))) zK (λ_ _=>rfl)) zD)))) zH))),?_⟩
 rintro Fa ⟨q0,q1,q2,q3,⟨⟩⟩
 exact SB.of (zN (yG true 4 rfl rfl (zL (zF (zG 0 rfl) (zF (zG 1 rfl) (zF (esc (zE 2 rfl)) (zF (esc (zE 3 rfl)) zM)))))) (λmF=>(Cp (yD (md:=.hp) (Oj (wP (zG 4 rfl)) (zJ 0))) (yK (wW (vR "step") (sV (esc (wY (zG 4 rfl) (zJ 0)))))) (yK (wW (vR "answer") (sV (esc (wY (zL (zF (zG 0 rfl) (zF (zG 1 rfl) (zF (esc (zE 3 rfl)) (zF (esc (zE 2 rfl)) zM))))) (zJ 0))))))))) (by unfold wS;simp only[bnd])
def wT(q0:aF C)(q1:List LI)(q2:Int)(q3:Int):Option (Option (Int×(Str×Key))):=((some (p8 q1)).bind λxs=>uB (λ(s1:Unit) (x3:Int×LI)=>((aV x3.2 q2).bind λa4=>(aV x3.2 q3).bind λb5=>some (!decide (a4=b5))).bind λb=>if b=true then(if(decide (x3.1=(0:Int)))=true then((wH q0 q2 q3).bind λb6=>some (((0:Int),b6))).bind λa7=>some (some a7) else(((((aV q1 (x3.1-(1:Int))).bind λa9=>some ((a9,(q2,(q3,()))))).bind λb10=>some (q0,b10)).bind λz8=>wS z8.1 z8.2.1 z8.2.2.1 z8.2.2.2.1).bind λoV=>some (x3.1,oV)).bind λa12=>some (some a12)).bind λb=>some (.rt b) else some (.nx ())) xs ()).bind λo=>o.els λs2=>some ((none:Option (Int×(Str×Key))))
theorem kh:ao ["machine","rows","one","other","place","numbers"] ["machine","rows","one","other"] (zI jr):=fsc
abbrev ZQ(K:PySem.W.Frag)(C:Addr):Sp:=cu K false (λa:(aF C)×((List LI))×Int×Int×Unit=>([.z a.1,.z a.2.1,.z a.2.2.1,.z a.2.2.2.1]:SL K)) (λa=>wT a.1 a.2.1 a.2.2.1 a.2.2.2.1)
theorem zLc(F:bR K "parting" "parting" jr f fd)(B:Bl K mg)(cU:bO P w K mg base k "sight_reason" ["machine","one","other"] (ZL K C))(dB:bO P w K mg base k "step_reason" ["machine","numbers","one","other"] (ZP K C)):aB P w K mg base bH (k+1) f fd ["machine","rows","one","other"] (ZQ K C):=by
 refine yQ F kh (λ_=>rfl) (λ_=>rfl) λcdv A outer s H E hr=>?_
 have nd:=kh.nd
 refine⟨_,(zC (wB PassesOwn.never rfl (Kz K B.enum (zA (pv 1) zD)) (uz rfl (yB (bT 4 nd) (yB (bT 5 nd) vC))) (zC (vL (yA (Cq K Int hr) (wG (bL K) (pv 5) (pv 2) (λ_ _=>rfl)) (wG (bL K) (pv 5) (pv 3) (λ_ _=>rfl)) (yZ _)) (zC (vL (yA (qQ K Int hr) (pv 4) zK (yZ _)) (zC (yE (vV (zA zK (zA (zU cU hr (zA (pv 0) (zA (pv 2) (zA (pv 3) zD)))) zD)))) zH) zH) (zC (yE (vV (zA (pv 4) (zA (zU dB hr (zA (pv 0) (zA (wG (bL K) (pv 1) (zX QB (pv 4) zK) (λ_ _=>rfl)) (zA (pv 2) (zA (pv 3) zD))))) zD)))) zH)) zH) zH)) (zC (yE DQ) zH)),?_⟩
 rintro Fa ⟨q0,q1,q2,q3,⟨⟩⟩
 exact SB.of (W6 (Rr (n:=false) (L:=(λs1:Unit=>([.z q0,.z q1,.z q2,.z q3,.un,.un]:SL K))) () bB (Kf (xC 1 rfl)) (λs1=>(sE 4 5 rfl rfl (λ_=>rfl) rfl)) (λs1 x3=>(W7 (yD (md:=.hp) (Cr (esc (wY (zG 5 rfl) (zE 2 rfl))) (esc (wY (zG 5 rfl) (zE 3 rfl))))) (Cp (yD (md:=.hp) (qR (zE 4 rfl) (zJ 0))) (yK (W3 (wW (zJ 0) (zL (zF (zG 0 rfl) (zF (esc (zE 2 rfl)) (zF (esc (zE 3 rfl)) zM))))))) (yK (W3 (wW (zE 4 rfl) (zL (zF (zG 0 rfl) (zF (wY (zG 1 rfl) (Ry (zE 4 rfl) (zJ 1))) (zF (esc (zE 2 rfl)) (zF (esc (zE 3 rfl)) zM))))))))) (Ro (λs1:Unit=>([.z q0,.z q1,.z q2,.z q3,.un,.un]:SL K)) () bB)))) (λs2=>(yK (wk (α:=Int×(Str×Key)))))) (by unfold wT;simp only[bnd])
def Mq(q0:aF C):Option (List (List (Option (Int×(Str×Key))))):=(xD q0).bind λnG=>(some (([]:List (List (Option (Int×(Str×Key))))))).bind λtE=>((xE q0).bind λxs=>xR (λ(s3:List (List (Option (Int×(Str×Key))))) (x5:Int)=>(((xE q0).bind λxs=>xG (λ(x7:Int)=>some true) (λ(x7:Int)=>wT q0 nG x5 x7) xs).bind λa8=>push s3 a8).bind λtG=>some tG) xs tE).bind λs4=>some s4
theorem jD:ao ["machine","rows","told","one"] ["machine"] (zI iC):=fsc
abbrev ZR(K:PySem.W.Frag)(C:Addr):Sp:=cu K false (λa:(aF C)×Unit=>([.z a.1]:SL K)) (λa=>Mq a.1)
theorem zIl(F:bR K "partings" "partings" iC f fd)(B:Bl K mg)(aN:bO P w K mg base k "everywhere" ["machine"] (uS K C))(bG:bO P w K mg base k "numberings" ["machine"] (Ue K C))(jx:bO P w K mg base k "parting" ["machine","rows","one","other"] (ZQ K C)):aB P w K mg base bH (k+1) f fd ["machine"] (ZR K C):=by
 refine yQ F jD (λ_=>rfl) (λ_=>rfl) λcdv A outer s H E hr=>?_
 have nd:=jD.nd
 refine⟨_,(zC (yO 1 nd (zU bG hr (zA (pv 0) zD))) (zC (yO 2 nd (xT zD)) (zC (wB PassesOwn.never rfl (xB K (zU aN hr (zA (pv 0) zD))) (bT 3 nd) (zC (yN (oK K PySem.F.plainAttrs_list PySem.F.slot_list_append PySem.F.type_list_append yP (pv 2) (zA (vD (own:=["other"]) (ix:=[0,1,3]) rfl rfl rfl (xB K (zU aN hr (zA (pv 0) zD))) (λC s H fp=>yI (i:=0) (show(["other","machine","rows","one"]:List Str).Nodup from by decide +kernel) rfl (Or.inl rfl)) (λC s H fp=>wD) (λC s H fp=>(zU jx hr (zA (pv 1) (zA (pv 2) (zA (pv 3) (zA (pv 0) zD))))))) zD))) zH)) (zC (yE (pv 2)) zH)))),?_⟩
 rintro Fa ⟨q0,⟨⟩⟩
 exact SB.of (zN (yG true 1 rfl rfl (zL (zF (zG 0 rfl) zM))) (λnG=>(zN (sy true 2 rfl rfl (qP (α:=List (Option (Int×(Str×Key)))))) (λtE=>(zN (vU (n:=true) (L:=(λs3:List (List (Option (Int×(Str×Key))))=>([.z q0,.y nG,.ow true s3,.un]:SL K))) tE bB (xP (zL (zF (zG 0 rfl) zM))) (λs3=>(yL 3 rfl rfl)) (λs3 x5=>(zO (xI 2 rfl rfl (xN (n:=true) (jK:=[.un,.z q0,.y nG,.y x5]) (no:=1) (ix:=[0,1,3]) rfl rfl (xP (zL (zF (zG 0 rfl) zM))) (yL 0 rfl rfl) (λx7=>qd) (λx7=>(zL (zF (zG 1 rfl) (zF (zG 2 rfl) (zF (esc (zE 3 rfl)) (zF (esc (zE 0 rfl)) zM)))))) (λx7=>fP)).ex) (λtG=>(zY (λs3:List (List (Option (Int×(Str×Key))))=>([.z q0,.y nG,.ow true s3,.un]:SL K)) tG bB))))) (λs4=>(Od 2 rfl rfl))))))) (by unfold Mq;simp only[bnd])
end
end Ts
set_option maxHeartbeats 40000000
namespace Ts
open PySem L2
section
variable{P:Program}{w:World}{K:PySem.W.Frag}{mg:Str->Option Value}{base:Heap}
def zS(q0:lJ)(q1:Int):Option Int:=if(decide (q1<(q0.ns.length:Int)))=true then aV q0.ns q1 else some (0:Int)
theorem iV:ao ["_law_script","_law_k"] ["_law_script","_law_k"] (zI fQ):=fsc
abbrev Pu(K:PySem.W.Frag):Sp:=cu K false (λa:lJ×Int×Unit=>([.z a.1,.z a.2.1]:SL K)) (λa=>zS a.1 a.2.1)
theorem zHc(F:bR K "_law_cell_at" "_law_cell_at" fQ f fd)(B:Bl K mg):aB P w K mg base bH (k+1) f fd ["_law_script","_law_k"] (Pu K):=by
 refine yQ F iV (λ_=>rfl) (λ_=>rfl) λcdv A outer s H E hr=>?_
 have nd:=iV.nd
 refine⟨_,(zC (vL (yA Ny (pv 1) (zT (wI K) rfl B.len PySem.boot_len (zA (pv 0) zD)) (yZ _)) (zC (yE (wG (bL K) (pv 0) (pv 1) (λ_ _=>rfl))) zH) zH) (zC (yE zK) zH)),?_⟩
 rintro Fa ⟨q0,q1,⟨⟩⟩
 exact SB.of (Cp (yD (md:=.hp) (sJ (zE 1 rfl) (xq (zG 0 rfl)))) (yK (esc (Ft (zG 0 rfl) (zE 1 rfl)))) (yK (esc (zJ 0)))) (by unfold zS;simp only[bnd])
def xV(q0:Int)(q1:Int):Option Int:=((((qb (10:Int) (40:Int)).bind λb1=>aQ q0 b1).bind λa2=>mulM a2 (6364136223846793013:Int)).bind λa3=>(mulM (q1+(1:Int)) (1442695040888963407:Int)).bind λb4=>some (a3+b4)).bind λa5=>bF a5 (97:Int)
theorem kj:ao ["_law_cell","_law_k"] ["_law_cell","_law_k"] (zI jt):=fsc
abbrev Px(K:PySem.W.Frag):Sp:=cu K false (λa:Int×Int×Unit=>([.z a.1,.z a.2.1]:SL K)) (λa=>xV a.1 a.2.1)
theorem zLd(F:bR K "_law_mixed" "_law_mixed" jt f fd)(B:Bl K mg):aB P w K mg base bH (k+1) f fd ["_law_cell","_law_k"] (Px K):=by
 refine yQ F kj (λ_=>rfl) (λ_=>rfl) λcdv A outer s H E hr=>?_
 have nd:=kj.nd
 refine⟨_,(zC (yE (zX yY (zX vX (zX QC (zX yW (pv 0) (zX Ed zK zK)) zK) (zX QC (zX vX (pv 1) zK) zK)) zK)) zH),?_⟩
 rintro Fa ⟨q0,q1,⟨⟩⟩
 exact SB.of (yK (esc (wQ (vY (RB (yX (zE 0 rfl) (Fp (zJ 10) (zJ 40))) (zJ 6364136223846793013)) (RB (vY (zE 1 rfl) (zJ 1)) (zJ 1442695040888963407))) (zJ 97)))) (by unfold xV;simp only[bnd])
def xU(q0:Int)(q1:Int):Option Str:=(some ("abcdefghijklmnopqrstuvwxyz":Str)).bind λkE=>(some ("":Str)).bind λtH=>(bF q0 (16:Int)).bind λtK=>((((bF q0 (2:Int)).bind λa7=>aQ a7 (8:Int)).bind λa8=>wF a8).bind λxs=>xR (λ(s4:Str×Int) (x6:Int)=>(((aQ s4.2 (26:Int)).bind λb10=>Ah kE b10).bind λoV=>jU s4.1 oV).bind λnH=>(bF s4.2 (26:Int)).bind λkI=>some (nH,kI)) xs (tH,tK)).bind λs5=>((aQ (s5.2+q1) (26:Int)).bind λMl=>Ah kE Ml).bind λkJ=>(((jU kJ s5.1).bind λa17=>((jU s5.1 kJ).bind λa16=>some (a16::([]))).bind λUg=>some (a17::Ug)).bind λa19=>(aQ q0 (2:Int)).bind λb20=>aV a19 b20).bind λkO=>(some ([("all":Str),("not":Str),("both":Str),("either":Str),("somenext":Str),("eachnext":Str),("sometill":Str),("eachtill":Str),("someever":Str),("eachever":Str)])).bind λjL=>(if(decide (kO∈jL))=true then(Ai kO (-(1:Int))).bind λoZ=>some oZ else some kO).bind λJr=>some Jr
theorem iW:ao ["_law_cell","_law_k","_law_some","_law_tail","_law_rest","_law_turn","_law_sign","_law_made","_law_words"] ["_law_cell","_law_k"] (zI fU):=fsc
abbrev ZS(K:PySem.W.Frag):Sp:=cu K false (λa:Int×Int×Unit=>([.z a.1,.z a.2.1]:SL K)) (λa=>xU a.1 a.2.1)
seal L2.PE L2.PT L2.PW L2.PA L2.PS L2.mY L2.PC L2.PG L2.JH L2.PI L2.PO in
theorem zG9(F:bR K "_law_name_by" "_law_name_by" fU f fd)(B:Bl K mg):aB P w K mg base bH (k+1) f fd ["_law_cell","_law_k"] (ZS K):=by
 refine yQ F iW (λ_=>rfl) (λ_=>rfl) λcdv A outer s H E hr=>?_
 have nd:=iW.nd
 refine⟨_,(zC (yO 2 nd vW) (zC (yO 3 nd vW) (zC (yO 4 nd (zX yY (pv 0) zK)) (zC (wB PassesOwn.never rfl (yU rfl B.range (zA (zX yW (zX yY (pv 0) zK) zK) zD)) (bT 5 nd) (zC (yO 3 nd (zX Tq (pv 3) (YD (pv 2) (zX yW (pv 4) zK) (λ_ _=>rfl)))) (zC (yO 4 nd (zX yY (pv 4) zK)) zH))) (zC (yO 6 nd (YD (pv 2) (zX yW (zX vX (pv 4) (pv 1)) zK) (λ_ _=>rfl))) (zC (yO 7 nd (wG (bL K) (xT (zA (zX Tq (pv 6) (pv 3)) (zA (zX Tq (pv 3) (pv 6)) zD))) (zX yW (pv 0) zK) (λ_ _=>rfl))) (zC (yO 8 nd (xT (zA vW (zA vW (zA vW (zA vW (zA vW (zA vW (zA vW (zA vW (zA vW (zA vW zD)))))))))))) (zC (vL (yA (Kw K) (pv 7) (pv 8) (by with_unfolding_all rfl)) (zC (yO 7 nd (zQj Gx (pv 7) vo (vp (rG QD zK)))) zH) zH) (zC (yE (pv 7)) zH))))))))),?_⟩
 rintro Fa ⟨q0,q1,⟨⟩⟩
 exact SB.of (zN (yG true 2 rfl rfl (esc (vR "abcdefghijklmnopqrstuvwxyz"))) (λkE=>(zN (yG true 3 rfl rfl (esc (vR ""))) (λtH=>(zN (yG true 4 rfl rfl (esc (wQ (zE 0 rfl) (zJ 16)))) (λtK=>(zN (vU (n:=true) (L:=(λs4:Str×Int=>([.z q0,.z q1,.y kE,.y s4.1,.y s4.2,.un,.un,.un,.un]:SL K))) (tH,tK) bB (xY (yX (wQ (zE 0 rfl) (zJ 2)) (zJ 8))) (λs4=>(yL 5 rfl rfl)) (λs4 x6=>(zO (yG true 3 rfl rfl (esc (Tt (zE 3 rfl) (esc (YF (zE 2 rfl) (yX (zE 4 rfl) (zJ 26))))))) (λnH=>(zO (yG true 4 rfl rfl (esc (wQ (zE 4 rfl) (zJ 26)))) (λkI=>(zY (λs4:Str×Int=>([.z q0,.z q1,.y kE,.y s4.1,.y s4.2,.un,.un,.un,.un]:SL K)) (nH,kI) bB))))))) (λs5=>(zN (yG true 6 rfl rfl (esc (esc (YF (zE 2 rfl) (yX (vY (zE 4 rfl) (zE 1 rfl)) (zJ 26)))))) (λkJ=>(zN (yG true 7 rfl rfl (esc (esc (wY (Cj (xO (esc (Tt (zE 6 rfl) (zE 3 rfl))) (xO (esc (Tt (zE 3 rfl) (zE 6 rfl))) Ci)) (λa h=>Nat.le_trans ((vA (vA Cw)) a h) (by decide))).ex (yX (zE 0 rfl) (zJ 2)))))) (λkO=>(zN (yG true 8 rfl rfl (Cj (xO (esc (vR "all")) (xO (esc (vR "not")) (xO (esc (vR "both")) (xO (esc (vR "either")) (xO (esc (vR "somenext")) (xO (esc (vR "eachnext")) (xO (esc (vR "sometill")) (xO (esc (vR "eachtill")) (xO (esc (vR "someever")) (xO (esc (vR "eachever")) Ci)))))))))) (λa h=>Nat.le_trans ((vA (vA (vA (vA (vA (vA (vA (vA (vA (vA Cw)))))))))) a h) (by decide))).ex) (λjL=>(zN (n6 (yD (md:=.hp) (Om (zE 7 rfl) (zG 8 rfl))) (zO (yG true 7 rfl rfl (esc (esc (Aj (zE 7 rfl) (RZ (zJ 1)))))) (λoZ=>(zY (λUh:Str=>([.z q0,.z q1,.y kE,.y s5.1,.y s5.2,.un,.y kJ,.y Uh,.y jL]:SL K)) oZ bB))) (zY (λUh:Str=>([.z q0,.z q1,.y kE,.y s5.1,.y s5.2,.un,.y kJ,.y Uh,.y jL]:SL K)) kO bB)) (λJr=>(yK (esc (zE 7 rfl))))))))))))))))))) (by unfold xU;simp only[bnd])
def vE(q0:Int)(q1:Int):Option LI:=(some ([]:LI)).bind λo7=>((wF q1).bind λxs=>xR (λ(s2:LI×Int) (x4:Int)=>(((aQ s2.2 (3:Int)).bind λa5=>some (decide (a5=(0:Int)))).bind λb=>if b=true then(push s2.1 x4).bind λo8=>some o8 else some s2.1).bind λs6=>(bF s2.2 (3:Int)).bind λtL=>some (s6,tL)) xs (o7,q0)).bind λs3=>(((aQ s3.2 (2:Int)).bind λa10=>some (decide (a10=(1:Int)))).bind λb=>if b=true then(some s3.1.reverse).bind λmG=>some mG else some s3.1).bind λlR=>some lR
theorem iY:ao ["_law_rest","_law_many","_law_found","_law_k"] ["_law_rest","_law_many"] (zI fV):=fsc
abbrev Ui(K:PySem.W.Frag):Sp:=cu K false (λa:Int×Int×Unit=>([.z a.1,.z a.2.1]:SL K)) (λa=>vE a.1 a.2.1)
theorem zG7(F:bR K "_law_some_of" "_law_some_of" fV f fd)(B:Bl K mg):aB P w K mg base bH (k+1) f fd ["_law_rest","_law_many"] (Ui K):=by
 refine yQ F iY (λ_=>rfl) (λ_=>rfl) λcdv A outer s H E hr=>?_
 have nd:=iY.nd
 refine⟨_,(zC (yO 2 nd (xT zD)) (zC (wB PassesOwn.never rfl (yU rfl B.range (zA (pv 1) zD)) (bT 3 nd) (zC (vL (yA (qQ K Int hr) (zX yW (pv 0) zK) zK (yZ _)) (zC (yN (oK K PySem.F.plainAttrs_list PySem.F.slot_list_append PySem.F.type_list_append yP (pv 2) (zA (pv 3) zD))) zH) zH) (zC (yO 0 nd (zX yY (pv 0) zK)) zH))) (zC (vL (yA (qQ K Int hr) (zX yW (pv 0) zK) zK (yZ _)) (zC (yN (Xh K PySem.F.plainAttrs_list PySem.F.slot_list_reverse PySem.F.type_list_reverse Wo (pv 2))) zH) zH) (zC (yE (pv 2)) zH)))),?_⟩
 rintro Fa ⟨q0,q1,⟨⟩⟩
 exact SB.of (zN (sy true 2 rfl rfl (qP (α:=Int))) (λo7=>(zN (vU (n:=true) (L:=(λs2:LI×Int=>([.z s2.2,.z q1,.ow true s2.1,.un]:SL K))) (o7,q0) bB (xY (zE 1 rfl)) (λs2=>(yL 3 rfl rfl)) (λs2 x4=>(zO (n6 (yD (md:=.hp) (qR (yX (zE 0 rfl) (zJ 3)) (zJ 0))) (zO (xI 2 rfl rfl (esc (zE 3 rfl))) (λo8=>(zY (λs7:LI=>([.z s2.2,.z q1,.ow true s7,.y x4]:SL K)) o8 bB))) (zY (λs7:LI=>([.z s2.2,.z q1,.ow true s7,.y x4]:SL K)) s2.1 bB)) (λs6=>(zO (yG true 0 rfl rfl (esc (wQ (zE 0 rfl) (zJ 3)))) (λtL=>(zY (λs2:LI×Int=>([.z s2.2,.z q1,.ow true s2.1,.un]:SL K)) (s6,tL) (Le.old bB)))))))) (λs3=>(zN (n6 (yD (md:=.hp) (qR (yX (zE 0 rfl) (zJ 2)) (zJ 1))) (zO (YH 2 rfl rfl) (λmG=>(zY (λs12:LI=>([.z s3.2,.z q1,.ow true s12,.un]:SL K)) mG bB))) (zY (λs12:LI=>([.z s3.2,.z q1,.ow true s12,.un]:SL K)) s3.1 bB)) (λlR=>(Od 2 rfl rfl))))))) (by unfold vE;simp only[bnd])
def vN(q0:lJ)(q1:LI)(q2:Int):Option (List LI):=(zS q0 (2:Int)).bind λn8=>(some (([]:List LI))).bind λmH=>((wF q2).bind λxs=>xR (λ(s3:List LI) (x5:Int)=>(((wF (q1.length:Int)).bind λxs=>xG (λ(x7:Int)=>(aV q1 x7).bind λa8=>some (decide (a8=x5))) (λ(x7:Int)=>some x7) xs).bind λa9=>push s3 a9).bind λmJ=>some mJ) xs mH).bind λs4=>(some (dO.mk [])).bind λmK=>((wF (q1.length:Int)).bind λxs=>xR (λ(lR:dO) (oX:Int)=>(((((aV q1 oX).bind λHf=>some ((50:Int)+Hf)).bind λa17=>some ((a17,()))).bind λUg=>some (n8,Ug)).bind λZV=>xV ZV.1 ZV.2.1).bind λeF=>(vE eF q2).bind λjM=>(if(decide ((jM.length:Int)=(0:Int)))=true then((aQ eF q2).bind λa23=>some (a23::([]))).bind λiZ=>some iZ else some jM).bind λHg=>(some ([]:LI)).bind λtM=>((some Hg).bind λxs=>xR (λ(Bc:LI) (x27:Int)=>(((zS q0 ((6:Int)+oX)).bind λa30=>some ((a30,((100:Int)+x27,())))).bind λMr=>xV Mr.1 Mr.2.1).bind λgC=>(((aV s4 x27).bind λa34=>(((aV s4 x27).bind λa32=>some (a32.length:Int)).bind λMs=>aQ gC Ms).bind λMt=>aV a34 Mt).bind λa36=>push Bc a36).bind λi_=>((aV s4 x27).bind λa41=>((bF gC (64:Int)).bind λa39=>((aV s4 x27).bind λa38=>some (a38.length:Int)).bind λUj=>aQ a39 Uj).bind λUk=>aV a41 Uk).bind λcj=>(if(!decide (cj∈i_))=true then(push i_ cj).bind λnJ=>some nJ else some i_).bind λMu=>some Mu) xs tM).bind λZW=>(Pk lR ZW).bind λmL=>some mL) xs mK).bind λs12=>(((zS q0 (3:Int)).bind λa49=>some ((a49,((7:Int),())))).bind λZX=>xV ZX.1 ZX.2.1).bind λgD=>((((aQ gD (3:Int)).bind λa50=>some (decide (a50=(0:Int)))).bind λUl=>if Ul=true then((bF gD (3:Int)).bind λa54=>aQ a54 (q1.length:Int)).bind λa55=>((((bF gD (3:Int)).bind λa51=>bF a51 (64:Int)).bind λa52=>aQ a52 (q1.length:Int)).bind λUm=>aV s12.xss Um).bind λUo=>some (!decide (a55∈Uo)) else some false).bind λb=>if b=true then((((bF gD (3:Int)).bind λa61=>bF a61 (64:Int)).bind λa62=>aQ a62 (q1.length:Int)).bind λa64=>((bF gD (3:Int)).bind λa63=>aQ a63 (q1.length:Int)).bind λb65=>Dg s12 a64 b65).bind λUq=>some Uq else some s12).bind λZ0=>some Z0.xss
theorem iu:ao ["_law_script","_law_maps","_law_bases","_law_kept","_law_places","_law_base","_law_steps","_law_stand","_law_rest","_law_goals","_law_row","_law_goal","_law_more","_law_second"] ["_law_script","_law_maps","_law_bases"] (zI d9):=fsc
abbrev Z1(K:PySem.W.Frag):Sp:=cu K false (λa:lJ×LI×Int×Unit=>([.z a.1,.z a.2.1,.z a.2.2.1]:SL K)) (λa=>vN a.1 a.2.1 a.2.2.1)
theorem zFr(F:bR K "_law_steps_by" "_law_steps_by" d9 f fd)(B:Bl K mg)(aq:bO P w K mg base k "_law_cell_at" ["_law_script","_law_k"] (Pu K))(aY:bO P w K mg base k "_law_mixed" ["_law_cell","_law_k"] (Px K))(bQ:bO P w K mg base k "_law_some_of" ["_law_rest","_law_many"] (Ui K)):aB P w K mg base bH (k+1) f fd ["_law_script","_law_maps","_law_bases"] (Z1 K):=by
 refine yQ F iu (λ_=>rfl) (λ_=>rfl) λcdv A outer s H E hr=>?_
 have nd:=iu.nd
 refine⟨_,(zC (yO 3 nd (zU aq hr (zA (pv 0) (zA zK zD)))) (zC (yO 4 nd (xT zD)) (zC (wB PassesOwn.never rfl (yU rfl B.range (zA (pv 2) zD)) (bT 5 nd) (zC (yN (oK K PySem.F.plainAttrs_list PySem.F.slot_list_append PySem.F.type_list_append yP (pv 4) (zA (vD (own:=["_law_stand"]) (ix:=[1,5]) rfl rfl rfl (yU rfl B.range (zA (zT (wI K) rfl B.len PySem.boot_len (zA (pv 1) zD)) zD)) (λC s H fp=>yI (i:=0) (show(["_law_stand","_law_maps","_law_base"]:List Str).Nodup from by decide +kernel) rfl (Or.inl rfl)) (λC s H fp=>J7 (yA (qQ K Int hr) (wG (bL K) (pv 1) (pv 0) (λ_ _=>rfl)) (pv 2) (yZ _))) (λC s H fp=>(pv 0))) zD))) zH)) (zC (yO 6 nd (xT zD)) (zC (wB PassesOwn.never rfl (yU rfl B.range (zA (zT (wI K) rfl B.len PySem.boot_len (zA (pv 1) zD)) zD)) (bT 7 nd) (zC (yO 8 nd (zU aY hr (zA (pv 3) (zA (zX vX zK (wG (bL K) (pv 1) (pv 7) (λ_ _=>rfl))) zD)))) (zC (yO 9 nd (zU bQ hr (zA (pv 8) (zA (pv 2) zD)))) (zC (vL (yA (qQ K Int hr) (zT (wI K) rfl B.len PySem.boot_len (zA (pv 9) zD)) zK (yZ _)) (zC (yO 9 nd (xT (zA (zX yW (pv 8) (pv 2)) zD))) zH) zH) (zC (yO 10 nd (xT zD)) (zC (wB PassesOwn.never rfl (xB K (pv 9)) (bT 11 nd) (zC (yO 12 nd (zU aY hr (zA (zU aq hr (zA (pv 0) (zA (zX vX zK (pv 7)) zD))) (zA (zX vX zK (pv 11)) zD)))) (zC (yN (oK K PySem.F.plainAttrs_list PySem.F.slot_list_append PySem.F.type_list_append yP (pv 10) (zA (wG (bL K) (wG (bL K) (pv 4) (pv 11) (λ_ _=>rfl)) (zX yW (pv 12) (zT (wI K) rfl B.len PySem.boot_len (zA (wG (bL K) (pv 4) (pv 11) (λ_ _=>rfl)) zD))) (λ_ _=>rfl)) zD))) (zC (yO 13 nd (wG (bL K) (wG (bL K) (pv 4) (pv 11) (λ_ _=>rfl)) (zX yW (zX yY (pv 12) zK) (zT (wI K) rfl B.len PySem.boot_len (zA (wG (bL K) (pv 4) (pv 11) (λ_ _=>rfl)) zD))) (λ_ _=>rfl))) (zC (vL (yA (Ox K) (pv 13) (pv 10) (by with_unfolding_all rfl)) (zC (yN (oK K PySem.F.plainAttrs_list PySem.F.slot_list_append PySem.F.type_list_append yP (pv 10) (zA (pv 13) zD))) zH) zH) zH))))) (zC (yN (oK K PySem.F.plainAttrs_list PySem.F.slot_list_append PySem.F.type_list_append yP (pv 6) (zA (pv 10) zD))) zH))))))) (zC (yO 8 nd (zU aY hr (zA (zU aq hr (zA (pv 0) (zA zK zD))) (zA zK zD)))) (zC (vL (PW.pt (pw_and (yA (qQ K Int hr) (zX yW (pv 8) zK) zK (yZ _)) (pw_and1 (yA (Ox K) (zX yW (zX yY (pv 8) zK) (zT (wI K) rfl B.len PySem.boot_len (zA (pv 1) zD))) (wG (bL K) (pv 6) (zX yW (zX yY (zX yY (pv 8) zK) zK) (zT (wI K) rfl B.len PySem.boot_len (zA (pv 1) zD))) (λ_ _=>rfl)) (by with_unfolding_all rfl))))) (zC (yN (oK K PySem.F.plainAttrs_list PySem.F.slot_list_append PySem.F.type_list_append yP (wG (bL K) (pv 6) (zX yW (zX yY (zX yY (pv 8) zK) zK) (zT (wI K) rfl B.len PySem.boot_len (zA (pv 1) zD))) (λ_ _=>rfl)) (zA (zX yW (zX yY (pv 8) zK) (zT (wI K) rfl B.len PySem.boot_len (zA (pv 1) zD))) zD))) zH) zH) (zC (yE (pv 6)) zH)))))))),?_⟩
 rintro Fa ⟨q0,q1,q2,⟨⟩⟩
 exact SB.of (zN (yG true 3 rfl rfl (esc (zL (zF (zG 0 rfl) (zF (esc (zJ 2)) zM))))) (λn8=>(zN (sy true 4 rfl rfl (qP (α:=LI))) (λmH=>(zN (vU (n:=true) (L:=(λs3:List LI=>([.z q0,.z q1,.z q2,.y n8,.ow true s3,.un,.un,.un,.un,.un,.un,.un,.un,.un]:SL K))) mH bB (xY (zE 2 rfl)) (λs3=>(yL 5 rfl rfl)) (λs3 x5=>(zO (xI 4 rfl rfl (xN (n:=true) (jK:=[.un,.z q1,.y x5]) (no:=1) (ix:=[1,5]) rfl rfl (xY (wP (zG 1 rfl))) (yL 0 rfl rfl) (λx7=>(yD (md:=.hp) (qR (esc (wY (zG 1 rfl) (zE 0 rfl))) (zE 2 rfl)))) (λx7=>(esc (zE 0 rfl))) (λx7=>fP)).ex) (λmJ=>(zY (λs3:List LI=>([.z q0,.z q1,.z q2,.y n8,.ow true s3,.un,.un,.un,.un,.un,.un,.un,.un,.un]:SL K)) mJ bB))))) (λs4=>(zN (Cv 6 rfl rfl Aw) (λmK=>(zN (vU (n:=true) (L:=(λlR:dO=>([.z q0,.z q1,.z q2,.y n8,.ow true s4,.un,.nu (lR:dO),.un,.un,.un,.un,.un,.un,.un]:SL K))) mK bB (xY (wP (zG 1 rfl))) (λlR=>(yL 7 rfl rfl)) (λlR oX=>(zO (yG true 8 rfl rfl (esc (zL (zF (esc (zE 3 rfl)) (zF (esc (vY (zJ 50) (esc (wY (zG 1 rfl) (zE 7 rfl))))) zM))))) (λeF=>(zO (yG true 9 rfl rfl (zL (zF (esc (zE 8 rfl)) (zF (esc (zE 2 rfl)) zM)))) (λjM=>(zO (n6 (yD (md:=.hp) (qR (wP (zG 9 rfl)) (zJ 0))) (zO (yG true 9 rfl rfl (Cj (xO (esc (yX (zE 8 rfl) (zE 2 rfl))) Ci) (λa h=>Nat.le_trans ((vA Cw) a h) (by decide))).ex) (λiZ=>(zY (λBd:LI=>([.z q0,.z q1,.z q2,.y n8,.ow true s4,.un,.nu (lR:dO),.y oX,.y eF,.y Bd,.un,.un,.un,.un]:SL K)) iZ bB))) (zY (λBd:LI=>([.z q0,.z q1,.z q2,.y n8,.ow true s4,.un,.nu (lR:dO),.y oX,.y eF,.y Bd,.un,.un,.un,.un]:SL K)) jM bB)) (λHg=>(zO (sy true 10 rfl rfl (qP (α:=Int))) (λtM=>(zO (vU (n:=true) (L:=(λBc:LI=>([.z q0,.z q1,.z q2,.y n8,.ow true s4,.un,.nu (lR:dO),.y oX,.y eF,.y Hg,.ow true Bc,.un,.un,.un]:SL K))) tM bB (xP (xC 9 rfl)) (λBc=>(yL 11 rfl rfl)) (λBc x27=>(zO (yG true 12 rfl rfl (esc (zL (zF (esc (zL (zF (zG 0 rfl) (zF (esc (vY (zJ 6) (zE 7 rfl))) zM)))) (zF (esc (vY (zJ 100) (zE 11 rfl))) zM))))) (λgC=>(zO (xI 10 rfl rfl (esc (esc (wY (wY (uU 4 rfl) (zE 11 rfl)) (yX (zE 12 rfl) (wP (wY (uU 4 rfl) (zE 11 rfl)))))))) (λi_=>(zO (yG true 13 rfl rfl (esc (esc (wY (wY (uU 4 rfl) (zE 11 rfl)) (yX (wQ (zE 12 rfl) (zJ 64)) (wP (wY (uU 4 rfl) (zE 11 rfl)))))))) (λcj=>(zO (n6 (yD (md:=.hp) (Oo (zE 13 rfl) (uU 10 rfl))) (zO (xI 10 rfl rfl (esc (zE 13 rfl))) (λnJ=>(zY (λUr:LI=>([.z q0,.z q1,.z q2,.y n8,.ow true s4,.un,.nu (lR:dO),.y oX,.y eF,.y Hg,.ow true Ur,.y x27,.y gC,.y cj]:SL K)) nJ bB))) (zY (λUr:LI=>([.z q0,.z q1,.z q2,.y n8,.ow true s4,.un,.nu (lR:dO),.y oX,.y eF,.y Hg,.ow true Ur,.y x27,.y gC,.y cj]:SL K)) i_ bB)) (λMu=>(zY (λBc:LI=>([.z q0,.z q1,.z q2,.y n8,.ow true s4,.un,.nu (lR:dO),.y oX,.y eF,.y Hg,.ow true Bc,.un,.un,.un]:SL K)) Mu bB))))))))))) (λZW=>(zO (Ax 6 10 rfl rfl (by decide) rfl) (λmL=>(zY (λlR:dO=>([.z q0,.z q1,.z q2,.y n8,.ow true s4,.un,.nu (lR:dO),.un,.un,.un,.un,.un,.un,.un]:SL K)) mL bB))))))))))))))) (λs12=>(zN (yG true 8 rfl rfl (esc (zL (zF (esc (zL (zF (zG 0 rfl) (zF (esc (zJ 3)) zM)))) (zF (esc (zJ 7)) zM))))) (λgD=>(zN (n6 (W4 (yD (md:=.hp) (qR (yX (zE 8 rfl) (zJ 3)) (zJ 0))) (yD (md:=.hp) (Oo (yX (wQ (zE 8 rfl) (zJ 3)) (wP (zG 1 rfl))) (wY (zRb 6 rfl) (yX (wQ (wQ (zE 8 rfl) (zJ 3)) (zJ 64)) (wP (zG 1 rfl))))))) (zO (Y7 6 rfl rfl (yX (wQ (wQ (zE 8 rfl) (zJ 3)) (zJ 64)) (wP (zG 1 rfl))) (yX (wQ (zE 8 rfl) (zJ 3)) (wP (zG 1 rfl)))) (λUq=>(zY (λUs:dO=>([.z q0,.z q1,.z q2,.y n8,.ow true s4,.un,.nu (Us:dO),.un,.y gD,.un,.un,.un,.un,.un]:SL K)) Uq bB))) (zY (λUs:dO=>([.z q0,.z q1,.z q2,.y n8,.ow true s4,.un,.nu (Us:dO),.un,.y gD,.un,.un,.un,.un,.un]:SL K)) s12 bB)) (λZ0=>(Y5 6 rfl))))))))))))))) (by unfold vN;simp only[bnd])
def vG(q0:Int)(q1:Int)(q2:LI)(q3:Int):Option LI:=((((xV q0 ((200:Int)+q1)).bind λa2=>bF a2 ((1:Int)+q1)).bind λa4=>some ((a4,(q3,())))).bind λz3=>vE z3.1 z3.2.1).bind λeG=>((wF (q2.length:Int)).bind λxs=>xG (λ(x6:Int)=>(aV q2 x6).bind λa7=>some (decide (a7∈eG))) (λ(x6:Int)=>some x6) xs).bind λmO=>((((bF q0 (7:Int)).bind λa8=>aQ a8 (2:Int)).bind λa9=>some (decide (a9=(1:Int)))).bind λb=>if b=true then(some mO.reverse).bind λjc=>some jc else some mO).bind λqW=>(((((bF q0 (14:Int)).bind λa13=>aQ a13 (5:Int)).bind λa14=>(aQ q1 (9:Int)).bind λHf=>some (decide (a14=Hf))).bind λc16=>if c16=true then some (decide ((1:Int)<(q2.length:Int))) else some false).bind λb=>if b=true then((bF q0 (70:Int)).bind λa20=>aQ a20 (q2.length:Int)).bind λcY=>(if(!decide (cY∈qW))=true then(push qW cY).bind λjd=>some jd else some qW).bind λBd=>some Bd else some qW).bind λjN=>some jN
theorem je:ao ["_law_cell","_law_k","_law_maps","_law_bases","_law_goals","_law_found","_law_stand"] ["_law_cell","_law_k","_law_maps","_law_bases"] (zI fW):=fsc
abbrev Z2(K:PySem.W.Frag):Sp:=cu K false (λa:Int×Int×LI×Int×Unit=>([.z a.1,.z a.2.1,.z a.2.2.1,.z a.2.2.2.1]:SL K)) (λa=>vG a.1 a.2.1 a.2.2.1 a.2.2.2.1)
theorem zG8(F:bR K "_law_sets_by" "_law_sets_by" fW f fd)(B:Bl K mg)(aY:bO P w K mg base k "_law_mixed" ["_law_cell","_law_k"] (Px K))(bQ:bO P w K mg base k "_law_some_of" ["_law_rest","_law_many"] (Ui K)):aB P w K mg base bH (k+1) f fd ["_law_cell","_law_k","_law_maps","_law_bases"] (Z2 K):=by
 refine yQ F je (λ_=>rfl) (λ_=>rfl) λcdv A outer s H E hr=>?_
 have nd:=je.nd
 refine⟨_,(zC (yO 4 nd (zU bQ hr (zA (zX yY (zU aY hr (zA (pv 0) (zA (zX vX zK (pv 1)) zD))) (zX vX zK (pv 1))) (zA (pv 3) zD)))) (zC (Ce (i:=5) (own:=["_law_stand"]) (ix:=[2,4]) nd rfl rfl rfl rfl rfl (yU rfl B.range (zA (zT (wI K) rfl B.len PySem.boot_len (zA (pv 2) zD)) zD)) (λC s H fp=>yI (i:=0) (show(["_law_stand","_law_maps","_law_goals"]:List Str).Nodup from by decide +kernel) rfl (Or.inl rfl)) (λC s H fp=>J7 (yA (Kw K) (wG (bL K) (pv 1) (pv 0) (λ_ _=>rfl)) (pv 2) (by with_unfolding_all rfl))) (λC s H fp=>(pv 0))) (zC (vL (yA (qQ K Int hr) (zX yW (zX yY (pv 0) zK) zK) zK (yZ _)) (zC (yN (Xh K PySem.F.plainAttrs_list PySem.F.slot_list_reverse PySem.F.type_list_reverse Wo (pv 5))) zH) zH) (zC (vL (PW.pt (pw_and (yA (qQ K Int hr) (zX yW (zX yY (pv 0) zK) zK) (zX yW (pv 1) zK) (yZ _)) (pw_and1 (yA Nz (zT (wI K) rfl B.len PySem.boot_len (zA (pv 2) zD)) zK (yZ _))))) (zC (yO 6 nd (zX yW (zX yY (pv 0) zK) (zT (wI K) rfl B.len PySem.boot_len (zA (pv 2) zD)))) (zC (vL (yA (Ox K) (pv 6) (pv 5) (by with_unfolding_all rfl)) (zC (yN (oK K PySem.F.plainAttrs_list PySem.F.slot_list_append PySem.F.type_list_append yP (pv 5) (zA (pv 6) zD))) zH) zH) zH)) zH) (zC (yE (pv 5)) zH))))),?_⟩
 rintro Fa ⟨q0,q1,q2,q3,⟨⟩⟩
 exact SB.of (zN (yG true 4 rfl rfl (zL (zF (esc (wQ (zL (zF (esc (zE 0 rfl)) (zF (esc (vY (zJ 200) (zE 1 rfl))) zM))) (vY (zJ 1) (zE 1 rfl)))) (zF (esc (zE 3 rfl)) zM)))) (λeG=>(zN (sy true 5 rfl rfl (xN (n:=true) (jK:=[.un,.z q2,.y eG]) (no:=1) (ix:=[2,4]) rfl rfl (xY (wP (zG 2 rfl))) (yL 0 rfl rfl) (λx6=>(yD (md:=.hp) (Om (esc (wY (zG 1 rfl) (zE 0 rfl))) (zG 2 rfl)))) (λx6=>(esc (zE 0 rfl))) (λx6=>fP))) (λmO=>(zN (n6 (yD (md:=.hp) (qR (yX (wQ (zE 0 rfl) (zJ 7)) (zJ 2)) (zJ 1))) (zO (YH 5 rfl rfl) (λjc=>(zY (λlR:LI=>([.z q0,.z q1,.z q2,.z q3,.y eG,.ow true lR,.un]:SL K)) jc bB))) (zY (λlR:LI=>([.z q0,.z q1,.z q2,.z q3,.y eG,.ow true lR,.un]:SL K)) mO bB)) (λqW=>(zN (n6 (W4 (yD (md:=.hp) (qR (yX (wQ (zE 0 rfl) (zJ 14)) (zJ 5)) (yX (zE 1 rfl) (zJ 9)))) (yD (md:=.hp) (Oj (wP (zG 2 rfl)) (zJ 1)))) (zO (yG true 6 rfl rfl (esc (yX (wQ (zE 0 rfl) (zJ 70)) (wP (zG 2 rfl))))) (λcY=>(zO (n6 (yD (md:=.hp) (Oo (zE 6 rfl) (uU 5 rfl))) (zO (xI 5 rfl rfl (esc (zE 6 rfl))) (λjd=>(zY (λJr:LI=>([.z q0,.z q1,.z q2,.z q3,.y eG,.ow true Jr,.y cY]:SL K)) jd bB))) (zY (λJr:LI=>([.z q0,.z q1,.z q2,.z q3,.y eG,.ow true Jr,.y cY]:SL K)) qW bB)) (λBd=>(zY (λo9:LI=>([.z q0,.z q1,.z q2,.z q3,.y eG,.ow true o9,.un]:SL K)) Bd bB))))) (zY (λo9:LI=>([.z q0,.z q1,.z q2,.z q3,.y eG,.ow true o9,.un]:SL K)) qW bB)) (λjN=>(Od 5 rfl rfl))))))))) (by unfold vG;simp only[bnd])
def uJ(q0:lJ):Option (LI×Int):=(((zS q0 (0:Int)).bind λa2=>aQ a2 (8:Int)).bind λb3=>some ((1:Int)+b3)).bind λmany1=>(((((zS q0 (0:Int)).bind λa4=>bF a4 (8:Int)).bind λa5=>aQ a5 (8:Int)).bind λa6=>some (decide (a6=(5:Int)))).bind λb=>if b=true then((((zS q0 (0:Int)).bind λa10=>bF a10 (64:Int)).bind λa11=>aQ a11 (20:Int)).bind λUt=>some ((1:Int)+Ut)).bind λnO=>some nO else some many1).bind λs7=>(((zS q0 (1:Int)).bind λa14=>aQ a14 s7).bind λHf=>some ((1:Int)+Hf)).bind λcZ=>(some ([]:LI)).bind λo_=>((wF s7).bind λxs=>xR (λ(jN:LI) (qX:Int)=>(((((((zS q0 (1:Int)).bind λa22=>some ((a22,(qX,())))).bind λZ4=>xV Z4.1 Z4.2.1).bind λa23=>aQ a23 cZ).bind λa24=>(mulM cZ (if(decide (qX<cZ))=true then(1:Int) else 0)).bind λb25=>some (a24+b25)).bind λb26=>some (min qX b26)).bind λa27=>push jN a27).bind λpA=>some pA) xs o_).bind λo9=>some (o9,cZ)
theorem jf:ao ["_law_script","_law_many","_law_bases","_law_maps","_law_stand"] ["_law_script"] (zI fX):=fsc
abbrev Z5(K:PySem.W.Frag):Sp:=cu K false (λa:lJ×Unit=>([.z a.1]:SL K)) (λa=>uJ a.1)
theorem zHa(F:bR K "_law_maps_by" "_law_maps_by" fX f fd)(B:Bl K mg)(tQ:mg "min" = none)(aq:bO P w K mg base k "_law_cell_at" ["_law_script","_law_k"] (Pu K))(aY:bO P w K mg base k "_law_mixed" ["_law_cell","_law_k"] (Px K)):aB P w K mg base bH (k+1) f fd ["_law_script"] (Z5 K):=by
 refine yQ F jf (λ_=>rfl) (λ_=>rfl) λcdv A outer s H E hr=>?_
 have nd:=jf.nd
 refine⟨_,(zC (yO 1 nd (zX vX zK (zX yW (zU aq hr (zA (pv 0) (zA zK zD))) zK))) (zC (vL (yA (qQ K Int hr) (zX yW (zX yY (zU aq hr (zA (pv 0) (zA zK zD))) zK) zK) zK (yZ _)) (zC (yO 1 nd (zX vX zK (zX yW (zX yY (zU aq hr (zA (pv 0) (zA zK zD))) zK) zK))) zH) zH) (zC (yO 2 nd (zX vX zK (zX yW (zU aq hr (zA (pv 0) (zA zK zD))) (pv 1)))) (zC (yO 3 nd (xT zD)) (zC (wB PassesOwn.never rfl (yU rfl B.range (zA (pv 1) zD)) (bT 4 nd) (zC (yN (oK K PySem.F.plainAttrs_list PySem.F.slot_list_append PySem.F.type_list_append yP (pv 3) (zA (zT (VG rfl) rfl tQ Xi (zA (pv 4) (zA (zX vX (zX yW (zU aY hr (zA (zU aq hr (zA (pv 0) (zA zK zD))) (zA (pv 4) zD))) (pv 2)) (zX QC (pv 2) (wR zPm rfl B.int Xe (zA (QF Ny (pv 4) (pv 2) (yZ _)) zD)))) zD))) zD))) zH)) (zC (yE (vV (zA (pv 3) (zA (pv 2) zD)))) zH)))))),?_⟩
 rintro Fa ⟨q0,⟨⟩⟩
 exact SB.of (zN (yG true 1 rfl rfl (esc (vY (zJ 1) (yX (zL (zF (zG 0 rfl) (zF (esc (zJ 0)) zM))) (zJ 8))))) (λmany1=>(zN (n6 (yD (md:=.hp) (qR (yX (wQ (zL (zF (zG 0 rfl) (zF (esc (zJ 0)) zM))) (zJ 8)) (zJ 8)) (zJ 5))) (zO (yG true 1 rfl rfl (esc (vY (zJ 1) (yX (wQ (zL (zF (zG 0 rfl) (zF (esc (zJ 0)) zM))) (zJ 64)) (zJ 20))))) (λnO=>(zY (λs8:Int=>([.z q0,.y s8,.un,.un,.un]:SL K)) nO bB))) (zY (λs8:Int=>([.z q0,.y s8,.un,.un,.un]:SL K)) many1 bB)) (λs7=>(zN (yG true 2 rfl rfl (esc (vY (zJ 1) (yX (zL (zF (zG 0 rfl) (zF (esc (zJ 1)) zM))) (zE 1 rfl))))) (λcZ=>(zN (sy true 3 rfl rfl (qP (α:=Int))) (λo_=>(zN (vU (n:=true) (L:=(λjN:LI=>([.z q0,.y s7,.y cZ,.ow true jN,.un]:SL K))) o_ bB (xY (zE 1 rfl)) (λjN=>(yL 4 rfl rfl)) (λjN qX=>(zO (xI 3 rfl rfl (esc (Xc (zE 4 rfl) (vY (yX (zL (zF (esc (zL (zF (zG 0 rfl) (zF (esc (zJ 1)) zM)))) (zF (esc (zE 4 rfl)) zM))) (zE 2 rfl)) (RB (zE 2 rfl) (zm (sJ (zE 4 rfl) (zE 2 rfl)))))))) (λpA=>(zY (λjN:LI=>([.z q0,.y s7,.y cZ,.ow true jN,.un]:SL K)) pA bB))))) (λo9=>(Xk (sl2:=[.z q0,.y s7,.y cZ,.y o9,.un]) bB (yK (wW (xC 3 rfl) (zE 2 rfl)))))))))))))) (by unfold uJ;simp only[bnd])
def wO(q0:lJ):Option (qU (List LI) (List (Str×LI)) (List LI)):=((((zS q0 (0:Int)).bind λa1=>bF a1 (512:Int)).bind λa2=>aQ a2 (8:Int)).bind λa3=>some (decide (a3=(3:Int)))).bind λb=>if b=true then(((zS q0 (1:Int)).bind λa5=>aQ a5 (29:Int)).bind λb6=>some ((12:Int)+b6)).bind λnQ=>((wF nQ).bind λxs=>xG (λ(x8:Int)=>some true) (λ(x8:Int)=>some ([min (x8+(1:Int)) (nQ-(1:Int))])) xs).bind λtR=>(((((zS q0 (5:Int)).bind λa10=>some ((a10,((0:Int),())))).bind λz9=>xU z9.1 z9.2.1).bind λa11=>some ((a11,[nQ-(1:Int)]))).bind λa12=>some (a12::([]))).bind λa13=>some (qU.mk tR a13 (([]:List LI))) else(uJ q0).bind λnU=>(vN q0 nU.1 nU.2).bind λeN=>(some (([]:List (Str×LI)))).bind λmQ=>((((zS q0 (4:Int)).bind λa20=>aQ a20 (4:Int)).bind λa21=>wF a21).bind λxs=>xR (λ(jN:List (Str×LI)) (qX:Int)=>(((((zS q0 (5:Int)).bind λa24=>some ((a24,(qX,())))).bind λZ6=>xU Z6.1 Z6.2.1).bind λa27=>(((zS q0 (4:Int)).bind λa26=>some ((a26,(qX,(nU.1,(nU.2,())))))).bind λPy=>vG Py.1 Py.2.1 Py.2.2.1 Py.2.2.2.1).bind λb28=>some (a27,b28)).bind λa29=>push jN a29).bind λmR=>some mR) xs mQ).bind λo9=>(some (([]:List LI))).bind λpB=>(((((zS q0 (5:Int)).bind λa34=>bF a34 (5:Int)).bind λa35=>aQ a35 (4:Int)).bind λa36=>wF a36).bind λxs=>xR (λ(Hh:List LI) (x33:Int)=>((((zS q0 (5:Int)).bind λa39=>some ((a39,((9:Int)+x33,(nU.1,(nU.2,())))))).bind λPz=>vG Pz.1 Pz.2.1 Pz.2.2.1 Pz.2.2.2.1).bind λa40=>push Hh a40).bind λpC=>some pC) xs pB).bind λUu=>some (qU.mk eN o9 Uu)
theorem iw:ao ["_law_script","_law_many","_law_steps","_law_maps","_law_bases","_law_marks","_law_k","_law_fair"] ["_law_script"] (zI d_):=fsc
abbrev Z7(K:PySem.W.Frag):Sp:=cu K false (λa:lJ×Unit=>([.z a.1]:SL K)) (λa=>wO a.1)
theorem zFs(F:bR K "_law_parts_by" "_law_parts_by" d_ f fd)(B:Bl K mg)(tQ:mg "min" = none)(aq:bO P w K mg base k "_law_cell_at" ["_law_script","_law_k"] (Pu K))(gF:bO P w K mg base k "_law_maps_by" ["_law_script"] (Z5 K))(c7:bO P w K mg base k "_law_name_by" ["_law_cell","_law_k"] (ZS K))(dg:bO P w K mg base k "_law_sets_by" ["_law_cell","_law_k","_law_maps","_law_bases"] (Z2 K))(eO:bO P w K mg base k "_law_steps_by" ["_law_script","_law_maps","_law_bases"] (Z1 K)):aB P w K mg base bH (k+1) f fd ["_law_script"] (Z7 K):=by
 refine yQ F iw (λ_=>rfl) (λ_=>rfl) λcdv A outer s H E hr=>?_
 have nd:=iw.nd
 refine⟨_,(zC (vL (yA (qQ K Int hr) (zX yW (zX yY (zU aq hr (zA (pv 0) (zA zK zD))) zK) zK) zK (yZ _)) (zC (yO 1 nd (zX vX zK (zX yW (zU aq hr (zA (pv 0) (zA zK zD))) zK))) (zC (Ce (i:=2) (own:=["_law_k"]) (ix:=[1]) nd rfl rfl rfl rfl rfl (yU rfl B.range (zA (pv 1) zD)) (λC s H fp=>yI (i:=0) (show(["_law_k","_law_many"]:List Str).Nodup from by decide +kernel) rfl (Or.inl rfl)) (λC s H fp=>wD) (λC s H fp=>(xT (zA (zT (VG rfl) rfl tQ Xi (zA (zX vX (pv 0) zK) (zA (zX QB (pv 1) zK) zD))) zD)))) (zC (yE (vV (zA (pv 2) (zA (xT (zA (vV (zA (zU c7 hr (zA (zU aq hr (zA (pv 0) (zA zK zD))) (zA zK zD))) (zA (xT (zA (zX QB (pv 1) zK) zD)) zD))) zD)) (zA (xT zD) zD))))) zH))) zH) (zC (Vw (zU gF hr (zA (pv 0) zD)) (uz rfl (yB (bT 3 nd) (yB (bT 4 nd) vC)))) (zC (yO 2 nd (zU eO hr (zA (pv 0) (zA (pv 3) (zA (pv 4) zD))))) (zC (yO 5 nd (xT zD)) (zC (wB PassesOwn.never rfl (yU rfl B.range (zA (zX yW (zU aq hr (zA (pv 0) (zA zK zD))) zK) zD)) (bT 6 nd) (zC (yN (oK K PySem.F.plainAttrs_list PySem.F.slot_list_append PySem.F.type_list_append yP (pv 5) (zA (vV (zA (zU c7 hr (zA (zU aq hr (zA (pv 0) (zA zK zD))) (zA (pv 6) zD))) (zA (zU dg hr (zA (zU aq hr (zA (pv 0) (zA zK zD))) (zA (pv 6) (zA (pv 3) (zA (pv 4) zD))))) zD))) zD))) zH)) (zC (yO 7 nd (xT zD)) (zC (wB PassesOwn.never rfl (yU rfl B.range (zA (zX yW (zX yY (zU aq hr (zA (pv 0) (zA zK zD))) zK) zK) zD)) (bT 6 nd) (zC (yN (oK K PySem.F.plainAttrs_list PySem.F.slot_list_append PySem.F.type_list_append yP (pv 7) (zA (zU dg hr (zA (zU aq hr (zA (pv 0) (zA zK zD))) (zA (zX vX zK (pv 6)) (zA (pv 3) (zA (pv 4) zD))))) zD))) zH)) (zC (yE (vV (zA (pv 2) (zA (pv 5) (zA (pv 7) zD))))) zH)))))))),?_⟩
 rintro Fa ⟨q0,⟨⟩⟩
 exact SB.of (Cp (yD (md:=.hp) (qR (yX (wQ (zL (zF (zG 0 rfl) (zF (esc (zJ 0)) zM))) (zJ 512)) (zJ 8)) (zJ 3))) (zN (yG true 1 rfl rfl (esc (vY (zJ 12) (yX (zL (zF (zG 0 rfl) (zF (esc (zJ 1)) zM))) (zJ 29))))) (λnQ=>(zN (yG true 2 rfl rfl (xN (n:=true) (jK:=[.un,.y nQ]) (no:=1) (ix:=[1]) rfl rfl (xY (zE 1 rfl)) (yL 0 rfl rfl) (λx8=>qd) (λx8=>(Cj (xO (esc (Xc (vY (zE 0 rfl) (zJ 1)) (Ry (zE 1 rfl) (zJ 1)))) Ci) (λa h=>Nat.le_trans ((vA Cw) a h) (by decide))).ex) (λx8=>fP)).ex) (λtR=>(yK (YG (xC 2 rfl) (Cj (xO (wW (zL (zF (esc (zL (zF (zG 0 rfl) (zF (esc (zJ 5)) zM)))) (zF (esc (zJ 0)) zM))) (Cj (xO (esc (Ry (zE 1 rfl) (zJ 1))) Ci) (λa h=>Nat.le_trans ((vA Cw) a h) (by decide))).ex) Ci) (λa h=>Nat.le_trans ((vA Cw) a h) (by decide))).ex (qP (α:=LI)).ex)))))) (zN (Ad (n:=true) (zL (zF (zG 0 rfl) zM)) (sE 3 4 rfl rfl (λ_=>rfl) rfl)) (λnU=>(zN (yG true 2 rfl rfl (zL (zF (zG 0 rfl) (zF (zG 3 rfl) (zF (esc (zE 4 rfl)) zM))))) (λeN=>(zN (sy true 5 rfl rfl (qP (α:=Str×LI))) (λmQ=>(zN (vU (n:=true) (L:=(λjN:List (Str×LI)=>([.z q0,.un,.y eN,.y nU.1,.y nU.2,.ow true jN,.un,.un]:SL K))) mQ bB (xY (yX (zL (zF (zG 0 rfl) (zF (esc (zJ 4)) zM))) (zJ 4))) (λjN=>(yL 6 rfl rfl)) (λjN qX=>(zO (xI 5 rfl rfl (wW (zL (zF (esc (zL (zF (zG 0 rfl) (zF (esc (zJ 5)) zM)))) (zF (esc (zE 6 rfl)) zM))) (zL (zF (esc (zL (zF (zG 0 rfl) (zF (esc (zJ 4)) zM)))) (zF (esc (zE 6 rfl)) (zF (zG 3 rfl) (zF (esc (zE 4 rfl)) zM))))))) (λmR=>(zY (λjN:List (Str×LI)=>([.z q0,.un,.y eN,.y nU.1,.y nU.2,.ow true jN,.un,.un]:SL K)) mR bB))))) (λo9=>(zN (sy true 7 rfl rfl (qP (α:=LI))) (λpB=>(zN (vU (n:=true) (L:=(λHh:List LI=>([.z q0,.un,.y eN,.y nU.1,.y nU.2,.ow true o9,.un,.ow true Hh]:SL K))) pB bB (xY (yX (wQ (zL (zF (zG 0 rfl) (zF (esc (zJ 5)) zM))) (zJ 5)) (zJ 4))) (λHh=>(yL 6 rfl rfl)) (λHh x33=>(zO (xI 7 rfl rfl (zL (zF (esc (zL (zF (zG 0 rfl) (zF (esc (zJ 5)) zM)))) (zF (esc (vY (zJ 9) (zE 6 rfl))) (zF (zG 3 rfl) (zF (esc (zE 4 rfl)) zM)))))) (λpC=>(zY (λHh:List LI=>([.z q0,.un,.y eN,.y nU.1,.y nU.2,.ow true o9,.un,.ow true Hh]:SL K)) pC bB))))) (λUu=>(Xk (sl2:=[.z q0,.un,.y eN,.y nU.1,.y nU.2,.y o9,.un,.y Uu]) bB (yK (YG (xC 2 rfl) (xC 5 rfl) (xC 7 rfl))))))))))))))))) (by unfold wO;simp only[bnd])
def uK(C:Addr)(q0:qU (List LI) (List (Str×LI)) (List LI)):Option (aF C):=(some q0).bind λv1=>((some v1.b).bind λxs=>xG (λ(x3:Str×LI)=>some true) (λ(x3:Str×LI)=>some (x3.1,x3.2)) xs).bind λDk=>((some v1.a).bind λxs=>xG (λ(x4:LI)=>some true) (λ(x4:LI)=>some x4) xs).bind λa6=>((some v1.c).bind λxs=>xG (λ(x5:LI)=>some true) (λ(x5:LI)=>some x5) xs).bind λa7=>G9 C a6 (some Dk) (some a7)
theorem jg:ao ["_law_parts","_law_steps","_law_marks","_law_fair","_law_some"] ["_law_parts"] (zI fY):=fsc
abbrev Z8(K:PySem.W.Frag)(C:Addr):Sp:=cu K false (λa:((qU (List LI) (List (Str×LI)) (List LI)))×Unit=>([.z a.1]:SL K)) (λa=>uK C a.1)
theorem zHb(F:bR K "_law_machine" "_law_machine" fY f fd)(B:Bl K mg)(T:Cl K mg C)(MK:Mk K C fI)(GI:aB P w K mg base bH k0 fI Jp ["self","steps","marks","fair"] (I8 K C (G9 C)))(Jq:Binds K Jp ["self","steps","marks","fair"] []):aB P w K mg base bH ((k0+1)+1) f fd ["_law_parts"] (Z8 K C):=by
 refine yQ F jg (λ_=>rfl) (λ_=>rfl) λcdv A outer s H E hr=>?_
 have nd:=jg.nd
 refine⟨_,(zC (Vw (pv 0) (uz rfl (yB (bT 1 nd) (yB (bT 2 nd) (yB (bT 3 nd) vC))))) (zC (Ce (i:=4) (own:=["_law_name","_law_stands"]) (ix:=[]) nd rfl rfl rfl rfl rfl (xB K (pv 2)) (λC s H fp=>Ka (K:=K) (n:=2) rfl rfl (yB (yI (i:=0) (show(["_law_name","_law_stands"]:List Str).Nodup from by decide +kernel) rfl (Or.inl rfl)) (yB (yI (i:=1) (show(["_law_name","_law_stands"]:List Str).Nodup from by decide +kernel) rfl (Or.inl rfl)) vC))) (λC s H fp=>wD) (λC s H fp=>(vV (zA (pv 0) (zA (wR (Ky K) rfl B.list Kr (zA (pv 1) zD)) zD))))) (zC (yE (VP MK GI hr rfl T.Zk Jq .nil J3 (zA (vD (own:=["_law_stands"]) (ix:=[]) rfl rfl rfl (xB K (pv 1)) (λC s H fp=>yI (i:=0) (show(["_law_stands"]:List Str).Nodup from by decide +kernel) rfl (Or.inl rfl)) (λC s H fp=>wD) (λC s H fp=>(wR (Ky K) rfl B.list Kr (zA (pv 0) zD)))) (zA (pv 4) (zA (vD (own:=["_law_stands"]) (ix:=[]) rfl rfl rfl (xB K (pv 3)) (λC s H fp=>yI (i:=0) (show(["_law_stands"]:List Str).Nodup from by decide +kernel) rfl (Or.inl rfl)) (λC s H fp=>wD) (λC s H fp=>(wR (Ky K) rfl B.list Kr (zA (pv 0) zD)))) zD))))) zH))),?_⟩
 rintro Fa ⟨q0,⟨⟩⟩
 exact SB.of (zN (Gy (n:=false) (xC 0 rfl) (Ak 1 2 3 rfl rfl (λ_=>rfl) rfl (λ_ _=>rfl) rfl)) (λv1=>(zN (yG true 4 rfl rfl (xN (n:=false) (jK:=[.un,.un]) (no:=2) (ix:=[]) rfl rfl (xP (xC 2 rfl)) (sE 0 1 rfl rfl (λ_=>rfl) rfl) (λx3=>qd) (λx3=>(wW (zE 0 rfl) (Kl (zG 1 rfl)).ex)) (λx3=>fP)).ex) (λDk=>(yK (Xy (xN (n:=false) (jK:=[.un]) (no:=1) (ix:=[]) rfl rfl (xP (xC 1 rfl)) (yL 0 rfl rfl) (λx4=>qd) (λx4=>(Kl (zG 0 rfl)).ex) (λx4=>fP)).ex (zG 4 rfl) (xN (n:=false) (jK:=[.un]) (no:=1) (ix:=[]) rfl rfl (xP (xC 3 rfl)) (yL 0 rfl rfl) (λx5=>qd) (λx5=>(Kl (zG 0 rfl)).ex) (λx5=>fP)).ex).ex))))) (by unfold uK;simp only[bnd])
end
end Ts
set_option maxHeartbeats 40000000
namespace Ts
open PySem L2
section
variable{P:Program}{w:World}{K:PySem.W.Frag}{mg:Str->Option Value}{base:Heap}
def Mv(C:Addr)(q0:lJ):Option Bool:=(((wO q0).bind λa3=>some ((a3,()))).bind λz2=>uK C z2.1).bind λaG=>(Jo C aG).bind λcJ=>(xM cJ).bind λfu=>((((vO aG).bind λa6=>some (a6.length:Int)).bind λb7=>some (!decide (fu=b7))).bind λc11=>if c11=true then some true else(vO cJ).bind λa9=>((wF fu).bind λxs=>xG (λ(x8:Int)=>some true) (λ(x8:Int)=>some ([x8])) xs).bind λb10=>some (!decide (a9=b10))).bind λb=>if b=true then some false else(Jo C cJ).bind λtwice12=>(if(!decide (twice12.steps=cJ.steps))=true then some true else if(!decide (twice12.marks=cJ.marks))=true then some true else some (!decide (twice12.fair=cJ.fair))).bind λb=>if b=true then some false else(Mq cJ).bind λcV=>((wF fu).bind λxs=>uB (λ(PB:Unit) (Mw:Int)=>((wF fu).bind λxs=>uB (λ(jN:Unit) (qX:Int)=>((((aV cV Mw).bind λa20=>aV a20 qX).bind λa21=>some a21.isNone).bind λa22=>some (!decide (a22=(decide (Mw=qX))))).bind λb=>if b=true then(some false).bind λb=>some (.rt b) else some (.nx ())) xs ()).bind λo=>o.aO λo9=>some (.nx ())) xs ()).bind λo=>o.els λs15=>some true
theorem tU:ao ["_law_script","_law_machine_here","_law_once","_law_many","_law_twice","_law_parted","_law_one","_law_other"] ["_law_script"] (zI lN):=fsc
abbrev Mx(K:PySem.W.Frag)(C:Addr):Sp:=cu K false (λa:lJ×Unit=>([.z a.1]:SL K)) (λa=>Mv C a.1)
theorem Hj(F:bR K "law" "law" lN f fd)(B:Bl K mg)(T:Cl K mg C)(aX:fK P w K mg base k C "many" ["self"] (uY K C))(gG:bO P w K mg base k "_law_machine" ["_law_parts"] (Z8 K C))(eU:bO P w K mg base k "_law_parts_by" ["_law_script"] (Z7 K))(gM:bO P w K mg base k "classes" ["machine"] (ZF K C))(jh:bO P w K mg base k "folded" ["machine"] (ZG K C))(iG:bO P w K mg base k "partings" ["machine"] (ZR K C)):aB P w K mg base bH (k+1) f fd ["_law_script"] (Mx K C):=by
 refine yQ F tU (λ_=>rfl) (λ_=>rfl) λcdv A outer s H E hr=>?_
 have nd:=tU.nd
 refine⟨_,(zC (yO 1 nd (zU gG hr (zA (zU eU hr (zA (pv 0) zD)) zD))) (zC (yO 2 nd (zU jh hr (zA (pv 1) zD))) (zC (yO 3 nd (Xl aX hr (pv 2))) (zC (vL (PW.pt (pw_or (yA (Cq K Int hr) (pv 3) (zT (wI K) rfl B.len PySem.boot_len (zA (zU gM hr (zA (pv 1) zD)) zD)) (yZ _)) (pw_or1 (yA (Cq K (List LI) hr) (zU gM hr (zA (pv 2) zD)) (vD (own:=["_law_k"]) (ix:=[]) rfl rfl rfl (yU rfl B.range (zA (pv 3) zD)) (λC s H fp=>yI (i:=0) (show(["_law_k"]:List Str).Nodup from by decide +kernel) rfl (Or.inl rfl)) (λC s H fp=>wD) (λC s H fp=>(xT (zA (pv 0) zD)))) (yZ _))))) (zC (yE DP) zH) zH) (zC (yO 4 nd (zU jh hr (zA (pv 2) zD))) (zC (vL (PW.pt (pw_or (yA (Cq K (List LI) hr) (qT K (pv 4)) (qT K (pv 2)) (yZ _)) (pw_or (yA (Cq K (List (Str×LI)) hr) (qT K (pv 4)) (qT K (pv 2)) (yZ _)) (pw_or1 (yA (Cq K (List LI) hr) (qT K (pv 4)) (qT K (pv 2)) (yZ _)))))) (zC (yE DP) zH) zH) (zC (yO 5 nd (zU iG hr (zA (pv 2) zD))) (zC (wB PassesOwn.never rfl (yU rfl B.range (zA (pv 3) zD)) (bT 6 nd) (zC (wB PassesOwn.never rfl (yU rfl B.range (zA (pv 3) zD)) (bT 7 nd) (zC (vL (yA (Cq K Bool hr) (DW (Qs (wG (bL K) (wG (bL K) (pv 5) (pv 6) (λ_ _=>rfl)) (pv 7) (λ_ _=>rfl)))) (QF (qQ K Int hr) (pv 6) (pv 7) (yZ _)) (yZ _)) (zC (yE DP) zH) zH) zH)) zH)) (zC (yE DP) zH))))))))),?_⟩
 rintro Fa ⟨q0,⟨⟩⟩
 exact SB.of (zN (yG true 1 rfl rfl (zL (zF (zL (zF (zG 0 rfl) zM)) zM))) (λaG=>(Lp [.z q0,.y aG,.un,.un,.un,.un,.un,.un] (zN (yG true 2 rfl rfl (zL (zF (zG 1 rfl) zM))) (λcJ=>(Lp [.z q0,.y aG,.y cJ,.un,.un,.un,.un,.un] (zN (yG true 3 rfl rfl (esc (yq (by decide +kernel) (zG 2 rfl) zM))) (λfu=>(Lp [.z q0,.y aG,.y cJ,.y fu,.un,.un,.un,.un] (Cp (Kd (yD (md:=.hp) (Cr (zE 3 rfl) (wP (zL (zF (zG 1 rfl) zM))))) (yD (md:=.hp) (Cr (zL (zF (zG 2 rfl) zM)) (xN (n:=true) (jK:=[.un]) (no:=1) (ix:=[]) rfl rfl (xY (zE 3 rfl)) (yL 0 rfl rfl) (λx8=>qd) (λx8=>(Cj (xO (esc (zE 0 rfl)) Ci) (λa h=>Nat.le_trans ((vA Cw) a h) (by decide))).ex) (λx8=>fP)).ex))) (yK (esc (E_ false))) (zN (yG true 4 rfl rfl (zL (zF (zG 2 rfl) zM))) (λtwice12=>(Lp [.z q0,.y aG,.y cJ,.y fu,.y twice12,.un,.un,.un] (Cp (Kd (yD (md:=.hp) (Cr (Ou T.cl T.nS (zG 4 rfl)) (Ou T.cl T.nS (zG 2 rfl)))) (Kd (yD (md:=.hp) (Cr (Ov T.cl T.nM (zG 4 rfl)) (Ov T.cl T.nM (zG 2 rfl)))) (yD (md:=.hp) (Cr (Ow T.cl T.nF (zG 4 rfl)) (Ow T.cl T.nF (zG 2 rfl)))))) (yK (esc (E_ false))) (zN (yG true 5 rfl rfl (zL (zF (zG 2 rfl) zM))) (λcV=>(Lp [.z q0,.y aG,.y cJ,.y fu,.y twice12,.y cV,.un,.un] (W6 (Rr (n:=true) (L:=(λPB:Unit=>([.z q0,.y aG,.y cJ,.y fu,.y twice12,.y cV,.un,.un]:SL K))) () bB (xY (zE 3 rfl)) (λPB=>(yL 6 rfl rfl)) (λPB Mw=>(zP2 (Rr (n:=true) (L:=(λjN:Unit=>([.z q0,.y aG,.y cJ,.y fu,.y twice12,.y cV,.y Mw,.un]:SL K))) () bB (xY (zE 3 rfl)) (λjN=>(yL 7 rfl rfl)) (λjN qX=>(W7 (yD (md:=.hp) (Cr (RG (wY (wY (zG 5 rfl) (zE 6 rfl)) (zE 7 rfl))) (qR (zE 6 rfl) (zE 7 rfl)))) (yK (esc (E_ false))) (Ro (λjN:Unit=>([.z q0,.y aG,.y cJ,.y fu,.y twice12,.y cV,.y Mw,.un]:SL K)) () bB)))) (λo9=>(Ro (λPB:Unit=>([.z q0,.y aG,.y cJ,.y fu,.y twice12,.y cV,.un,.un]:SL K)) () bB))))) (λs15=>(yK (esc (E_ true)))))))))))))))))))))) (by unfold Mv;simp only[bnd])
end
structure Gr{C:Addr}(m:aF C)(n:Int):Prop where
 len:(m.steps.length:Int)=n
 pos:1<=n
 few:n<=60
 row:∀xs∈m.steps,xs≠[]/\xs.Nodup/\∀z∈xs,0<=z/\z<n
 src:m.sources=srcs m.steps
def nxt(xss:List LI)(s:Int):LI:=xss.getD s.toNat []
theorem Z9{C:Addr}{m:aF C}(g:Gr m n):xM m=some n:=by
 unfold xM
 rw[g.len]
theorem Bf:W (dput kvs k v) Q↔kvs.length<cap/\Q (pK kvs (Sum.inl k) v):=by
 unfold dput
 rw[oM]
 constructor
 ·intro⟨h1,h2⟩
  by_cases h:kvs.length<cap
  ·exact⟨h,aj.mp (h1 h)⟩
  ·exact absurd (h2 h) (by rw[uc];exact id)
 ·intro⟨h,q⟩
  exact⟨λ_=>aj.mpr q,λz=>absurd h z⟩
theorem zRq:W (KY kvs k v) Q↔kvs.length<cap/\Q (pK kvs (Sum.inr k) v):=by
 unfold KY
 rw[oM]
 constructor
 ·intro⟨h1,h2⟩
  by_cases h:kvs.length<cap
  ·exact⟨h,aj.mp (h1 h)⟩
  ·exact absurd (h2 h) (by rw[uc];exact id)
 ·intro⟨h,q⟩
  exact⟨λ_=>aj.mpr q,λz=>absurd h z⟩
def pD(n:Int)(xs:LI):Prop:=xs.Nodup/\xs.length<=100/\∀z∈xs,0<=z/\z<n
theorem zL8(h:0<=z/\z<n):Mj z n=some true:=by
 unfold Mj
 rw[if_pos rfl,if_pos (show(!false)=true from rfl),decide_eq_true h.1,if_pos rfl,decide_eq_true h.2]
theorem Uv(h:pD n xs)(x:Str):W (yV xs n x) λ_=>True:=by
 unfold yV
 rw[zB,aj,zB,zB,aj]
 refine uQ (λi s=>s.length<=i/\∀z,(mz s z).isSome=true->z∈xs.take i) ⟨Nat.zero_le _,λz hz=>by cases hz⟩ (λi y s hi hI=>?_) λs _=>aj.mpr trivial
 have il:=yC hi
 rw[zL8 (h.2.2 y (mem_of_getElem? hi)),zB,zB,zB,aj,aj,Bool.not_true,if_neg (by decide),aj,zB]
 have hn:(mz s y).isSome=false:=by
  cases q:(mz s y).isSome with
  |false=>rfl
  |true=>exact absurd (hI.2 y q) (RM h.1 hi)
 have hn':(mz (Dc.mk s).kv y).isSome=false:=hn
 rw[hn',if_neg (by decide),aj,zB,Bf]
 have l1:=h.2.1
 refine⟨yR (by omega),?_⟩
 rw[aj]
 have l2:=Xu s (Sum.inl y) true
 refine⟨by omega,λz hz=>?_⟩
 rw[uA hi]
 have e:mz (pK s (Sum.inl y) true) z=if(Sum.inl z:Key)=Sum.inl y then some true else mz s z:=Xr s (Sum.inl y) (Sum.inl z) true
 rw[e] at hz
 by_cases q:(Sum.inl z:Key)=Sum.inl y
 ·exact .inr (Sum.inl.inj q)
 ·rw[if_neg q] at hz
  exact .inl (hI.2 z hz)
theorem Dl(a:Str){i:Nat}(h:i<1000):W (Gf a (i:Int)) λ_=>True:=by
 unfold Gf
 rw[if_pos (zN7 (by omega)),aj]
 trivial
theorem zKy{xss:List LI}(hl:(xss.length:Int)=n)(h0:1<=n)(h1:n<=60)(h:∀xs∈xss,xs≠[]/\pD n xs):W (wU xss) λ_=>True:=by
 unfold wU
 rw[zB,aj,zB,zB,hl,decide_eq_false (by omega),if_neg (by decide),aj,decide_eq_false (by omega),if_neg (by decide),aj,zB,zB,aj]
 refine uQ (λ_ _=>True) trivial (λi y s hi _=>?_) λs _=>aj.mpr trivial
 obtain⟨e1,e2⟩:=vJ hi
 have il:=yC e2
 obtain⟨ne,ok⟩:=h y.2 (mem_of_getElem? e2)
 rw[e1]
 simp only[zB]
 refine(Dl "steps of stand " (i:=i) (by omega)).imp λt _=>?_
 rw[aj,aj,aj]
 refine(Uv ok t).imp λ_ _=>?_
 rw[decide_eq_false (λz=>ne (length_eq_zero_iff.mp (by omega))),if_neg (by decide),aj,aj]
 trivial
theorem zMa{xss:List LI}(hl:xss.length<=100)(h:∀xs∈xss,pD n xs):W (vP xss n) λ_=>True:=by
 unfold vP
 rw[zB,zB,aj]
 refine uQ (λ_ _=>True) trivial (λi y s hi _=>?_) λs _=>aj.mpr trivial
 obtain⟨e1,e2⟩:=vJ hi
 have il:=yC e2
 rw[e1]
 simp only[zB]
 refine(Dl "fair set " (i:=i) (by omega)).imp λt _=>?_
 rw[aj,aj,aj]
 refine(Uv (h y.2 (mem_of_getElem? e2)) t).imp λ_ _=>?_
 rw[aj]
 trivial
def uZ(n:Int)(ms:List (Str×LI)):Prop:=(ms.map (·.1)).Nodup/\ms.length<=100/\∀m∈ms,uL m.1=some true/\m.1.length<=1000/\pD n m.2
theorem zKz(h:uZ n ms):W (wV ms n) λ_=>True:=by
 unfold wV
 rw[zB,aj,zB,zB,aj]
 refine uQ (λi s=>s.length<=i/\∀z,(CN s z).isSome=true->z∈(ms.map (·.1)).take i) ⟨Nat.zero_le _,λz hz=>by cases hz⟩ (λi y s hi hI=>?_) λs _=>aj.mpr trivial
 have il:=yC hi
 have hi':(ms.map (·.1))[i]?=some y.1:=by rw[getElem?_map,hi];rfl
 obtain⟨nm,ln,ok⟩:=h.2.2 y (mem_of_getElem? hi)
 have nin:y.1∉(ms.map (·.1)).take i:=λhz=>by
  obtain⟨j,hj⟩:=mem_iff_getElem?.mp hz
  have hji:j<i:=by
   have:=yC hj
   rw[length_take] at this
   omega
  rw[getElem?_take_of_lt hji] at hj
  have a1:=yC hi'
  have a2:=yC hj
  rw[List.getElem?_eq_getElem a1] at hi'
  rw[List.getElem?_eq_getElem a2] at hj
  have e:(ms.map (·.1))[j]=(ms.map (·.1))[i]:=(Option.some.inj hj).trans (Option.some.inj hi').symm
  have:=(getElem_inj h.1).mp e
  omega
 rw[nm,zB,zB,zB,aj,aj,Bool.not_true,if_neg (by decide),aj,zB]
 have hn:(CN (Dc.mk s).kv y.1).isSome=false:=by
  cases q:(CN s y.1).isSome with
  |false=>rfl
  |true=>exact absurd (hI.2 y.1 q) nin
 rw[hn,if_neg (by decide),aj,zB,zRq]
 have l1:=h.2.1
 refine⟨yR (by omega),?_⟩
 simp only[zB]
 have fs:W (IW "mark " y.1) λ_=>True:=by
  unfold IW
  rw[if_pos ln,aj]
  trivial
 refine fs.imp λt _=>?_
 rw[aj,aj,aj]
 refine(Uv ok t).imp λ_ _=>?_
 rw[aj]
 have l2:=Xu s (Sum.inr y.1) true
 refine⟨by omega,λz hz=>?_⟩
 rw[uA hi']
 have e:CN (pK s (Sum.inr y.1) true) z=if(Sum.inr z:Key)=Sum.inr y.1 then some true else CN s z:=Xr s (Sum.inr y.1) (Sum.inr z) true
 rw[e] at hz
 by_cases q:(Sum.inr z:Key)=Sum.inr y.1
 ·exact .inr (Sum.inr.inj q)
 ·rw[if_neg q] at hz
  exact .inl (hI.2 z hz)
theorem Z_{xss:List LI}(h:xss.length<=100):Jm xss=some xss:=by
 have q:W (Jm xss) (· = xss):=by
  unfold Jm
  rw[zB,aj,FQ (λx=>x),map_id']
  exact⟨yR (by omega),rfl⟩
 obtain⟨a,e,rfl⟩:=q
 exact e
theorem Dm(C:Addr){xss:List LI}{mo:Option ug}{fo:Option LLI}(hl:(xss.length:Int)=n)(h0:1<=n)(h1:n<=60)(h:∀xs∈xss,xs≠[]/\pD n xs)(hm:uZ n (mo.getD []))(hf:(fo.getD []).length<=100/\∀xs∈fo.getD [],pD n xs) :
  W (G9 C xss mo fo) λm=>Gr m n/\m.steps=xss/\m.marks=mo.getD []/\m.fair=fo.getD []:=by
 unfold G9 OJ
 rw[zB]
 refine(zKy hl h0 h1 h).imp λ_ _=>?_
 rw[zB,hl]
 refine(zKz hm).imp λ_ _=>?_
 rw[zB]
 refine(zMa hf.1 hf.2).imp λ_ _=>?_
 have m1:=hm.2.1
 rw[Z_ (by omega),zB,aj,zB,FQ (λx:Str×LI=>(x.1,x.2))]
 refine⟨yR (by omega),?_⟩
 have e:(mo.getD []).map (λx:Str×LI=>(x.1,x.2))=mo.getD []:=map_id' _
 rw[Z_ hf.1,zB,aj,zB]
 have hv:Jl xss=some (srcs xss):=by
  unfold Jl
  rw[if_pos ⟨by omega,rfl,λxs hx=>by obtain⟨a,b,c,d⟩:=h xs hx;exact⟨a,b,c,λz hz=>by have:=d z hz;omega⟩⟩]
 rw[hv,aj,aj,e]
 exact⟨⟨hl,h0,h1,λxs hx=>by obtain⟨a,b,c,d⟩:=h xs hx;exact⟨a,b,d⟩,rfl⟩,rfl,rfl,rfl⟩
theorem Mz(h:iJ n xs)(Pq:n<=60):pD n xs:=⟨h.nodup,by
 by_cases hn:0<=n
 ·have:=FT (n:=n.toNat) h.nodup λx hx=>by have:=h.2 x hx;omega
  omega
 ·cases xs with
  |nil=>exact Nat.zero_le _
  |cons x xs=>have:=h.2 x mem_cons_self;omega,h.2⟩
theorem lD{α:Type}{m:Option α}{a:α}(h:W m (· = a)):m=some a:=by obtain⟨b,e,rfl⟩:=h;exact e
theorem Hl:W (Iz ns) Q↔ns.length<64/\Q (n_ ns):=by
 unfold Iz
 split
 ·rename_i h;rw[aj];exact⟨λq=>⟨h,q⟩,λq=>q.2⟩
 ·rename_i h;rw[uc];exact⟨False.elim,λq=>h q.1⟩
def resv:List Str:=["all","not","both","either","somenext","eachnext","sometill","eachtill","someever","eachever"]
theorem Bg:∀i,i<26->(("abcdefghijklmnopqrstuvwxyz":Str).cps)[i]?=some (97+i):=by decide +kernel
theorem Bh:∀i,i<26->KQ ⟨#[97+i]⟩ ("abcdefghijklmnopqrstuvwxyz":Str)=true:=by decide +kernel
theorem zRo:("abcdefghijklmnopqrstuvwxyz":Str).length=26:=by decide +kernel
theorem zJ7(x:Int):Ah ("abcdefghijklmnopqrstuvwxyz":Str) (x%26)=some ⟨#[97+(x%26).toNat]⟩:=by
 have h0:0<=x%26/\x%26<26:=by omega
 unfold Ah
 rw[if_pos ⟨h0.1,by omega,by rw[zRo];exact h0.2⟩,Bg _ (by omega)]
 rfl
theorem Bj(a b:Str):(a++b).cps=a.cps++b.cps:=by
 first
  |rfl
  | (show(Str.append a b).cps=_;unfold Str.append;rfl)
def dR(l:List Nat):Str:=⟨l.toArray⟩
theorem Ho{x:Str}(h:x.cps.toList=l):x=dR l:=by
 obtain⟨c⟩:=x
 have h:c.toList=l:=h
 unfold dR
 rw[<-h]
theorem Bk(a b:List Nat):dR a++dR b=dR (a++b):=Ho (by rw[Bj];unfold dR;simp)
theorem PJ(l:List Nat):(dR l).length=l.length:=by
 show l.toArray.size=_
 rw[size_toArray]
theorem zNx(h:dR a=dR b):a=b:=by
 have h:a.toArray=b.toArray:=congrArg Str.cps h
 have:=congrArg Array.toList h
 simpa using this
theorem PK{α β:Type}{c:α->Option Bool}{f:α->Option β}{g:α->β}:∀{xs:List α},(∀x∈xs,c x=some true)->(∀x∈xs,f x=some (g x))->xL c f xs=some (xs.map g)
 |[],_,_=>rfl
 |x::xs,hc,hf=>by
  have ih:=PK (λy hy=>hc y (mem_cons_of_mem _ hy)) (λy hy=>hf y (mem_cons_of_mem _ hy))
  show(c x).bind _=_
  rw[hc x mem_cons_self]
  show(f x).bind _=_
  rw[hf x mem_cons_self]
  show(xL c f xs).bind _=_
  rw[ih]
  rfl
theorem zOh{l:List Nat}(h1:1<=l.length)(h8:l.length<=8)(hl:∀x∈l,∃i,i<26/\x=97+i)(hr:dR l∉resv):uL (dR l)=some true:=by
 have ln:=PJ l
 unfold resv at hr
 apply lD
 unfold uL
 rw[zB,if_neg (by decide),aj,if_neg (λz=>hr (of_decide_eq_true z)),zB,zB]
 unfold sO
 rw[if_pos (yR (by omega)),aj,decide_eq_true (by omega),if_pos rfl,aj,decide_eq_true (by omega),if_pos rfl,zB,zB,aj]
 have ls:zp (dR l)=l.map λc=>(⟨#[c]⟩:Str):=by
  unfold zp dR
  rfl
 have e:xG (λ(_:Str)=>some true) (λ(x2:Str)=>some (KQ x2 ("abcdefghijklmnopqrstuvwxyz":Str))) (zp (dR l))=some ((zp (dR l)).map λ_=>true):=by
  unfold xG
  rw[if_pos (by rw[ls,length_map];exact yR (by omega))]
  refine PK (λ_ _=>rfl) λx hx=>?_
  rw[ls] at hx
  obtain⟨y,hy,rfl⟩:=mem_map.mp hx
  obtain⟨i,hi,rfl⟩:=hl y hy
  rw[Bh i hi]
 rw[e,aj,aj,all_eq_true]
 intro x hx
 obtain⟨y,_,rfl⟩:=mem_map.mp hx
 rfl
theorem Uw{a b:List Nat}(h:a.length+b.length<=1000):jU (dR a) (dR b)=some (dR (a++b)):=by
 unfold jU
 rw[if_pos (by rw[PJ,PJ];exact h),Bk]
section
variable{κ:Type}[DecidableEq κ]
theorem zKk:∀(ks acc:List κ),acc.Nodup->(dd acc ks).Nodup
 |[],acc,h=>h
 |k::ks,acc,h=>by
  show(dd (if k∈acc then acc else acc++[k]) ks).Nodup
  refine zKk ks _ ?_
  split
  ·exact h
  ·rename_i z
   rw[nodup_append]
   refine⟨h,by simp,λa ha b hb e=>z ?_⟩
   rw[<-mem_singleton.mp hb,<-e]
   exact ha
theorem Ux:∀{ks acc:List κ}{k:κ},k∈dd acc ks->k∈acc\/k∈ks
 |[],acc,k,h=>.inl h
 |k'::ks,acc,k,h=>by
  have h:k∈dd (if k'∈acc then acc else acc++[k']) ks:=h
  rcases Ux h with z|z
  ·split at z
   ·exact .inl z
   ·rcases mem_append.mp z with z|z
    ·exact .inl z
    ·exact .inr (by rw[mem_singleton.mp z];exact mem_cons_self)
  ·exact .inr (mem_cons_of_mem _ z)
def ng(ns:LI)(i:Nat):Int:=ns.getD i 0
theorem qz{ns:LI}(h:i<ns.length):ns[i]?=some (ng ns i):=by
 unfold ng
 rw[getD_eq_getElem?_getD,List.getElem?_eq_getElem h];rfl
theorem Uy(ks:List κ):(lM ks).length=ks.length:=by unfold lM;rw[length_map]
theorem Hq{ks:List κ}{i:Nat}{k:κ}(h:ks[i]?=some k):ng (lM ks) i=((dd [] ks).idxOf k:Int):=by
 unfold ng lM
 rw[getD_eq_getElem?_getD,getElem?_map,h];rfl
theorem Uz{D:List κ}{k:κ}(h:k∈D):D[D.idxOf k]?=some k:=by
 rw[List.getElem?_eq_getElem (idxOf_lt_length_iff.mpr h),List.getElem_idxOf]
theorem PL{ks:List κ}{i j:Nat}{a b:κ}(h1:ks[i]?=some a)(h2:ks[j]?=some b):ng (lM ks) i=ng (lM ks) j↔a=b:=by
 rw[Hq h1,Hq h2]
 constructor
 ·intro e
  have e:(dd [] ks).idxOf a=(dd [] ks).idxOf b:=by omega
  have e1:=Uz (Jh (acc:=[]) (mem_of_getElem? h1))
  have e2:=Uz (Jh (acc:=[]) (mem_of_getElem? h2))
  rw[e,e2] at e1
  exact(Option.some.inj e1).symm
 ·rintro rfl
  rfl
def Can(ns:LI):Prop:=∀i,i<ns.length->0<=ng ns i/\∀k,0<=k->k<=ng ns i->∃j,j<=i/\ng ns j=k/\∀j',j'<j->ng ns j'<k
theorem zN1(ks:List κ):Can (lM ks):=λi hi=>by
 rw[Uy] at hi
 have hki:=List.getElem?_eq_getElem hi
 refine⟨by rw[Hq hki];omega,λk k0 k1=>?_⟩
 rw[Hq hki] at k1
 have mi:ks[i]∈dd [] ks:=Jh (getElem_mem hi)
 have kl:k.toNat<(dd [] ks).length:=by have:=idxOf_lt_length_iff.mpr mi;omega
 have nd:=zKk ks [] .nil
 have hd:=List.getElem?_eq_getElem kl
 generalize hx:(dd [] ks)[k.toNat]=x at hd
 have xk:x∈ks:=(Ux (mem_of_getElem? hd)).elim (λz=>by cases z) id
 have hj:=Uz xk
 have jl:ks.idxOf x<ks.length:=idxOf_lt_length_iff.mpr xk
 have xi:(dd [] ks).idxOf x=k.toNat:=by
  rw[<-hx]
  exact List.Nodup.idxOf_getElem nd k.toNat kl
 have UG:x∉ks.take (ks.idxOf x):=λz=>by
  obtain⟨t,ht⟩:=mem_iff_getElem?.mp z
  have tl:t<ks.idxOf x:=by
   have:=(List.getElem?_eq_some_iff.mp ht).1
   rw[length_take] at this
   omega
  rw[getElem?_take_of_lt tl] at ht
  have tl2:=(List.getElem?_eq_some_iff.mp ht).1
  have nf:=List.not_of_lt_findIdx (p:=λy=>y==x) (xs:=ks) (i:=t) tl
  rw[show ks[t]=x from(List.getElem?_eq_some_iff.mp ht).2] at nf
  simp at nf
 obtain⟨r,er⟩:=TJ (ks.drop (ks.idxOf x)) (dd [] (ks.take (ks.idxOf x)))
 rw[<-YX,take_append_drop] at er
 have kge:(dd [] (ks.take (ks.idxOf x))).length<=k.toNat:=by
  refine Nat.le_of_not_lt λz=>UG ?_
  rw[er,getElem?_append_left z] at hd
  exact(Ux (mem_of_getElem? hd)).elim (λz=>by cases z) id
 have below:∀t,t<ks.idxOf x->ng (lM ks) t<k:=λt ht=>by
  have tl:t<ks.length:=by omega
  have ht':=List.getElem?_eq_getElem tl
  rw[Hq ht']
  have m1:ks[t]∈dd [] (ks.take (ks.idxOf x)):=Jh (mem_iff_getElem?.mpr ⟨t,by rw[getElem?_take_of_lt ht];exact ht'⟩)
  have m2:=idxOf_lt_length_iff.mpr m1
  have:(dd [] ks).idxOf ks[t]=(dd [] (ks.take (ks.idxOf x))).idxOf ks[t]:=by
   rw[er,List.idxOf_append,if_pos m1]
  omega
 refine⟨ks.idxOf x,?_,by rw[Hq hj,xi];omega,below⟩
 refine Nat.le_of_not_lt λz=>?_
 have:=below i z
 rw[Hq hki] at this
 omega
end
theorem zKo(ha:Can a)(hb:Can b)(hl:a.length=b.length)(h:∀i j,i<a.length->j<a.length->(ng a i=ng a j↔ng b i=ng b j)):a=b:=by
 have key:∀n i,i<=n->i<a.length->ng a i=ng b i:=by
  intro n
  induction n with
  |zero =>
   intro i hi il
   have e:i=0:=by omega
   subst e
   have za:ng a 0=0:=by
    obtain⟨p,q⟩:=ha 0 il
    obtain⟨j,j1,j2,_⟩:=q 0 (Int.le_refl _) p
    have:j=0:=by omega
    rw[this] at j2
    exact j2
   have zb:ng b 0=0:=by
    obtain⟨p,q⟩:=hb 0 (by omega)
    obtain⟨j,j1,j2,_⟩:=q 0 (Int.le_refl _) p
    have:j=0:=by omega
    rw[this] at j2
    exact j2
   rw[za,zb]
  |succ n ih =>
   intro i hi il
   rcases Nat.lt_or_ge i (n+1) with z|z
   ·exact ih i (by omega) il
   have ei:i=n+1:=by omega
   by_cases ex:∃j,j<i/\ng a j=ng a i
   ·obtain⟨j,j1,j2⟩:=ex
    rw[<-j2,ih j (by omega) (by omega)]
    exact(h j i (by omega) il).mp j2
   ·have no:∀j,j<i->ng a j≠ng a i:=λj h1 h2=>ex ⟨j,h1,h2⟩
    rcases Int.lt_trichotomy (ng a i) (ng b i) with w|w|w
    ·obtain⟨j,j1,j2,_⟩:=(hb i (by omega)).2 (ng a i) (ha i il).1 (Int.le_of_lt w)
     have jn:j≠i:=λe=>by rw[e] at j2;omega
     exact absurd (by rw[ih j (by omega) (by omega),j2]) (no j (by omega))
    ·exact w
    ·obtain⟨j,j1,j2,_⟩:=(ha i il).2 (ng b i) (hb i (by omega)).1 (Int.le_of_lt w)
     have jn:j≠i:=λe=>by rw[e] at j2;omega
     have e:=ih j (by omega) (by omega)
     exact absurd ((h j i (by omega) il).mpr (by rw[<-e,j2])) (no j (by omega))
 refine ext_getElem? λi=>?_
 by_cases il:i<a.length
 ·rw[qz il,qz (by omega:i<b.length),key i i (Nat.le_refl _) il]
 ·rw[List.getElem?_eq_none (by omega),List.getElem?_eq_none (by omega)]
def prs(n:Nat):List (Nat×Nat):=(List.range n).flatMap λi=>(List.range n).map λj=>(i,j)
theorem pU:(i,j)∈prs n↔i<n/\j<n:=by
 unfold prs
 rw[List.mem_flatMap]
 constructor
 ·rintro⟨a,ha,hb⟩
  obtain⟨b,hb,e⟩:=mem_map.mp hb
  cases e
  exact⟨mem_range.mp ha,mem_range.mp hb⟩
 ·rintro⟨h1,h2⟩
  exact⟨i,mem_range.mpr h1,mem_map.mpr ⟨j,mem_range.mpr h2,rfl⟩⟩
theorem Bm(n:Nat):(prs n).length=n*n:=by
 unfold prs
 rw[List.length_flatMap]
 have:(List.map (λi=>(List.map (λj=>(i,j)) (List.range n)).length) (List.range n))=replicate n n:=by
  rw[List.eq_replicate_iff]
  refine⟨by simp,λb hb=>?_⟩
  obtain⟨i,_,e⟩:=mem_map.mp hb
  rw[<-e];simp
 rw[this,List.sum_replicate_nat]
def eqs(n:Nat)(ns:LI):Nat:=(prs n).countP λp=>decide (ng ns p.1=ng ns p.2)
theorem Hr(n:Nat)(ns:LI):eqs n ns<=n*n:=by
 rw[<-Bm n]
 exact List.countP_le_length
theorem zHp{α:Type}{p q:α->Bool}:∀{l:List α}{x:α},(∀y∈l,q y=true->p y=true)->x∈l->p x=true->q x=false->l.countP q<l.countP p
 |y::l,x,h,hx,h1,h2=>by
  have hm:l.countP q<=l.countP p:=List.countP_mono_left λz hz=>h z (mem_cons_of_mem _ hz)
  rw[List.countP_cons,List.countP_cons]
  rcases mem_cons.mp hx with e|hx
  ·subst e
   rw[h1,h2]
   simp
   omega
  ·have:=zHp (λz hz=>h z (mem_cons_of_mem _ hz)) hx h1 h2
   have hy:=h y mem_cons_self
   cases e:q y with
   |false=>cases p y<;>simp<;>omega
   |true=>rw[hy e];simp;omega
theorem Hs(ha:Can a)(hb:Can b)(la:a.length=n)(lb:b.length=n)(h:∀i j,i<n->j<n->ng b i=ng b j->ng a i=ng a j)(ne:b≠a):eqs n b<eqs n a:=by
 have ex:∃i j,i<n/\j<n/\ng a i=ng a j/\ng b i≠ng b j:=Classical.byContradiction λno=>ne (zKo ha hb (by omega) λi j hi hj=>⟨λe=>Classical.byContradiction λz=>no ⟨i,j,by omega,by omega,e,z⟩,λe=>h i j (by omega) (by omega) e⟩).symm
 obtain⟨i,j,hi,hj,e1,e2⟩:=ex
 refine zHp (x:=(i,j)) (λy hy q=>?_) (pU.mpr ⟨hi,hj⟩) (decide_eq_true e1) (decide_eq_false e2)
 obtain⟨h1,h2⟩:=pU.mp (show(y.1,y.2)∈prs n from hy)
 exact decide_eq_true (h _ _ h1 h2 (of_decide_eq_true q))
theorem UJ(h0:0<=n)(h1:n<=60):Je n=some (rng n):=by
 unfold Je
 rw[if_pos ⟨by omega,by omega⟩]
 rfl
theorem PN{n:Int}{i:Nat}(h:(i:Int)<n):(rng n)[i]?=some (i:Int):=by
 unfold rng
 rw[getElem?_map,getElem?_range (by omega)];rfl
theorem xS:(rng n).length=n.toNat:=by unfold rng;rw[length_map,length_range]
theorem UL{α β:Type}{f:α->Option β}{k:α->β}{xs:List α}(h:∀x∈xs,f x=some (k x))(hl:xs.length<=1000):xR (λ(s:List β) (x:α)=>((f x).bind λa=>push s a).bind λs'=>some s') xs []=some (xs.map k):=by
 refine lD (uQ (λi s=>s=(xs.take i).map k) rfl (λi x s hi e=>?_) λs e=>by rw[e,take_length])
 rw[h x (mem_of_getElem? hi),zB,zB,aj,ud,aj,e]
 have il:=yC hi
 refine⟨yR (by rw[length_map,length_take];omega),?_⟩
 rw[take_add_one,hi,map_append];rfl
section
variable{C:Addr}{m:aF C}{n:Int}
def vQ(m:aF C)(x:Int):List Str:=(m.marks.filter λp=>decide (x∈p.2)).map (·.1)
def cW(m:aF C)(x:Int):LI:=((p8 m.fair).filter λp=>decide (x∈p.2)).map (·.1)
def k1(m:aF C)(x:Int):(Tp Str)×(Tp Int):=(Tp.mk (bf (vQ m x)),Tp.mk (cW m x))
def k2(m:aF C)(ns:LI)(x:Int):Int×(Tp Int):=(ng ns x.toNat,Tp.mk (oh ((n_ (nxt m.steps x)).map λt=>ng ns t.toNat)))
def fin(m:aF C)(n:Int)(ns:LI):LI:=lM ((rng n).map (k2 m ns))
theorem UW(g:Gr m n):xE m=some (rng n):=by
 unfold xE
 rw[Z9 g]
 exact UJ (by have:=g.pos;omega) g.few
theorem U0(hm:m.marks.length<64)(x:Int):yH m x=some (bf (vQ m x)):=by
 unfold yH
 refine lD ?_
 rw[zB,zB,aj,RV]
 refine⟨yR (by omega),?_⟩
 unfold Lw
 rw[if_pos (by rw[length_map];exact Nat.lt_of_le_of_lt (length_filter_le _ _) hm),aj]
 rfl
theorem U3(hf:m.fair.length<=100)(x:Int):yS m x=some (cW m x):=by
 unfold yS
 refine lD ?_
 rw[zB,aj,RV]
 exact⟨yR (by rw[Iu];omega),rfl⟩
theorem Bo(g:Gr m n)(hm:m.marks.length<64)(hf:m.fair.length<=100):xW m=some (lM ((rng n).map (k1 m))):=by
 unfold xW
 have Js:=g.few
 have e:=UL (f:=λx4:Int=>((yH m x4).bind λa6=>some (Tp.mk a6)).bind λa8=>((yS m x4).bind λa7=>some (Tp.mk a7)).bind λb9=>some (a8,b9)) (k:=k1 m) (xs:=rng n) (λx _=>by rw[U0 hm,U3 hf];rfl) (by rw[xS];omega)
 rw[UW g]
 show((xR _ (rng n) []).bind λs3=>uI s3)=_
 rw[e]
 show uI _=_
 unfold uI G3
 rw[if_pos (by rw[length_map,xS];omega)]
theorem um(g:Gr m n)(h0:0<=x)(h1:x<n):m.steps[x.toNat]?=some (nxt m.steps x)/\(∀t∈nxt m.steps x,0<=t/\t<n)/\(nxt m.steps x).length<=60:=by
 have gl:=g.len
 have hl:x.toNat<m.steps.length:=by omega
 have e:nxt m.steps x=m.steps[x.toNat]:=by unfold nxt;rw[getD_eq_getElem?_getD,List.getElem?_eq_getElem hl];rfl
 have r:=g.row _ (getElem_mem hl)
 rw[e]
 refine⟨List.getElem?_eq_getElem hl,r.2.2,?_⟩
 have:=FT (n:=n.toNat) r.2.1 λz hz=>by have:=r.2.2 z hz;omega
 have:=g.few
 omega
theorem PX(g:Gr m n)(h0:0<=x)(h1:x<n):zV m x=some (n_ (nxt m.steps x)):=by
 obtain⟨e,_,l⟩:=um g h0 h1
 unfold zV
 rw[wJ h0,e]
 exact lD (Hl.mpr ⟨by omega,rfl⟩)
theorem U4{ns:LI}(hn:(ns.length:Int)=n)(hx:∀t∈xs,0<=t/\t<n)(hl:xs.length<64):zW ns xs=some (oh (xs.map λt=>ng ns t.toNat)):=by
 unfold zW
 have e:xG (λ(_:Int)=>some true) (λ(x1:Int)=>aV ns x1) xs=some (xs.map λt=>ng ns t.toNat):=by
  unfold xG
  rw[if_pos (yR (by omega)),PK (g:=λt=>ng ns t.toNat) (λ_ _=>rfl) λt ht=>by
   obtain⟨t0,t1⟩:=hx t ht
   rw[wJ t0]
   exact qz (by omega)]
 show((xG (λ(_:Int)=>some true) (λ(x1:Int)=>aV ns x1) xs).bind λa2=>Gp a2)=_
 rw[e]
 show Gp _=_
 unfold Gp
 rw[if_pos (by rw[length_map];exact hl)]
theorem zL9(g:Gr m n){ns:LI}(hn:(ns.length:Int)=n):yM m ns=some (fin m n ns):=by
 unfold yM
 have Js:=g.few
 have e:=UL (f:=λx4:Int=>(aV ns x4).bind λa10=>(((((zV m x4).bind λa7=>some ((a7,()))).bind λb8=>some (ns,b8)).bind λz6=>zW z6.1 z6.2.1).bind λa9=>some (Tp.mk a9)).bind λoV=>some (a10,oV)) (k:=k2 m ns) (xs:=rng n) (λx hx=>by
  obtain⟨x0,x1⟩:=cX.mp hx
  obtain⟨_,t1,t2⟩:=um g x0 x1
  have p:=xA (nxt m.steps x)
  show((aV ns x).bind λa10=>_)=_
  rw[wJ x0,qz (by omega:x.toNat<ns.length),PX g x0 x1]
  show(((zW ns (n_ (nxt m.steps x))).bind λa9=>some (Tp.mk a9)).bind λoV=>some (ng ns x.toNat,oV))=_
  rw[U4 hn (λt ht=>t1 t (p.mem_iff.mp ht)) (by rw[p.length_eq];omega)]
  rfl) (by rw[xS];omega)
 rw[UW g]
 show((xR _ (rng n) []).bind λs3=>uH s3)=_
 rw[e]
 show uH _=_
 unfold uH G3 fin
 rw[if_pos (by rw[length_map,xS];omega)]
structure pF(m:aF C)(n:Int)(c:LI):Prop where
 len:(c.length:Int)=n
 can:Can c
 one:∀i j:Nat,(i:Int)<n->(j:Int)<n->ng c i=ng c j->k1 m i=k1 m j
theorem dW{α:Type}{f:Int->α}{i:Nat}(h:(i:Int)<n):((rng n).map f)[i]?=some (f i):=by rw[getElem?_map,PN h];rfl
theorem zKe(g:Gr m n):pF m n (lM ((rng n).map (k1 m))):=⟨by have:=g.pos;rw[Uy,length_map,xS];omega,zN1 _,λi j hi hj e=>(PL (dW hi) (dW hj)).mp e⟩
theorem P0(c:LI){i j:Nat}(hi:(i:Int)<n)(hj:(j:Int)<n):ng (fin m n c) i=ng (fin m n c) j↔k2 m c i=k2 m c j:=PL (dW hi) (dW hj)
theorem zOr(c:LI){i j:Nat}(hi:(i:Int)<n)(hj:(j:Int)<n)(e:ng (fin m n c) i=ng (fin m n c) j):ng c i=ng c j:=by
 have:=congrArg Prod.fst ((P0 c hi hj).mp e)
 exact this
theorem zSr(g:Gr m n)(h:pF m n c):pF m n (fin m n c):=⟨by have:=g.pos;unfold fin;rw[Uy,length_map,xS];omega,zN1 _,λi j hi hj e=>h.one i j hi hj (zOr c hi hj e)⟩
def qY(m:aF C)(n:Int)(told:List LI):Prop:=told.head?=some (lM ((rng n).map (k1 m)))/\∀(i:Nat)(a b:LI),told[i]?=some a->told[i+1]?=some b->b=fin m n a
theorem qY.snoc(h:qY m n (t++[c])):qY m n ((t++[c])++[fin m n c]):=by
 refine⟨?_,λi a b h1 h2=>?_⟩
 ·have:=h.1
  cases t with
  |nil=>exact this
  |cons x t=>exact this
 ·have il:=yC h2
  rw[length_append,length_append,length_singleton,length_singleton] at il
  rcases Nat.lt_or_ge (i+1) (t++[c]).length with z|z
  ·rw[getElem?_append_left z] at h2
   rw[getElem?_append_left (by omega)] at h1
   exact h.2 i a b h1 h2
  ·rw[length_append,length_singleton] at z
   have e:i=t.length:=by omega
   rw[getElem?_append_right (by rw[length_append,length_singleton];omega),length_append,length_singleton,e,Nat.sub_self] at h2
   rw[getElem?_append_left (by rw[length_append,length_singleton];omega),getElem?_append_right (by omega),e,Nat.sub_self] at h1
   cases h1
   cases h2
   rfl
theorem zGk(g:Gr m n)(hm:m.marks.length<64)(hf:m.fair.length<=100):W (xD m) λtold=>∃t c,told=t++[c]/\pF m n c/\fin m n c=c/\qY m n (t++[c])/\t.length<=3600:=by
 have Js:=g.few
 have gp:=g.pos
 unfold xD
 rw[Bo g hm hf]
 have f0:=zKe g
 have ch0:qY m n [lM ((rng n).map (k1 m))]:=⟨rfl,λi a b _ h2=>by simp at h2⟩
 generalize lM ((rng n).map (k1 m))=c0 at f0 ch0
 rw[zB,zB,aj,aj,zB,zB,zB,zB,show aV [c0] (0:Int)=some c0 from rfl,aj,aj,aj]
 show W (yM m c0) _
 rw[zL9 g f0.len,aj,zB]
 have e0:=Hr n.toNat c0
 have nn:n.toNat*n.toNat<=3600:=Nat.mul_le_mul (show n.toNat<=60 by omega) (show n.toNat<=60 by omega)
 refine yw (λs=>∃t c,s.1=t++[c]/\pF m n c/\s.2=fin m n c/\t.length+eqs n.toNat c<=3600/\qY m n (t++[c])) (λs=>4000-s.1.length) ⟨[],c0,rfl,f0,rfl,by simp only[length_nil];omega,ch0⟩ (by show 4000-1<100000;decide) ?_
 rintro⟨told,fr⟩ ⟨t,c,rfl,ok,rfl,hl,ch⟩
 show W ((aV (t++[c]) (-(1:Int))).bind λb9=>some (!decide (fin m n c=b9))) _
 rw[show aV (t++[c]) (-(1:Int))=some c from Wh t c]
 show W (some (!decide (fin m n c=c))) _
 rw[aj]
 by_cases e:fin m n c=c
 ·rw[if_neg (by rw[decide_eq_true e];decide),aj]
  exact⟨t,c,rfl,ok,e,ch,by omega⟩
 ·rw[if_pos (by rw[decide_eq_false e];rfl)]
  have ok':=zSr g ok
  have cl:=ok.len
  have cl':=ok'.len
  have lt:eqs n.toNat (fin m n c)<eqs n.toNat c:=Hs ok.can ok'.can (by omega) (by omega) (λi j hi hj=>zOr c (by omega) (by omega)) e
  show W ((push (t++[c]) (fin m n c)).bind λj9=>(yM m (fin m n c)).bind λiR=>some (j9,iR)) _
  rw[zB,ud]
  refine⟨Nat.lt_of_le_of_lt (show(t++[c]).length<=3602 by rw[length_append,length_singleton];omega) (by decide),?_⟩
  rw[zL9 g cl']
  show W (some _) _
  rw[aj]
  refine⟨⟨t++[c],fin m n c,rfl,ok',rfl,by rw[length_append,length_singleton];omega,ch.snoc⟩,?_⟩
  show 4000-((t++[c])++[fin m n c]).length<4000-(t++[c]).length
  rw[length_append (as:=t++[c]),length_append,length_singleton,length_singleton]
  omega
theorem zS1(h:Can ns):∀(t i:Nat),i<=t->i<ns.length->ng ns i<=(i:Int)
 |0,i,hi,il=>by
  have e:i=0:=by omega
  subst e
  obtain⟨p,q⟩:=h 0 il
  obtain⟨j,j1,j2,_⟩:=q 0 (Int.le_refl _) p
  have:j=0:=by omega
  rw[this] at j2
  omega
 |t+1,i,hi,il=>by
  obtain⟨p,q⟩:=h i il
  rcases Int.lt_or_le 0 (ng ns i) with z|z
  ·obtain⟨j,j1,j2,_⟩:=q (ng ns i-1) (by omega) (by omega)
   have jn:j≠i:=λe=>by rw[e] at j2;omega
   have:=zS1 h t j (by omega) (by omega)
   omega
  ·omega
def uD(N:Nat)(c:LI)(k:Nat):LI:=((List.range N).filter λi=>decide (ng c i=(k:Int))).map Int.ofNat
def xJ(M N:Nat)(c:LI):List LI:=(List.range M).map (uD N c)
theorem zEu(N:Nat)(c:LI)(k:Nat):uD (N+1) c k=if ng c N=(k:Int) then uD N c k++[(N:Int)] else uD N c k:=by
 unfold uD
 rw[range_succ,List.filter_append,map_append]
 by_cases e:ng c N=(k:Int)
 ·rw[if_pos e,List.filter_cons_of_pos (by simpa using e)];rfl
 ·rw[if_neg e,List.filter_cons_of_neg (by simpa using e)];simp
theorem dN:x∈uD N c k↔0<=x/\x<(N:Int)/\ng c x.toNat=(k:Int):=by
 unfold uD
 rw[mem_map]
 constructor
 ·rintro⟨i,hi,rfl⟩
  rw[mem_filter,mem_range] at hi
  exact⟨Int.natCast_nonneg _,by show(i:Int)<_;omega,of_decide_eq_true hi.2⟩
 ·rintro⟨h0,h1,h2⟩
  refine⟨x.toNat,?_,by show((x.toNat:Nat):Int)=x;omega⟩
  rw[mem_filter,mem_range]
  exact⟨by omega,decide_eq_true h2⟩
theorem zJq(N:Nat)(c:LI)(k:Nat):(uD N c k).Pairwise (· < ·):=by
 unfold uD
 rw[pairwise_map]
 refine(Pairwise.filter _ pairwise_lt_range).imp λh=>?_
 show(_:Int)<_
 exact Int.ofNat_lt.mpr h
theorem zM1(N:Nat)(c:LI)(k:Nat):(uD N c k).length<=N:=by
 unfold uD
 rw[length_map]
 refine Nat.le_trans (length_filter_le _ _) ?_
 rw[length_range];exact Nat.le_refl _
theorem zPw(can:Can c)(hl:c.length=N)(h0:0<N)(Pq:N<=60):∃M:Nat,(∃i,i<N/\ng c i=(M:Int)-1)/\(∀i,i<N->ng c i<(M:Int))/\0<M/\M<=60/\zZ c=some (xJ M N c):=by
 have ne:c≠[]:=λe=>by rw[e] at hl;simp at hl;omega
 obtain⟨i0,hi0⟩:=mem_iff_getElem?.mp (RX ne)
 have U5:=yC hi0
 have e0:ng c i0=fB c:=by rw[qz U5] at hi0;exact Option.some.inj hi0
 have p0:=(can i0 U5).1
 have p1:=zS1 can i0 i0 (Nat.le_refl _) U5
 have ge:∀i,i<N->ng c i<=fB c:=λi hi=>RW (mem_of_getElem? (qz (by omega)))
 refine⟨(fB c+1).toNat,⟨i0,by omega,by omega⟩,λi hi=>by have:=ge i hi;omega,by omega,by omega,?_⟩
 generalize hM:(fB c+1).toNat=M
 unfold zZ
 refine lD ?_
 rw[show qe c=some (fB c) by unfold qe;rw[if_neg ne]]
 rw[zB,zB,zB,aj,aj,show Ji (fB c+1)=some (dO.mk (replicate M [])) by unfold Ji;rw[if_pos ⟨by omega,by omega⟩,hM],aj,zB,zB,aj]
 refine uQ (λi s=>s.xss=xJ M i c) ?_ (λi x s hi e=>?_) λs e=>?_
 ·show replicate M []=xJ M 0 c
  unfold xJ
  symm
  rw[List.eq_replicate_iff]
  refine⟨by rw[length_map,length_range],λb hb=>?_⟩
  obtain⟨k,_,e⟩:=mem_map.mp hb
  rw[<-e];rfl
 ·have il:=yC hi
  rw[Iu] at il
  obtain⟨x1,x2⟩:=x
  obtain⟨rfl,h2⟩:=vJ hi
  rw[qz il] at h2
  obtain rfl:=Option.some.inj h2
  have pi:=(can i il).1
  have qi:=ge i (by omega)
  show W ((Dg s (ng c i) (i:Int)).bind λMp=>some Mp) _
  rw[zB]
  unfold Dg
  rw[if_pos pi,e]
  have kl:(ng c i).toNat<M:=by omega
  have er:(xJ M i c)[(ng c i).toNat]?=some (uD i c (ng c i).toNat):=by
   unfold xJ
   rw[getElem?_map,getElem?_range kl];rfl
  rw[er]
  show W (if _ then _ else _) _
  rw[if_pos (yR (by have:=zM1 i c (ng c i).toNat;omega)),aj,aj]
  show(xJ M i c).set (ng c i).toNat _=xJ M (i+1) c
  refine ext_getElem? λk=>?_
  by_cases ek:(ng c i).toNat=k
  ·subst ek
   rw[getElem?_set_self (by unfold xJ;rw[length_map,length_range];exact kl)]
   unfold xJ
   rw[getElem?_map,getElem?_range kl]
   show _=some (uD (i+1) c _)
   rw[zEu,if_pos (by omega)]
  ·rw[getElem?_set_ne ek]
   unfold xJ
   rw[getElem?_map,getElem?_map]
   by_cases kM:k<M
   ·rw[getElem?_range kM]
    show some (uD i c k)=some (uD (i+1) c k)
    rw[zEu,if_neg (by omega)]
   ·rw[List.getElem?_eq_none (by rw[length_range];omega)];rfl
 ·rw[aj,e,Iu,hl]
end
abbrev U6:=qU (List LI) (List (Str×LI)) (List LI)
section
variable{C:Addr}{m:aF C}{n:Int}{c:LI}{M N:Nat}
structure gH(m:aF C)(n:Int)(c:LI)(M:Nat):Prop where
 st:pF m n c
 fx:fin m n c=c
 top:∃i,i<n.toNat/\ng c i=(M:Int)-1
 lt:∀i,i<n.toNat->ng c i<(M:Int)
 pos:0<M
 few:M<=60
theorem zMz(h:k<M):aV (xJ M N c) (k:Int)=some (uD N c k):=by
 rw[wJ (by omega)]
 unfold xJ
 rw[getElem?_map,Int.toNat_natCast,getElem?_range h];rfl
theorem P_:(xJ M N c).length=M:=by unfold xJ;rw[length_map,length_range]
theorem Qa(h:gH m n c M)(hk:k<M):∃a r,uD n.toNat c k=a::r/\ng c a.toNat=(k:Int)/\0<=a/\a<n/\∀y∈uD n.toNat c k,a<=y:=by
 obtain⟨i,hi,e⟩:=h.top
 have cl:=h.st.len
 obtain⟨j,j1,j2,_⟩:=(h.st.can i (by omega)).2 (k:Int) (by omega) (by omega)
 have mj:(j:Int)∈uD n.toNat c k:=dN.mpr ⟨by omega,by omega,by rw[Int.toNat_natCast];exact j2⟩
 cases hr:uD n.toNat c k with
 |nil=>rw[hr] at mj;cases mj
 |cons a r =>
  have ma:a∈uD n.toNat c k:=by rw[hr];exact mem_cons_self
  obtain⟨a0,a1,a2⟩:=dN.mp ma
  have pw:=zJq n.toNat c k
  rw[hr] at pw
  refine⟨a,r,rfl,a2,a0,by omega,λy hy=>?_⟩
  rcases mem_cons.mp hy with e|hy
  ·omega
  ·have:=rel_of_pairwise_cons pw hy;omega
end
structure Ht(n:Int)(T:U6):Prop where
 len:(T.a.length:Int)=n
 pos:1<=n
 few:n<=60
 row:∀xs∈T.a,xs≠[]/\pD n xs
 marks:uZ n T.b
 MF:T.b.length<32
 Hu:T.c.length<32
 fair:∀xs∈T.c,pD n xs
section
variable{C:Addr}{m:aF C}{n:Int}{c:LI}{M:Nat}
theorem zKx(h:Ht n T):W (uK C T) λm=>Gr m n/\m.steps=T.a/\m.marks=T.b/\m.fair=T.c:=by
 have:=h.len
 have:=h.few
 unfold uK
 rw[zB,aj,zB,zB,aj,FQ (λx:Str×LI=>(x.1,x.2))]
 refine⟨yR (by have:=h.MF;omega),?_⟩
 rw[show T.b.map (λx:Str×LI=>(x.1,x.2))=T.b from map_id' _,zB,zB,aj,FQ (λx:LI=>x)]
 refine⟨yR (by omega),?_⟩
 rw[map_id',zB,zB,aj,FQ (λx:LI=>x)]
 refine⟨yR (by have:=h.Hu;omega),?_⟩
 rw[map_id']
 exact Dm C h.len h.pos h.few h.row h.marks ⟨Nat.le_of_lt (Nat.lt_trans h.Hu (by decide)),h.fair⟩
theorem Dn{α β:Type}{f:α->β}:∀{l:List α}{a b:α},(l.map f).Nodup->a∈l->b∈l->f a=f b->a=b
 |x::l,a,b,nd,ha,hb,e=>by
  rw[map_cons,nodup_cons] at nd
  rcases mem_cons.mp ha with ha|ha
  ·rcases mem_cons.mp hb with hb|hb
   ·rw[ha,hb]
   ·exact absurd (mem_map.mpr ⟨b,hb,by rw[<-e,ha]⟩) nd.1
  ·rcases mem_cons.mp hb with hb|hb
   ·exact absurd (mem_map.mpr ⟨a,ha,by rw[e,hb]⟩) nd.1
   ·exact Dn nd.2 ha hb e
theorem Qc(nd:(m.marks.map (·.1)).Nodup)(hp:p∈m.marks)(x:Int):p.1∈vQ m x↔x∈p.2:=by
 unfold vQ
 rw[mem_map]
 constructor
 ·rintro⟨q,hq,e⟩
  rw[mem_filter] at hq
  have:q=p:=Dn nd hq.1 hp e
  rw[<-this]
  exact of_decide_eq_true hq.2
 ·intro h
  exact⟨p,mem_filter.mpr ⟨hp,decide_eq_true h⟩,rfl⟩
theorem Qd{i:Nat}{s:LI}(hs:m.fair[i]?=some s)(x:Int):(i:Int)∈cW m x↔x∈s:=by
 unfold cW
 rw[mem_map]
 constructor
 ·rintro⟨q,hq,e⟩
  rw[mem_filter] at hq
  obtain⟨j,hj⟩:=mem_iff_getElem?.mp hq.1
  obtain⟨e1,e2⟩:=vJ hj
  have ij:j=i:=by omega
  rw[ij,hs] at e2
  rw[Option.some.inj e2]
  exact of_decide_eq_true hq.2
 ·intro h
  refine⟨((i:Int),s),mem_filter.mpr ⟨mem_iff_getElem?.mpr ⟨i,?_⟩,decide_eq_true h⟩,rfl⟩
  have hi:=yC hs
  unfold p8
  rw[List.getElem?_zip_eq_some]
  exact⟨by rw[getElem?_map,getElem?_range hi];rfl,hs⟩
theorem U7(g:Gr m n)(h:gH m n c M)(nd:(m.marks.map (·.1)).Nodup)(a0:0<=a)(a1:a<n)(x0:0<=x)(x1:x<n)(e:ng c a.toNat=ng c x.toNat) :
  (∀p∈m.marks,(a∈p.2↔x∈p.2))/\(∀s∈m.fair,(a∈s↔x∈s))/\∀k,k∈(nxt m.steps a).map (λt=>ng c t.toNat)↔k∈(nxt m.steps x).map λt=>ng c t.toNat:=by
 have ea:((a.toNat:Nat):Int)=a:=by omega
 have ex:((x.toNat:Nat):Int)=x:=by omega
 have q1:=h.st.one a.toNat x.toNat (by omega) (by omega) e
 rw[ea,ex] at q1
 have q2:=(P0 (m:=m) (n:=n) c (i:=a.toNat) (j:=x.toNat) (by omega) (by omega)).mp (by rw[h.fx];exact e)
 rw[ea,ex] at q2
 have n1:bf (vQ m a)=bf (vQ m x):=congrArg (λz=>z.1.xs) q1
 have n2:cW m a=cW m x:=congrArg (λz=>z.2.xs) q1
 have n3:oh ((n_ (nxt m.steps a)).map λt=>ng c t.toNat)=oh ((n_ (nxt m.steps x)).map λt=>ng c t.toNat):=congrArg (λz=>z.2.xs) q2
 refine⟨λp hp=>?_,λs hs=>?_,λk=>?_⟩
 ·rw[<-Qc nd hp a,<-Qc nd hp x,<-(aD (vQ m a)).mem_iff,n1,(aD (vQ m x)).mem_iff]
 ·obtain⟨i,hi⟩:=mem_iff_getElem?.mp hs
  rw[<-Qd hi a,<-Qd hi x,n2]
 ·rw[<-((xA (nxt m.steps a)).map _).mem_iff,<-xK,n3,xK,((xA (nxt m.steps x)).map _).mem_iff]
end
theorem vZ(q:lJ)(h:0<=k):W (zS q k) λ_=>True:=by
 unfold zS
 rw[oM]
 refine⟨λh1=>?_,λ_=>aj.mpr trivial⟩
 have h1:=of_decide_eq_true h1
 rw[FN h]
 exact⟨_,List.getElem?_eq_getElem (show k.toNat<q.ns.length by omega),trivial⟩
theorem MJ(c k:Int):W (xV c k) λ_=>True:=by
 unfold xV
 simp only[zB,KD,wZ,Cz,aj,uW]
 exact⟨⟨by decide,by decide,by decide⟩,by decide,.inr ⟨by decide,by decide⟩,.inr ⟨by decide,by decide⟩,⟨by decide,by decide⟩,trivial⟩
def pG(l:List Nat):Prop:=∀x∈l,∃i,i<26/\x=97+i
def pW(e:Bool)(t:List Nat)(r k:Int):List Nat:=if e=true then(97+((r+k)%26).toNat)::t else t++[97+((r+k)%26).toNat]
def qC(e:Bool)(t:List Nat)(r k:Int):List Nat:=if dR (pW e t r k)∈resv then(pW e t r k).dropLast else pW e t r k
theorem zQd:∀w∈resv,Ai w (-(1:Int))=some (dR w.cps.toList.dropLast):=by decide +kernel
theorem zM3:∀w∈resv,∀v∈resv,w.cps.toList.tail=v.cps.toList.tail\/w.cps.toList.dropLast=v.cps.toList.dropLast->w=v:=by decide +kernel
theorem zJs:∀w∈resv,dR w.cps.toList.dropLast∉resv/\3<=w.cps.toList.length:=by decide +kernel
theorem MN(l:List Nat):(dR l).cps.toList=l:=by unfold dR;simp
theorem U8(e:Bool)(t:List Nat)(r k:Int):(pW e t r k).length=t.length+1:=by
 unfold pW
 split
 ·rw[length_cons]
 ·rw[length_append];rfl
theorem zQx(h:pG t):pG (pW e t r k):=λx hx=>by
 have hn:∃i,i<26/\97+((r+k)%26).toNat=97+i:=⟨_,by have:=Int.emod_lt_of_pos (r+k) (show(0:Int)<26 by decide);have:=Int.emod_nonneg (r+k) (show(26:Int)≠0 by decide);omega,rfl⟩
 unfold pW at hx
 split at hx
 ·rcases mem_cons.mp hx with e|hx
  ·rw[e];exact hn
  ·exact h x hx
 ·rcases mem_append.mp hx with hx|hx
  ·exact h x hx
  ·rw[mem_singleton.mp hx];exact hn
theorem zSk{e:Bool}{t:List Nat}{r:Int}{j k:Nat}(hj:j<26)(hk:k<26)(h:pW e t r j=pW e t r k):j=k:=by
 have q:(r+(j:Int))%26=(r+(k:Int))%26:=by
  have a1:=Int.emod_nonneg (r+(j:Int)) (show(26:Int)≠0 by decide)
  have a2:=Int.emod_nonneg (r+(k:Int)) (show(26:Int)≠0 by decide)
  unfold pW at h
  split at h
  ·have:=(List.cons.inj h).1;omega
  ·have:=List.append_cancel_left h
   have:=(List.cons.inj this).1
   omega
 omega
theorem zNy{t:List Nat}(ht:t.length<=7):1<=(qC e t r k).length/\(qC e t r k).length<=8:=by
 have l:=U8 e t r k
 unfold qC
 split
 ·rename_i h
  have:=(zJs _ h).2
  rw[MN] at this
  rw[length_dropLast]
  omega
 ·omega
theorem zQt{t:List Nat}(ht:t.length<=7)(hl:pG t):uL (dR (qC e t r k))=some true:=by
 obtain⟨l1,l8⟩:=zNy (e:=e) (r:=r) (k:=k) ht
 refine zOh l1 l8 ?_ ?_
 ·have:=zQx (e:=e) (r:=r) (k:=k) hl
  unfold qC
  split
  ·exactλx hx=>this x ((List.dropLast_sublist _).subset hx)
  ·exact this
 ·unfold qC
  split
  ·rename_i h
   have:=(zJs _ h).1
   rw[MN] at this
   exact this
  ·assumption
theorem Hv{e:Bool}{t:List Nat}{r:Int}{j k:Nat}(hj:j<26)(hk:k<26)(h:qC e t r j=qC e t r k):j=k:=by
 have l1:=U8 e t r j
 have l2:=U8 e t r k
 unfold qC at h
 split at h
 ·rename_i w1
  split at h
  ·rename_i w2
   refine zSk hj hk (e:=e) (t:=t) (r:=r) ?_
   have q:=zM3 _ w1 _ w2
   rw[MN,MN] at q
   have:=q (by
    unfold pW
    cases e with
    |true=>exact .inl rfl
    |false=>exact .inr (by rw[if_neg (by decide),if_neg (by decide),List.dropLast_concat,List.dropLast_concat]))
   exact zNx this
  ·have:=congrArg length h
   rw[length_dropLast] at this
   omega
 ·split at h
  ·have:=congrArg length h
   rw[length_dropLast] at this
   omega
  ·exact zSk hj hk h
theorem Hw(c:Int):∃(e:Bool)(t:List Nat)(r:Int),t.length<=7/\pG t/\∀k:Int,0<=k->xU c k=some (dR (qC e t r k)):=by
 have c8:=Int.emod_lt_of_pos (c/2) (show(0:Int)<8 by decide)
 have c0:=Int.emod_nonneg (c/2) (show(8:Int)≠0 by decide)
 have tl:W (xR (λ(s4:Str×Int) (x6:Int)=>(((aQ s4.2 (26:Int)).bind λb10=>Ah ("abcdefghijklmnopqrstuvwxyz":Str) b10).bind λoV=>jU s4.1 oV).bind λnH=>(bF s4.2 (26:Int)).bind λkI=>some (nH,kI)) (rng (c/2%8)) (("":Str),c/16)) λs=>∃t,s.1=dR t/\t.length<=7/\pG t:=by
  refine uQ (λi s=>∃t,s.1=dR t/\t.length=i/\pG t) ⟨[],by show("":Str)=dR [];rfl,rfl,λx hx=>by cases hx⟩ (λi x s hi hI=>?_) λs hI=>?_
  ·obtain⟨_,i8⟩:=yu hi
   obtain⟨tx,rs⟩:=s
   obtain⟨t,rfl,rfl,hl⟩:=hI
   rw[zB,zB,zB,wZ]
   refine⟨by decide,?_⟩
   show W (Ah _ (rs%26)) _
   rw[zJ7,aj]
   show W (jU (dR t) (dR [97+(rs%26).toNat])) _
   rw[Uw (by rw[length_singleton];omega),aj,zB,uW]
   refine⟨⟨by decide,by decide⟩,?_⟩
   rw[aj]
   refine⟨_,rfl,by rw[length_append];rfl,λx hx=>?_⟩
   rcases mem_append.mp hx with z|z
   ·exact hl x z
   ·rw[mem_singleton.mp z]
    exact⟨_,by have:=Int.emod_lt_of_pos rs (show(0:Int)<26 by decide);have:=Int.emod_nonneg rs (show(26:Int)≠0 by decide);omega,rfl⟩
  ·obtain⟨t,e,l,hl⟩:=hI
   exact⟨t,e,by rw[l,xS];omega,hl⟩
 obtain⟨⟨tx,r⟩,ef,t,rfl,t7,hl⟩:=tl
 refine⟨decide (c%2=0),t,r,t7,hl,λk k0=>?_⟩
 apply lD
 unfold xU
 rw[zB,aj,zB,aj,zB,uW]
 refine⟨⟨by decide,by decide⟩,?_⟩
 rw[zB,zB,zB,zB,uW]
 refine⟨⟨by decide,by decide⟩,?_⟩
 rw[wZ]
 refine⟨by decide,?_⟩
 rw[vI]
 refine⟨⟨by omega,by omega⟩,?_⟩
 rw[ef,aj,zB,zB,wZ]
 refine⟨by decide,?_⟩
 show W (Ah _ ((r+k)%26)) _
 rw[zJ7,aj]
 show W _ _
 rw[zB,zB,zB]
 show W (jU (dR [97+((r+k)%26).toNat]) (dR t)) _
 rw[Uw (by rw[length_singleton];omega),aj,zB,zB]
 show W (jU (dR t) (dR [97+((r+k)%26).toNat])) _
 rw[Uw (by rw[length_singleton];omega),aj,aj,aj,zB,wZ]
 refine⟨by decide,?_⟩
 have md:aV [dR ([97+((r+k)%26).toNat]++t),dR (t++[97+((r+k)%26).toNat])] (c%2)=some (dR (pW (decide (c%2=0)) t r k)):=by
  rw[wJ (by omega)]
  unfold pW
  by_cases z:c%2=0
  ·rw[z,if_pos (decide_eq_true rfl)];rfl
  ·rw[show c%2=1 by omega,if_neg (by decide)];rfl
 rw[md,aj,zB,aj,zB]
 unfold qC
 by_cases z:dR (pW (decide (c%2=0)) t r k)∈resv
 ·have z':=z
  unfold resv at z'
  rw[if_pos (decide_eq_true z'),zB,zQd _ z,aj,aj,aj,if_pos z,MN]
 ·have z':=z
  unfold resv at z'
  rw[if_neg (λy=>z' (of_decide_eq_true y)),aj,aj,if_neg z]
theorem Qe{α β:Type}{c:α->Option Bool}{f:α->Option β}{p:α->Bool}{g:α->β}:∀{xs:List α},(∀x∈xs,c x=some (p x))->(∀x∈xs,f x=some (g x))->xL c f xs=some ((xs.filter p).map g)
 |[],_,_=>rfl
 |x::xs,hc,hf=>by
  have ih:=Qe (λy hy=>hc y (mem_cons_of_mem _ hy)) (λy hy=>hf y (mem_cons_of_mem _ hy))
  show(c x).bind _=_
  rw[hc x mem_cons_self]
  cases e:p x with
  |false =>
   rw[List.filter_cons_of_neg (by rw[e];decide)]
   show xL c f xs=_
   exact ih
  |true =>
   rw[List.filter_cons_of_pos e]
   show(f x).bind _=_
   rw[hf x mem_cons_self]
   show(xL c f xs).bind _=_
   rw[ih]
   rfl
theorem zJr(n:Int):iJ n (rng n):=by
 refine⟨?_,λx hx=>cX.mp hx⟩
 unfold rng
 rw[pairwise_map]
 exact pairwise_lt_range.imp λh=>Int.ofNat_lt.mpr h
theorem zDj(p:Int->Bool)(h:iJ n xs):iJ n (xs.filter p):=⟨h.1.filter p,λx hx=>h.2 x (mem_filter.mp hx).1⟩
theorem zGx{xs:LI}(h:xs.Nodup):xs.reverse.Nodup:=List.pairwise_reverse.mpr (h.imp λq e=>q e.symm)
def Un(n:Int)(xs:LI):Prop:=xs.Nodup/\∀x∈xs,0<=x/\x<n
theorem Jt(h:Un n xs)(h0:0<=n):(xs.length:Int)<=n:=by
 have:=FT (n:=n.toNat) h.1 λx hx=>by have:=h.2 x hx;omega
 omega
theorem Qf(h:Un n xs)(h0:0<=n)(h1:n<=60):pD n xs:=⟨h.1,by have:=Jt h h0;omega,h.2⟩
theorem Qg(h:Un n xs)(h0:0<=x)(h1:x<n)(hx:x∉xs):Un n (xs++[x]):=by
 refine⟨?_,λy hy=>?_⟩
 ·rw[nodup_append]
  refine⟨h.1,by simp,λa ha b hb e=>hx ?_⟩
  rw[<-mem_singleton.mp hb,<-e]
  exact ha
 ·rcases mem_append.mp hy with z|z
  ·exact h.2 y z
  ·rw[mem_singleton.mp z];exact⟨h0,h1⟩
theorem zJa(q:Int)(h0:0<=n)(h1:n<=60):W (vE q n) (Un n):=by
 unfold vE
 rw[zB,aj,zB,zB,vI]
 refine⟨⟨by omega,by omega⟩,?_⟩
 refine uQ (λi s=>iJ (i:Int) s.1) ⟨.nil,λx hx=>by cases hx⟩ (λi x s hi hI=>?_) λs hI=>?_
 ·obtain⟨rfl,il⟩:=yu hi
  have sl:s.1.length<=1000:=by
   have:=FT (n:=i) hI.nodup hI.2
   omega
  rw[zB,zB,zB,wZ]
  refine⟨by decide,?_⟩
  rw[aj,oM]
  refine⟨λ_=>?_,λ_=>?_⟩
  ·rw[zB,ud]
   refine⟨yR sl,?_⟩
   rw[aj,zB,uW]
   refine⟨⟨by decide,by decide⟩,?_⟩
   rw[aj]
   exact zM2 hI (by omega) (by omega)
  ·rw[aj,zB,uW]
   refine⟨⟨by decide,by decide⟩,?_⟩
   rw[aj]
   exact yx hI (by omega)
 ·rw[xS] at hI
  have un:Un n s.1:=⟨hI.nodup,λx hx=>by have:=hI.2 x hx;omega⟩
  rw[zB,zB,zB,wZ]
  refine⟨by decide,?_⟩
  rw[aj,oM]
  refine⟨λ_=>?_,λ_=>?_⟩
  ·rw[zB,aj,aj,aj]
   exact⟨zGx un.1,λx hx=>un.2 x (List.mem_reverse.mp hx)⟩
  ·rw[aj,aj]
   exact un
structure lU(n:Int)(maps:LI)(bases:Int):Prop where
 len:(maps.length:Int)=n
 pos:1<=n
 few:n<=20
 b1:1<=bases
 bn:bases<=n
 at_:∀i:Nat,(i:Int)<n->0<=ng maps i/\ng maps i<bases
 self:∀i:Nat,(i:Int)<bases->ng maps i=i
theorem zSi(i:Nat):ng (xs++[y]) i=if i<xs.length then ng xs i else if i=xs.length then y else 0:=by
 unfold ng
 rw[getD_eq_getElem?_getD,getD_eq_getElem?_getD]
 by_cases h:i<xs.length
 ·rw[if_pos h,getElem?_append_left h]
 ·rw[if_neg h,getElem?_append_right (by omega)]
  by_cases e:i=xs.length
  ·subst e;rw[if_pos rfl,Nat.sub_self];rfl
  ·rw[if_neg e,List.getElem?_eq_none (by rw[length_singleton];omega)];rfl
theorem Hx(q:lJ):W (uJ q) λv=>∃n,lU n v.1 v.2:=by
 unfold uJ
 obtain⟨c0,e0,_⟩:=vZ q (k:=0) (by decide)
 obtain⟨c1,e1,_⟩:=vZ q (k:=1) (by decide)
 rw[e0,e1,zB,zB,zB,aj,wZ]
 refine⟨by decide,?_⟩
 rw[aj,zB,zB,zB,zB,zB,aj,uW]
 refine⟨⟨by decide,by decide⟩,?_⟩
 rw[wZ]
 refine⟨by decide,?_⟩
 rw[aj]
 have many:W (if decide (c0/8%8=5)=true then(((((some c0).bind λa10=>bF a10 64).bind λa11=>aQ a11 20).bind λUt=>some ((1:Int)+Ut)).bind λnO=>some nO) else some ((1:Int)+c0%8)) λn=>1<=n/\n<=20:=by
  rw[oM]
  refine⟨λ_=>?_,λ_=>?_⟩
  ·rw[zB,zB,zB,zB,aj,uW]
   refine⟨⟨by decide,by decide⟩,?_⟩
   rw[wZ]
   refine⟨by decide,?_⟩
   rw[aj,aj]
   omega
  ·rw[aj]
   omega
 refine many.imp λn ⟨n1,n20⟩=>?_
 rw[zB,zB,zB,aj,wZ]
 refine⟨by omega,?_⟩
 rw[aj]
 have b0:=Int.emod_nonneg c1 (show n≠0 by omega)
 have b1:=Int.emod_lt_of_pos c1 (show 0<n by omega)
 generalize hb:(1:Int)+c1%n=bs
 rw[zB,aj,zB,zB,vI]
 refine⟨⟨by omega,by omega⟩,?_⟩
 refine uQ (λi s=>s.length=i/\(∀j:Nat,j<i->0<=ng s j/\ng s j<bs)/\∀j:Nat,j<i->(j:Int)<bs->ng s j=j) ⟨rfl,λj h=>by omega,λj h=>by omega⟩ (λi x s hi hI=>?_) λs hI=>?_
 ·obtain⟨rfl,il⟩:=yu hi
  obtain⟨sl,s1,s2⟩:=hI
  obtain⟨z,ez,_⟩:=MJ c1 (i:Int)
  rw[zB,zB,zB,zB,zB,zB,zB,aj,aj]
  show W (xV c1 (i:Int)) _
  rw[ez,aj,wZ]
  refine⟨by omega,?_⟩
  rw[zB,Cz]
  refine⟨.inl ⟨by omega,by omega⟩,?_⟩
  rw[aj,aj,ud]
  refine⟨yR (by omega),?_⟩
  rw[aj]
  have z0:=Int.emod_nonneg z (show bs≠0 by omega)
  have z1:=Int.emod_lt_of_pos z (show 0<bs by omega)
  generalize z%bs=y at z0 z1
  have val:∀w:Int,w=min (i:Int) (y+bs*(if decide ((i:Int)<bs)=true then(1:Int) else 0))->(0<=w/\w<bs)/\((i:Int)<bs->w=i):=λw hw=>by
   by_cases ib:(i:Int)<bs
   ·rw[if_pos (decide_eq_true ib)] at hw
    rw[hw]
    exact⟨⟨by omega,by omega⟩,λ_=>by omega⟩
   ·rw[if_neg (λh=>ib (of_decide_eq_true h))] at hw
    rw[hw]
    exact⟨⟨by omega,by omega⟩,λh=>absurd h ib⟩
  generalize hw:min (i:Int) (y+bs*(if decide ((i:Int)<bs)=true then(1:Int) else 0))=w
  obtain⟨v1,v2⟩:=val w hw.symm
  refine⟨by rw[length_append,sl];rfl,λj hj=>?_,λj hj jb=>?_⟩
  ·rw[zSi,sl]
   by_cases e:j<i
   ·rw[if_pos e];exact s1 j e
   ·rw[if_neg e,if_pos (by omega)];exact v1
  ·rw[zSi,sl]
   by_cases e:j<i
   ·rw[if_pos e];exact s2 j e jb
   ·rw[if_neg e,if_pos (by omega),v2 (by omega)];omega
 ·obtain⟨sl,s1,s2⟩:=hI
  rw[xS] at sl s1 s2
  rw[aj]
  exact⟨n,by show(s.length:Int)=n;omega,n1,n20,by show(1:Int)<=bs;omega,by show bs<=n;omega,λi hi=>s1 i (by omega),λi hi=>s2 i (by omega) hi⟩
def mU(maps:LI)(n b:Int):LI:=(rng n).filter λx=>decide (ng maps x.toNat=b)
section
variable{n:Int}{maps:LI}{bases:Int}
theorem mV:x∈mU maps n b↔(0<=x/\x<n)/\ng maps x.toNat=b:=by
 unfold mU
 rw[mem_filter,cX]
 exact⟨λh=>⟨h.1,of_decide_eq_true h.2⟩,λh=>⟨h.1,decide_eq_true h.2⟩⟩
theorem Hy(h:lU n maps bases)(b0:0<=b)(b1:b<bases):0<(mU maps n b).length:=by
 refine length_pos_iff.mpr λe=>?_
 have bn:=h.bn
 have:b∈mU maps n b:=mV.mpr ⟨⟨b0,by omega⟩,by rw[h.self b.toNat (by omega)];omega⟩
 rw[e] at this
 cases this
theorem M4(h:lU n maps bases)(b:Int):((wF (maps.length:Int)).bind λxs=>xG (λ(x7:Int)=>(aV maps x7).bind λa8=>some (decide (a8=b))) (λ(x7:Int)=>some x7) xs)=some (mU maps n b):=by
 have l:=h.len
 have f:=h.few
 have p:=h.pos
 apply lD
 rw[zB,vI,l]
 refine⟨⟨by omega,by omega⟩,?_⟩
 unfold xG
 rw[if_pos (yR (by rw[xS];omega)),Qe (p:=λx=>decide (ng maps x.toNat=b)) (g:=λx=>x) (λx hx=>?_) (λ_ _=>rfl),aj,map_id']
 ·rfl
 ·obtain⟨x0,x1⟩:=cX.mp hx
  rw[wJ x0,qz (by omega)];rfl
theorem Hz(e:aV P g=some l)(hl:0<l.length)(more:Int){Q:Int->Prop}(k:∀x∈l,Q x):W ((aV P g).bind λa34=>(((aV P g).bind λa32=>some (a32.length:Int)).bind λMs=>aQ more Ms).bind λMt=>aV a34 Mt) Q:=by
 rw[e,zB,aj,zB,zB,zB,aj,aj,wZ]
 refine⟨by omega,?_⟩
 have m0:=Int.emod_nonneg more (show(l.length:Int)≠0 by omega)
 have m1:=Int.emod_lt_of_pos more (show(0:Int)<l.length by omega)
 rw[FN m0]
 exact⟨_,List.getElem?_eq_getElem (by omega),k _ (getElem_mem _)⟩
theorem M5(h:lU n maps bases)(q:lJ)(s0:0<=s)(hg:Un bases goals)(gn:goals≠[]):W (xR (λ(Bc:LI) (x27:Int)=>(((zS q ((6:Int)+s)).bind λa30=>some ((a30,((100:Int)+x27,())))).bind λMr=>xV Mr.1 Mr.2.1).bind λgC=>(((aV ((rng bases).map (mU maps n)) x27).bind λa34=>(((aV ((rng bases).map (mU maps n)) x27).bind λa32=>some (a32.length:Int)).bind λMs=>aQ gC Ms).bind λMt=>aV a34 Mt).bind λa36=>push Bc a36).bind λi_=>((aV ((rng bases).map (mU maps n)) x27).bind λa41=>((bF gC (64:Int)).bind λa39=>((aV ((rng bases).map (mU maps n)) x27).bind λa38=>some (a38.length:Int)).bind λUj=>aQ a39 Uj).bind λUk=>aV a41 Uk).bind λcj=>(if(!decide (cj∈i_))=true then(push i_ cj).bind λnJ=>some nJ else some i_).bind λMu=>some Mu) goals []) λrow=>row≠[]/\Un n row:=by
 have hn:=h.few
 have hp:=h.pos
 have hb:=h.bn
 have gl:=Jt hg (by have:=h.b1;omega)
 refine uQ (λi row=>Un n row/\(∀x∈row,ng maps x.toNat∈goals.take i)/\(0<i->row≠[])) ⟨⟨.nil,λx hx=>(by cases hx)⟩,λx hx=>(by cases hx),λz=>absurd z (by omega)⟩ (λi g row hi hI=>?_) λrow hI=>⟨hI.2.2 (length_pos_iff.mpr gn),hI.1⟩
 obtain⟨un,hm,_⟩:=hI
 have il:=yC hi
 obtain⟨g0,g1⟩:=hg.2 g (mem_of_getElem? hi)
 have ep:aV ((rng bases).map (mU maps n)) g=some (mU maps n g):=by
  rw[wJ g0,getElem?_map,PN (by omega)]
  show some _=some _
  congr 2
  omega
 have tk:goals.take (i+1)=goals.take i++[g]:=by rw[take_add_one,hi];rfl
 have HB:g∉goals.take i:=RM hg.1 hi
 have pl:=Hy h g0 g1
 have rl:=Jt un (by omega)
 rw[zB,zB,zB]
 refine(vZ q (by omega)).imp λc _=>?_
 rw[aj]
 refine(MJ c _).imp λmore _=>?_
 rw[zB,zB]
 refine Hz ep pl more λx hx=>?_
 obtain⟨⟨x0,x1⟩,xg⟩:=mV.mp hx
 have xr:x∉row:=λz=>HB (by rw[<-xg];exact hm x z)
 have U9:=Qg un x0 x1 xr
 rw[ud]
 refine⟨yR (by omega),?_⟩
 have m2:∀z∈row++[x],ng maps z.toNat∈goals.take (i+1):=λz hz=>by
  rw[tk]
  rcases mem_append.mp hz with w|w
  ·exact mem_append_left _ (hm z w)
  ·rw[mem_singleton.mp w,xg];exact mem_append_right _ mem_cons_self
 have rl2:=Jt U9 (by omega)
 rw[ep,zB,zB,aj,zB,zB,uW]
 refine⟨⟨by decide,by decide⟩,?_⟩
 rw[zB,zB,aj,aj,wZ]
 refine⟨by omega,?_⟩
 have m0:=Int.emod_nonneg (more/64) (show((mU maps n g).length:Int)≠0 by omega)
 have m1:=Int.emod_lt_of_pos (more/64) (show(0:Int)<(mU maps n g).length by omega)
 rw[FN m0]
 refine⟨_,List.getElem?_eq_getElem (by omega),?_⟩
 have hy:(mU maps n g)[(more/64%((mU maps n g).length:Int)).toNat]'(by omega)∈mU maps n g:=getElem_mem _
 generalize(mU maps n g)[(more/64%((mU maps n g).length:Int)).toNat]'(by omega)=y at hy
 obtain⟨⟨y0,y1⟩,yg⟩:=mV.mp hy
 rw[zB,oM]
 refine⟨λhn=>?_,λ_=>?_⟩
 ·have yr:y∉row++[x]:=by simpa using hn
  rw[zB,ud]
  refine⟨yR (by omega),?_⟩
  rw[aj,aj]
  refine⟨Qg U9 y0 y1 yr,λz hz=>?_,λ_=>by simp⟩
  rcases mem_append.mp hz with w|w
  ·exact m2 z w
  ·rw[mem_singleton.mp w,yg,tk];exact mem_append_right _ mem_cons_self
 ·rw[aj,aj]
  exact⟨U9,m2,λ_=>by simp⟩
end
section
variable{n:Int}{maps:LI}{bases:Int}
theorem zPx(h:lU n maps bases)(q:lJ):W (vN q maps bases) λxss=>(xss.length:Int)=n/\∀xs∈xss,xs≠[]/\Un n xs:=by
 have hl:=h.len
 have hn:=h.few
 have hp:=h.pos
 have hb:=h.bn
 have hb1:=h.b1
 unfold vN
 rw[zB]
 refine(vZ q (by decide)).imp λkept _=>?_
 rw[zB,aj,zB,zB,vI]
 refine⟨⟨by omega,by omega⟩,?_⟩
 have e:=UL (f:=λb:Int=>(wF (maps.length:Int)).bind λxs=>xG (λ(x7:Int)=>(aV maps x7).bind λa8=>some (decide (a8=b))) (λ(x7:Int)=>some x7) xs) (k:=mU maps n) (xs:=rng bases) (λb _=>M4 h b) (by rw[xS];omega)
 rw[e,aj,zB,aj,zB,zB,hl,vI]
 refine⟨⟨by omega,by omega⟩,?_⟩
 refine uQ (λi s=>s.xss.length=i/\∀xs∈s.xss,xs≠[]/\Un n xs) ⟨rfl,λx hx=>(by cases hx)⟩ (λi x s hi hI=>?_) λs hI=>?_
 ·obtain⟨rfl,il⟩:=yu hi
  obtain⟨sl,sm⟩:=hI
  rw[zB,zB,zB,zB,zB,wJ (by omega),Int.toNat_natCast,qz (by omega),aj,aj,aj,aj]
  refine(MJ _ _).imp λrest _=>?_
  rw[zB]
  refine(zJa rest (by omega) (by omega)).imp λgoals hg=>?_
  have key:W (if(decide ((goals.length:Int)=(0:Int)))=true then((aQ rest bases).bind λa23=>some (a23::([]))).bind λiZ=>some iZ else some goals) λs=>Un bases s/\s≠[]:=by
   rw[oM]
   refine⟨λ_=>?_,λz=>?_⟩
   ·rw[zB,zB,wZ]
    refine⟨by omega,?_⟩
    rw[aj,aj]
    refine⟨⟨by simp,λx hx=>?_⟩,by simp⟩
    rw[mem_singleton.mp hx]
    exact⟨Int.emod_nonneg _ (by omega),Int.emod_lt_of_pos _ (by omega)⟩
   ·rw[aj]
    refine⟨hg,λe=>z (by rw[e];rfl)⟩
  rw[zB]
  refine key.imp λHg ⟨u,ne⟩=>?_
  rw[zB,aj,zB,zB,aj]
  refine(M5 h q (by omega) u ne).imp λrow ⟨rn,ru⟩=>?_
  rw[zB]
  unfold Pk
  rw[if_pos (yR (by omega)),aj,aj]
  refine⟨by show(s.xss++[row]).length=_;rw[length_append,sl];rfl,λxs hx=>?_⟩
  rcases mem_append.mp (show xs∈s.xss++[row] from hx) with z|z
  ·exact sm xs z
  ·rw[mem_singleton.mp z];exact⟨rn,ru⟩
 ·obtain⟨sl,sm⟩:=hI
  rw[xS] at sl
  rw[zB,zB,zB]
  refine(vZ q (by decide)).imp λc3 _=>?_
  rw[aj]
  refine(MJ _ _).imp λrest _=>?_
  have k0:=Int.emod_nonneg (rest/3/64) (show n≠0 by omega)
  have k1:=Int.emod_lt_of_pos (rest/3/64) (show 0<n by omega)
  have a0:=Int.emod_nonneg (rest/3) (show n≠0 by omega)
  have a1:=Int.emod_lt_of_pos (rest/3) (show 0<n by omega)
  have kl:(rest/3/64%n).toNat<s.xss.length:=by omega
  have ek:=List.getElem?_eq_getElem kl
  have rk:=sm _ (getElem_mem kl)
  generalize s.xss[(rest/3/64%n).toNat]=r at ek rk
  have key2:W (((aQ rest (3:Int)).bind λa50=>some (decide (a50=(0:Int)))).bind λUl=>if Ul=true then((bF rest (3:Int)).bind λa54=>aQ a54 n).bind λa55=>((((bF rest (3:Int)).bind λa51=>bF a51 (64:Int)).bind λa52=>aQ a52 n).bind λUm=>aV s.xss Um).bind λUo=>some (!decide (a55∈Uo)) else some false) λb=>b=true->rest/3%n∉r:=by
   rw[zB,zB,wZ]
   refine⟨by decide,?_⟩
   rw[aj,oM]
   refine⟨λ_=>?_,λ_=>aj.mpr λz=>(by cases z)⟩
   rw[zB,zB,uW]
   refine⟨⟨by decide,by decide⟩,?_⟩
   rw[wZ]
   refine⟨by omega,?_⟩
   rw[zB,zB,zB,zB,uW]
   refine⟨⟨by decide,by decide⟩,?_⟩
   rw[uW]
   refine⟨⟨by decide,by decide⟩,?_⟩
   rw[wZ]
   refine⟨by omega,?_⟩
   rw[wJ k0,ek,aj,aj]
   intro z
   simpa using z
  rw[zB,zB]
  refine key2.imp λb hb=>?_
  rw[oM]
  refine⟨λe=>?_,λ_=>by rw[aj,aj];exact⟨by omega,sm⟩⟩
  have ar:=hb e
  rw[zB,zB,zB,zB,uW]
  refine⟨⟨by decide,by decide⟩,?_⟩
  rw[uW]
  refine⟨⟨by decide,by decide⟩,?_⟩
  rw[wZ]
  refine⟨by omega,?_⟩
  rw[zB,zB,uW]
  refine⟨⟨by decide,by decide⟩,?_⟩
  rw[wZ]
  refine⟨by omega,?_⟩
  unfold Dg
  have rl:=Jt rk.2 (by omega)
  rw[if_pos k0,ek]
  show W (if r.length<cap then _ else _) _
  rw[if_pos (yR (by omega)),aj,aj,aj]
  refine⟨by show((s.xss.set _ _).length:Int)=n;rw[List.length_set];omega,λxs hx=>?_⟩
  rcases List.mem_or_eq_of_mem_set (show xs∈s.xss.set _ _ from hx) with z|z
  ·exact sm xs z
  ·rw[z]
   exact⟨by simp,Qg rk.2 a0 a1 ar⟩
theorem zL7(h:lU n maps bases)(c:Int)(k0:0<=k)(k1:k<=100):W (vG c k maps bases) (Un n):=by
 have hl:=h.len
 have hn:=h.few
 have hp:=h.pos
 have hb:=h.bn
 have hb1:=h.b1
 unfold vG
 rw[zB,zB,zB,zB]
 refine(MJ _ _).imp λz _=>?_
 rw[uW]
 refine⟨⟨by omega,by omega⟩,?_⟩
 rw[aj]
 refine(zJa _ (by show(0:Int)<=bases;omega) (by show bases<=60;omega)).imp λgoals hg=>?_
 have ef:((wF (maps.length:Int)).bind λxs=>xG (λ(x6:Int)=>(aV maps x6).bind λa7=>some (decide (a7∈goals))) (λ(x6:Int)=>some x6) xs)=some ((rng n).filter λx=>decide (ng maps x.toNat∈goals)):=by
  apply lD
  rw[zB,vI,hl]
  refine⟨⟨by omega,by omega⟩,?_⟩
  unfold xG
  rw[if_pos (yR (by rw[xS];omega)),Qe (p:=λx=>decide (ng maps x.toNat∈goals)) (g:=λx=>x) (λx hx=>?_) (λ_ _=>rfl),aj,map_id']
  obtain⟨x0,x1⟩:=cX.mp hx
  rw[wJ x0,qz (by omega)];rfl
 have rf:iJ n ((rng n).filter λx=>decide (ng maps x.toNat∈goals)):=zDj _ (zJr n)
 rw[zB,ef,aj]
 generalize((rng n).filter λx=>decide (ng maps x.toNat∈goals))=found at rf
 have uf:Un n found:=⟨rf.nodup,rf.2⟩
 have key:W ((((bF c (7:Int)).bind λa8=>aQ a8 (2:Int)).bind λa9=>some (decide (a9=(1:Int)))).bind λb=>if b=true then(some found.reverse).bind λjc=>some jc else some found) (Un n):=by
  rw[zB,zB,zB,uW]
  refine⟨⟨by decide,by decide⟩,?_⟩
  rw[wZ]
  refine⟨by decide,?_⟩
  rw[aj,oM]
  refine⟨λ_=>?_,λ_=>aj.mpr uf⟩
  rw[zB,aj,aj]
  exact⟨zGx uf.1,λx hx=>uf.2 x (List.mem_reverse.mp hx)⟩
 rw[zB]
 refine key.imp λqW us=>?_
 have sl:=Jt us (by omega)
 have key2:W (((((bF c (14:Int)).bind λa13=>aQ a13 (5:Int)).bind λa14=>(aQ k (9:Int)).bind λHf=>some (decide (a14=Hf))).bind λc16=>if c16=true then some (decide ((1:Int)<(maps.length:Int))) else some false).bind λb=>if b=true then((bF c (70:Int)).bind λa20=>aQ a20 (maps.length:Int)).bind λcY=>(if(!decide (cY∈qW))=true then(push qW cY).bind λjd=>some jd else some qW).bind λBd=>some Bd else some qW) (Un n):=by
  rw[zB,zB,zB,zB,uW]
  refine⟨⟨by decide,by decide⟩,?_⟩
  rw[wZ]
  refine⟨by decide,?_⟩
  rw[zB,wZ]
  refine⟨by decide,?_⟩
  rw[aj]
  refine(show W (if decide (c/14%5=k%9)=true then some (decide ((1:Int)<(maps.length:Int))) else some false) (λ_=>True) by rw[oM];exact⟨λ_=>aj.mpr trivial,λ_=>aj.mpr trivial⟩).imp λb _=>?_
  rw[oM]
  refine⟨λ_=>?_,λ_=>aj.mpr us⟩
  rw[zB,zB,uW]
  refine⟨⟨by decide,by decide⟩,?_⟩
  rw[wZ]
  refine⟨by omega,?_⟩
  rw[hl,zB,oM]
  refine⟨λz=>?_,λ_=>by rw[aj,aj];exact us⟩
  rw[zB,ud]
  refine⟨yR (by omega),?_⟩
  rw[aj,aj]
  exact Qg us (Int.emod_nonneg _ (by omega)) (Int.emod_lt_of_pos _ (by omega)) (by simpa using z)
 rw[zB]
 refine key2.imp λjN u17=>?_
 rw[aj]
 exact u17
end
theorem zJ5(h0:0<=n)(h1:n<=60){t:List Nat}(t7:t.length<=7)(tl:pG t){ms:List (Str×LI)}(hl:ms.length<=4)(hm:∀(j:Nat) (p:Str×LI),ms[j]?=some p->p.1=dR (qC e t r (j:Int))/\Un n p.2):uZ n ms:=by
 refine⟨?_,by omega,λp hp=>?_⟩
 ·rw[List.nodup_iff_pairwise_ne,pairwise_iff_getElem]
  intro i j hi hj ij q
  rw[length_map] at hi hj
  rw[List.getElem_map,List.getElem_map,(hm i _ (List.getElem?_eq_getElem hi)).1,(hm j _ (List.getElem?_eq_getElem hj)).1] at q
  have:=Hv (by omega) (by omega) (zNx q)
  omega
 ·obtain⟨j,hj⟩:=mem_iff_getElem?.mp hp
  obtain⟨e1,e2⟩:=hm j p hj
  rw[e1]
  have l8:=(zNy (e:=e) (r:=r) (k:=(j:Int)) t7).2
  exact⟨zQt t7 tl,by rw[PJ];omega,Qf e2 h0 h1⟩
theorem Bp(q:lJ):W (wO q) λT=>∃n,Ht n T:=by
 unfold wO
 obtain⟨c0,e0,_⟩:=vZ q (k:=0) (by decide)
 obtain⟨c1,e1,_⟩:=vZ q (k:=1) (by decide)
 obtain⟨c4,e4,_⟩:=vZ q (k:=4) (by decide)
 obtain⟨c5,e5,_⟩:=vZ q (k:=5) (by decide)
 obtain⟨e,t,r,t7,tl,nm⟩:=Hw c5
 rw[e0,e1,e4,e5,zB,zB,zB,zB,aj,uW]
 refine⟨⟨by decide,by decide⟩,?_⟩
 rw[wZ]
 refine⟨by decide,?_⟩
 rw[aj,oM]
 refine⟨λ_=>?_,λ_=>?_⟩
 ·rw[zB,zB,zB,aj,wZ]
  refine⟨by decide,?_⟩
  rw[aj]
  have b0:=Int.emod_nonneg c1 (show(29:Int)≠0 by decide)
  have b1:=Int.emod_lt_of_pos c1 (show(0:Int)<29 by decide)
  generalize hn:(12:Int)+c1%29=n
  rw[zB,zB,vI]
  refine⟨⟨by omega,by omega⟩,?_⟩
  rw[FQ (λx8:Int=>[min (x8+(1:Int)) (n-(1:Int))])]
  refine⟨yR (by rw[xS];omega),?_⟩
  rw[zB,zB,zB,zB,zB,aj,aj]
  show W (xU c5 0) _
  rw[nm 0 (Int.le_refl _),aj,aj,aj,aj]
  refine⟨n,⟨?_,by omega,by omega,λxs hx=>?_,zJ5 (e:=e) (t:=t) (r:=r) (by omega) (by omega) t7 tl (show 1<=4 by decide) λj p hp=>?_,by show 1<32;decide,by show 0<32;decide,λxs hx=>(by cases hx)⟩⟩
  ·show(((rng n).map _).length:Int)=n
   rw[length_map,xS];omega
  ·obtain⟨x,hxr,rfl⟩:=mem_map.mp (show xs∈(rng n).map _ from hx)
   obtain⟨x0,x1⟩:=cX.mp hxr
   refine⟨by simp,Qf ⟨by simp,λz hz=>?_⟩ (by omega) (by omega)⟩
   rw[mem_singleton.mp hz]
   omega
  ·cases j with
   |zero =>
    cases(Option.some.inj (show some _=some p from hp))
    exact⟨rfl,by simp,λz hz=>by rw[mem_singleton.mp hz];omega⟩
   |succ j=>cases j<;>cases hp
 ·rw[zB]
  refine(Hx q).imp λv ⟨n,h⟩=>?_
  have hn:=h.few
  have hp:=h.pos
  rw[zB]
  refine(zPx h q).imp λsteps ⟨sl,sm⟩=>?_
  have m0:=Int.emod_nonneg c4 (show(4:Int)≠0 by decide)
  have m1:=Int.emod_lt_of_pos c4 (show(0:Int)<4 by decide)
  have f0:=Int.emod_nonneg (c5/5) (show(4:Int)≠0 by decide)
  have f1:=Int.emod_lt_of_pos (c5/5) (show(0:Int)<4 by decide)
  rw[zB,aj,zB,zB,zB,zB,aj,wZ]
  refine⟨by decide,?_⟩
  rw[vI]
  refine⟨⟨by omega,by omega⟩,?_⟩
  refine uQ (λi s=>s.length=i/\∀(j:Nat)(p:Str×LI),s[j]?=some p->p.1=dR (qC e t r (j:Int))/\Un n p.2) ⟨rfl,λj p h=>by simp at h⟩ (λi x s hi hI=>?_) λms hI=>?_
  ·obtain⟨rfl,il⟩:=yu hi
   obtain⟨l1,l2⟩:=hI
   rw[zB,zB,zB,zB,zB,aj,aj]
   show W (xU c5 (i:Int)) _
   rw[nm (i:Int) (by omega),aj,zB,zB,zB,aj,aj]
   refine(zL7 h c4 (k:=(i:Int)) (by omega) (by omega)).imp λst us=>?_
   rw[aj,ud]
   refine⟨yR (by omega),?_⟩
   rw[aj]
   refine⟨by rw[length_append,l1];rfl,λj p hp=>?_⟩
   rcases Nat.lt_or_ge j s.length with z|z
   ·rw[getElem?_append_left z] at hp
    exact l2 j p hp
   ·rw[getElem?_append_right z] at hp
    have ej:j=i:=by
     have:=yC hp
     rw[length_singleton] at this
     omega
    rw[ej,l1,Nat.sub_self] at hp
    cases(Option.some.inj (show some _=some p from hp))
    rw[ej]
    exact⟨rfl,us⟩
  ·obtain⟨l1,l2⟩:=hI
   rw[xS] at l1
   rw[zB,aj,zB,zB,zB,zB,zB,aj,uW]
   refine⟨⟨by decide,by decide⟩,?_⟩
   rw[wZ]
   refine⟨by decide,?_⟩
   rw[vI]
   refine⟨⟨by omega,by omega⟩,?_⟩
   refine uQ (λi s=>s.length=i/\∀xs∈s,Un n xs) ⟨rfl,λx h=>(by cases h)⟩ (λi x s hi hI=>?_) λfs hI=>?_
   ·obtain⟨rfl,il⟩:=yu hi
    obtain⟨k1,k2⟩:=hI
    rw[zB,zB,zB,zB,aj,aj]
    refine(zL7 h c5 (k:=(9:Int)+i) (by omega) (by omega)).imp λst us=>?_
    rw[ud]
    refine⟨yR (by omega),?_⟩
    rw[aj]
    refine⟨by rw[length_append,k1];rfl,λxs hx=>?_⟩
    rcases mem_append.mp hx with z|z
    ·exact k2 xs z
    ·rw[mem_singleton.mp z];exact us
   ·obtain⟨k1,k2⟩:=hI
    rw[xS] at k1
    rw[aj]
    exact⟨n,sl,hp,by omega,λxs hx=>⟨(sm xs hx).1,Qf (sm xs hx).2 (by omega) (by omega)⟩,zJ5 (by omega) (by omega) t7 tl (by show ms.length<=4;omega) l2,by show ms.length<32;omega,by show fs.length<32;omega,λxs hx=>Qf (k2 xs hx) (by omega) (by omega)⟩
section
variable{S α β:Type}
theorem Bq{step:S->α->Option (Out S β)}{Q:Out S β->Prop}(I:Nat->S->Prop)(h0:I 0 s)(hs:∀i x s,xs[i]?=some x->I i s->W (step s x) λo=>(∃s',o=.nx s'/\I (i+1) s')\/∃b,o=.rt b/\Q (.rt b))(hd:∀s,I xs.length s->Q (.nx s)):W (uB step xs s) Q:=by
 have key:∀(ys:List α)(i:Nat)(s:S),(∀j x,ys[j]?=some x->xs[i+j]?=some x)->i+ys.length=xs.length->I i s->W (uB step ys s) Q:=by
  intro ys
  induction ys with
  |nil=>intro i s _ hl h;exact⟨.nx s,rfl,hd s ((show i=xs.length from hl)▸h)⟩
  |cons y ys ih =>
   intro i s hy hl h
   rw[Xm,zB]
   refine(hs i y s (hy 0 y rfl) h).imp ?_
   rintro o (⟨s',rfl,h'⟩|⟨b,rfl,h'⟩)
   ·refine ih (i+1) s' (λj x hx=>?_) (by rw[length_cons] at hl;omega) h'
    have:=hy (j+1) x (by simpa using hx)
    rw[show i+1+j=i+(j+1) by omega]
    exact this
   ·exact⟨.rt b,rfl,h'⟩
 exact key xs 0 s (λj x h=>by rw[Nat.zero_add];exact h) (Nat.zero_add _) h0
end
section
variable{C:Addr}{m:aF C}{n:Int}{rows:List LI}
theorem U_(g:Gr m n)(h:qY m n rows):∀{i:Nat}{a:LI},rows[i]?=some a->pF m n a
 |0,a,e=>by
  have:=h.1
  rw[head?_eq_getElem?,e] at this
  rw[Option.some.inj this]
  exact zKe g
 |i+1,a,e=>by
  have il:=yC e
  have e0:=List.getElem?_eq_getElem (show i<rows.length by omega)
  rw[h.2 i _ a e0 e]
  exact zSr g (U_ g h e0)
def M6(m:aF C)(n:Int)(e:Int->Int):Prop:=∀x y,0<=x->x<n->0<=y->y<n->e x=e y->k1 m x=k1 m y/\∀t∈nxt m.steps x,∃u∈nxt m.steps y,e t=e u
theorem Dp(g:Gr m n){x y:Int}(e:ng c x.toNat=ng c y.toNat)(h:∀k,k∈(nxt m.steps x).map (λt=>ng c t.toNat)↔k∈(nxt m.steps y).map λt=>ng c t.toNat):k2 m c x=k2 m c y:=by
 unfold k2
 rw[e]
 have:oh ((n_ (nxt m.steps x)).map λt=>ng c t.toNat)=oh ((n_ (nxt m.steps y)).map λt=>ng c t.toNat):=z_ (Jd _) (Jd _) λk=>by
  rw[xK,xK,((xA (nxt m.steps x)).map _).mem_iff,((xA (nxt m.steps y)).map _).mem_iff,h]
 rw[this]
theorem zPi(g:Gr m n)(h:qY m n rows)(s:M6 m n e):∀{i:Nat}{a:LI},rows[i]?=some a->∀x y,0<=x->x<n->0<=y->y<n->e x=e y->ng a x.toNat=ng a y.toNat
 |0,a,ea,x,y,x0,x1,y0,y1,HD=>by
  have:=h.1
  rw[head?_eq_getElem?,ea] at this
  rw[Option.some.inj this]
  refine(PL (dW (i:=x.toNat) (n:=n) (by omega)) (dW (i:=y.toNat) (by omega))).mpr ?_
  rw[show((x.toNat:Nat):Int)=x by omega,show((y.toNat:Nat):Int)=y by omega]
  exact(s x y x0 x1 y0 y1 HD).1
 |i+1,b,eb,x,y,x0,x1,y0,y1,HD=>by
  have il:=yC eb
  have ea:=List.getElem?_eq_getElem (show i<rows.length by omega)
  have ih:=zPi g h s ea
  rw[h.2 i _ b ea eb]
  refine(P0 (m:=m) (n:=n) _ (i:=x.toNat) (j:=y.toNat) (by omega) (by omega)).mpr ?_
  rw[show((x.toNat:Nat):Int)=x by omega,show((y.toNat:Nat):Int)=y by omega]
  have half:∀x y,0<=x->x<n->0<=y->y<n->e x=e y->∀k,k∈(nxt m.steps x).map (λt=>ng rows[i] t.toNat)->k∈(nxt m.steps y).map λt=>ng rows[i] t.toNat:=λx y x0 x1 y0 y1 HD k hk=>by
   obtain⟨t,ht,rfl⟩:=mem_map.mp hk
   obtain⟨u,hu,etu⟩:=(s x y x0 x1 y0 y1 HD).2 t ht
   have rt:=(um g x0 x1).2.1 t ht
   have ru:=(um g y0 y1).2.1 u hu
   exact mem_map.mpr ⟨u,hu,(ih t u rt.1 rt.2 ru.1 ru.2 etu).symm⟩
  exact Dp g (ih x y x0 x1 y0 y1 HD) λk=>⟨half x y x0 x1 y0 y1 HD k,half y x y0 y1 x0 x1 HD.symm k⟩
def Br(m:aF C)(rows:List LI)(i:Nat)(x y:Int)(r:Str×Key):Prop :=
 (i=0/\((∃p∈m.marks,r=(("mark":Str),(Sum.inr p.1:Key))/\¬(x∈p.2↔y∈p.2))\/∃(j:Nat)(s:LI),m.fair[j]?=some s/\r=(("fair":Str),(Sum.inl (j:Int):Key))/\¬(x∈s↔y∈s))) \/
 ∃(j:Nat)(a:LI)(s:Int),i=j+1/\rows[j]?=some a/\((r=(("step":Str),(Sum.inl s:Key))/\s∈nxt m.steps x/\∀t∈nxt m.steps y,ng a s.toNat≠ng a t.toNat)\/(r=(("answer":Str),(Sum.inl s:Key))/\s∈nxt m.steps y/\∀t∈nxt m.steps x,ng a t.toNat≠ng a s.toNat))
theorem Qh{α:Type}{xs:List α}(h:xs≠[]):∃a,a∈xs/\aV xs (0:Int)=some a:=by
 obtain⟨a,r,rfl⟩:=List.exists_cons_of_ne_nil h
 exact⟨a,mem_cons_self,by rw[wJ (Int.le_refl _)];rfl⟩
theorem Qi(nd:(m.marks.map (·.1)).Nodup)(x:Int):(bf (vQ m x)).Nodup:=by
 rw[(aD _).nodup_iff]
 exact((List.filter_sublist).map _).nodup nd
theorem zNw(x:Int):(bf (vQ m x)).length<=m.marks.length:=by
 rw[(aD _).length_eq]
 unfold vQ
 rw[length_map]
 exact length_filter_le _ _
theorem zSq(x:Int):(cW m x).length<=m.fair.length:=by
 unfold cW
 rw[length_map]
 refine Nat.le_trans (length_filter_le _ _) ?_
 rw[Iu]
 exact Nat.le_refl _
theorem zOn(x:Int):(cW m x).Pairwise (· < ·):=by
 unfold cW
 rw[pairwise_map]
 refine Pairwise.filter _ ?_
 rw[pairwise_iff_getElem]
 intro i j hi hj hij
 obtain⟨e1,_⟩:=vJ (List.getElem?_eq_getElem hi)
 obtain⟨e2,_⟩:=vJ (List.getElem?_eq_getElem hj)
 rw[e1,e2]
 exact Int.ofNat_lt.mpr hij
theorem zSj(h:k∈cW m x):∃(j:Nat)(s:LI),k=(j:Int)/\m.fair[j]?=some s:=by
 unfold cW at h
 obtain⟨q,hq,rfl⟩:=mem_map.mp h
 obtain⟨j,hj⟩:=mem_iff_getElem?.mp (mem_filter.mp hq).1
 obtain⟨e1,e2⟩:=vJ hj
 exact⟨j,_,e1,e2⟩
theorem zN4(h:k∈vQ m x):∃p∈m.marks,p.1=k:=by
 unfold vQ at h
 obtain⟨q,hq,rfl⟩:=mem_map.mp h
 exact⟨q,(mem_filter.mp hq).1,rfl⟩
theorem Bt(nd:(m.marks.map (·.1)).Nodup)(hm:m.marks.length<32)(hf:m.fair.length<32)(h:k1 m x≠k1 m y):W (wH m x y) λr=>Br m rows 0 x y r:=by
 unfold wH
 have lx:=zNw (m:=m) x
 have ly:=zNw (m:=m) y
 rw[U0 (by omega) x,U0 (by omega) y,zB,zB,zB,aj,zB,zB,aj,aj,aj]
 show W (uG (bf (vQ m x)) (bf (vQ m y))) _
 unfold uG LQ
 rw[if_pos ⟨by omega,Qi nd x,Qi nd y⟩,aj]
 by_cases hn:qt (bf (vQ m x)) (bf (vQ m y))=[]
 ·rw[hn,if_neg (by decide)]
  have same:∀z,z∈vQ m x↔z∈vQ m y:=λz=>by
   have no:z∉qt (bf (vQ m x)) (bf (vQ m y)):=by rw[hn];exactλq=>by cases q
   unfold qt at no
   rw[(aD _).mem_iff,Jk,(aD _).mem_iff,(aD _).mem_iff] at no
   constructor
   ·intro q;exact Classical.byContradiction λw=>no (.inl ⟨q,w⟩)
   ·intro q;exact Classical.byContradiction λw=>no (.inr ⟨w,q⟩)
  have en:bf (vQ m x)=bf (vQ m y):=dH (r:=λa b=>dX a b=true) (λ_ _=>gJ) ((perm_ext_iff_of_nodup (Qi nd x) (Qi nd y)).mpr λz=>by rw[(aD _).mem_iff,(aD _).mem_iff,same]) (dG _) (dG _)
  have nf:cW m x≠cW m y:=λq=>h (by unfold k1;rw[en,q])
  have fx:=zSq (m:=m) x
  have fy:=zSq (m:=m) y
  rw[U3 (by omega) x,U3 (by omega) y,zB,zB,zB,zB,zB,aj,zB,zB,aj,aj,aj]
  show W (uF (cW m x) (cW m y)) _
  unfold uF LK
  rw[if_pos (by omega),aj]
  have ne:oR (cW m x) (cW m y)≠[]:=λq=>nf (z_ (zOn x) (zOn y) λz=>by
   have no:z∉oR (cW m x) (cW m y):=by rw[q];exactλq=>by cases q
   unfold oR at no
   rw[xK,Jk] at no
   constructor
   ·intro q;exact Classical.byContradiction λw=>no (.inl ⟨q,w⟩)
   ·intro q;exact Classical.byContradiction λw=>no (.inr ⟨w,q⟩))
  obtain⟨a,ha,ea⟩:=Qh ne
  rw[ea,aj,aj,aj]
  unfold oR at ha
  rw[xK,Jk] at ha
  have hj:∃(j:Nat)(s:LI),a=(j:Int)/\m.fair[j]?=some s:=ha.elim (λq=>zSj q.1) λq=>zSj q.2
  obtain⟨j,s,rfl,hs⟩:=hj
  refine .inl ⟨rfl,.inr ⟨j,s,hs,rfl,λq=>?_⟩⟩
  rw[Qd hs x,Qd hs y] at ha
  rcases ha with w|w
  ·exact w.2 (q.mp w.1)
  ·exact w.1 (q.mpr w.2)
 ·obtain⟨a,ha,ea⟩:=Qh hn
  rw[if_pos (decide_eq_true (by have:=length_pos_iff.mpr hn;omega)),ea,zB,zB,aj,aj,aj]
  unfold qt at ha
  rw[(aD _).mem_iff,Jk,(aD _).mem_iff,(aD _).mem_iff] at ha
  have hp:∃p∈m.marks,p.1=a:=ha.elim (λq=>zN4 q.1) λq=>zN4 q.2
  obtain⟨p,hp,rfl⟩:=hp
  refine .inl ⟨rfl,.inl ⟨p,hp,rfl,λq=>?_⟩⟩
  rw[Qc nd hp x,Qc nd hp y] at ha
  rcases ha with w|w
  ·exact w.2 (q.mp w.1)
  ·exact w.1 (q.mpr w.2)
def HF(m:aF C)(a:LI)(x y:Int):LI:=(n_ (nxt m.steps x)).filter λs=>!decide (ng a s.toNat∈oh ((n_ (nxt m.steps y)).map λt=>ng a t.toNat))
theorem gO:s∈HF m a x y↔s∈nxt m.steps x/\∀t∈nxt m.steps y,ng a s.toNat≠ng a t.toNat:=by
 unfold HF
 rw[mem_filter,(xA _).mem_iff]
 simp only[Bool.not_eq_true',decide_eq_false_iff_not,xK,mem_map,(xA _).mem_iff]
 constructor
 ·rintro⟨h1,h2⟩
  exact⟨h1,λt ht e=>h2 ⟨t,ht,e.symm⟩⟩
 ·rintro⟨h1,h2⟩
  exact⟨h1,λ⟨t,ht,e⟩=>h2 t ht e.symm⟩
theorem zMb(g:Gr m n){a:LI}(ha:(a.length:Int)=n)(x0:0<=x)(x1:x<n)(y0:0<=y)(y1:y<n):xX m a x y=some (HF m a x y):=by
 obtain⟨_,rx,lx⟩:=um g x0 x1
 obtain⟨_,ry,ly⟩:=um g y0 y1
 have px:=xA (nxt m.steps x)
 have py:=xA (nxt m.steps y)
 unfold xX
 rw[PX g x0 x1,PX g y0 y1]
 apply lD
 rw[zB,zB,zB,zB,aj,aj,aj]
 show W (zW a (n_ (nxt m.steps y))) _
 rw[U4 ha (λt ht=>ry t (py.mem_iff.mp ht)) (by rw[py.length_eq];omega),aj,zB,aj]
 unfold xG
 rw[if_pos (yR (by rw[px.length_eq];omega)),Qe (p:=λs=>!decide (ng a s.toNat∈oh ((n_ (nxt m.steps y)).map λt=>ng a t.toNat))) (g:=λs=>s) (λs hs=>?_) (λ_ _=>rfl),aj,map_id']
 ·rfl
 ·obtain⟨s0,s1⟩:=rx s (px.mem_iff.mp hs)
  rw[wJ s0,qz (by omega)];rfl
theorem HJ(g:Gr m n)(hr:rows[j]?=some a)(ha:(a.length:Int)=n)(x0:0<=x)(x1:x<n)(y0:0<=y)(y1:y<n)(e:ng a x.toNat=ng a y.toNat)(h:k2 m a x≠k2 m a y):W (wS m a x y) λr=>Br m rows (j+1) x y r:=by
 unfold wS
 rw[zMb g ha x0 x1 y0 y1,zMb g ha y0 y1 x0 x1,zB,aj]
 by_cases hn:HF m a x y=[]
 ·rw[hn,if_neg (by decide)]
  have ne:HF m a y x≠[]:=λq=>h (Dp g e λk=>by
   constructor
   ·intro hk
    obtain⟨t,ht,rfl⟩:=mem_map.mp hk
    refine Classical.byContradiction λw=>?_
    have:t∈HF m a x y:=gO.mpr ⟨ht,λu hu e=>w (mem_map.mpr ⟨u,hu,e.symm⟩)⟩
    rw[hn] at this
    cases this
   ·intro hk
    obtain⟨t,ht,rfl⟩:=mem_map.mp hk
    refine Classical.byContradiction λw=>?_
    have:t∈HF m a y x:=gO.mpr ⟨ht,λu hu e=>w (mem_map.mpr ⟨u,hu,e.symm⟩)⟩
    rw[q] at this
    cases this)
  obtain⟨s,hs,es⟩:=Qh ne
  rw[zB,zB,zB,aj,es,aj,aj,aj]
  obtain⟨s1,s2⟩:=gO.mp hs
  exact .inr ⟨j,a,s,rfl,hr,.inr ⟨rfl,s1,λt ht e=>s2 t ht e.symm⟩⟩
 ·obtain⟨s,hs,es⟩:=Qh hn
  rw[if_pos (decide_eq_true (by have:=length_pos_iff.mpr hn;omega)),es,zB,zB,aj,aj,aj]
  obtain⟨s1,s2⟩:=gO.mp hs
  exact .inr ⟨j,a,s,rfl,hr,.inl ⟨rfl,s1,s2⟩⟩
def HN(m:aF C)(rows:List LI)(x y:Int):Option (Int×(Str×Key))->Prop
 |none=>∀a∈rows,ng a x.toNat=ng a y.toNat
 |some (p,r)=>∃(i:Nat)(a:LI),p=(i:Int)/\rows[i]?=some a/\ng a x.toNat≠ng a y.toNat/\(∀(j:Nat)(b:LI),j<i->rows[j]?=some b->ng b x.toNat=ng b y.toNat)/\Br m rows i x y r
theorem zL5(g:Gr m n)(h:qY m n rows)(nd:(m.marks.map (·.1)).Nodup)(hm:m.marks.length<32)(hf:m.fair.length<32)(x0:0<=x)(x1:x<n)(y0:0<=y)(y1:y<n):W (wT m rows x y) (HN m rows x y):=by
 unfold wT
 rw[zB,zB,aj]
 refine Bq (λi _=>∀(j:Nat)(b:LI),j<i->rows[j]?=some b->ng b x.toNat=ng b y.toNat) (λj b hj=>by omega) (λi q s hi hI=>?_) λs hI=>?_
 ·obtain⟨q1,q2⟩:=q
  have d:=vJ hi
  have e1:q1=(i:Int):=d.1
  have e2:rows[i]?=some q2:=d.2
  clear d
  subst e1
  have ok:=U_ g h e2
  have ql:=ok.len
  have a1:aV q2 x=some (ng q2 x.toNat):=by rw[wJ x0];exact qz (by omega)
  have a2:aV q2 y=some (ng q2 y.toNat):=by rw[wJ y0];exact qz (by omega)
  rw[zB,zB]
  show W (aV q2 x) _
  rw[a1,aj,zB]
  show W (aV q2 y) _
  rw[a2,aj,aj]
  by_cases e:ng q2 x.toNat=ng q2 y.toNat
  ·rw[if_neg (by rw[decide_eq_true e];decide),aj]
   refine .inl ⟨_,rfl,λj b hj hb=>?_⟩
   rcases Nat.lt_or_ge j i with z|z
   ·exact hI j b z hb
   ·have:j=i:=by omega
    rw[this,e2] at hb
    cases hb
    exact e
  ·rw[if_pos (by rw[decide_eq_false e];rfl),zB]
   have done:∀r,Br m rows i x y r->HN m rows x y (some ((i:Int),r)):=λr pr=>⟨i,q2,rfl,e2,e,hI,pr⟩
   cases i with
   |zero =>
    have h0:=h.1
    rw[head?_eq_getElem?,e2] at h0
    have ne:k1 m x≠k1 m y:=λq=>e (by
     rw[Option.some.inj h0]
     refine(PL (dW (i:=x.toNat) (n:=n) (by omega)) (dW (i:=y.toNat) (by omega))).mpr ?_
     rw[show((x.toNat:Nat):Int)=x by omega,show((y.toNat:Nat):Int)=y by omega]
     exact q)
    rw[if_pos (decide_eq_true (show((0:Nat):Int)=0 from rfl)),zB,zB]
    refine(Bt (rows:=rows) nd hm hf ne).imp λr pr=>?_
    rw[aj,aj,aj]
    exact .inr ⟨_,rfl,aj.mpr (done r pr)⟩
   |succ j =>
    have jl:=yC e2
    have ea:=List.getElem?_eq_getElem (show j<rows.length by omega)
    have eb:=h.2 j _ _ ea e2
    have oka:=U_ g h ea
    have al:=oka.len
    have ex:=hI j _ (by omega) ea
    have ne:k2 m rows[j] x≠k2 m rows[j] y:=λq=>e (by
     rw[eb]
     refine(P0 (m:=m) (n:=n) _ (i:=x.toNat) (j:=y.toNat) (by omega) (by omega)).mpr ?_
     rw[show((x.toNat:Nat):Int)=x by omega,show((y.toNat:Nat):Int)=y by omega]
     exact q)
    have at_:aV rows (((j+1:Nat):Int)-1)=some rows[j]:=by rw[show(((j+1:Nat):Int)-1)=(j:Int) by omega,wJ (by omega),Int.toNat_natCast];exact ea
    rw[if_neg (by simp;omega),zB,zB,zB,zB,zB]
    show W (aV rows (((j+1:Nat):Int)-1)) _
    rw[at_,aj,aj,aj]
    refine(HJ g ea al x0 x1 y0 y1 ex ne).imp λr pr=>?_
    rw[aj,aj,aj]
    exact .inr ⟨_,rfl,aj.mpr (done r pr)⟩
 ·rw[Cy,aj]
  intro a ha
  obtain⟨j,hj⟩:=mem_iff_getElem?.mp ha
  exact hI j a (by rw[Iu];exact yC hj) hj
theorem zKw(g:Gr m n)(h:qY m n rows)(nd:(m.marks.map (·.1)).Nodup)(hm:m.marks.length<32)(hf:m.fair.length<32)(er:xD m=some rows):W (Mq m) λP=>(P.length:Int)=n/\∀(i:Nat)(r:List (Option (Int×(Str×Key)))),P[i]?=some r->(r.length:Int)=n/\∀(j:Nat)(o:Option (Int×(Str×Key))),r[j]?=some o->HN m rows (i:Int) (j:Int) o:=by
 have gp:=g.pos
 have Js:=g.few
 unfold Mq
 rw[er,zB,aj,zB,aj,zB,UW g,zB,aj]
 refine uQ (λk P=>P.length=k/\∀(i:Nat)(r:List (Option (Int×(Str×Key)))),P[i]?=some r->(r.length:Int)=n/\∀(j:Nat)(o:Option (Int×(Str×Key))),r[j]?=some o->HN m rows (i:Int) (j:Int) o) ⟨rfl,λi r h=>by simp at h⟩ (λk x P hk hI=>?_) λP hI=>?_
 ·obtain⟨rfl,kn⟩:=yu hk
  obtain⟨pl,hP⟩:=hI
  have row:W (xG (λ(_:Int)=>some true) (λ(x7:Int)=>wT m rows (k:Int) x7) (rng n)) λr=>(r.length:Int)=n/\∀(j:Nat)(o:Option (Int×(Str×Key))),r[j]?=some o->HN m rows (k:Int) (j:Int) o:=by
   have each:∀x∈rng n,∃o,wT m rows (k:Int) x=some o/\HN m rows (k:Int) x o:=λx hx=>by
    obtain⟨x0,x1⟩:=cX.mp hx
    exact zL5 g h nd hm hf (by omega) kn x0 x1
   have key:∀(xs:LI),(∀x∈xs,x∈rng n)->∃r,xL (λ(_:Int)=>some true) (λ(x7:Int)=>wT m rows (k:Int) x7) xs=some r/\r.length=xs.length/\∀(j:Nat)(o:Option (Int×(Str×Key)))(x:Int),r[j]?=some o->xs[j]?=some x->HN m rows (k:Int) x o:=by
    intro xs
    induction xs with
    |nil=>intro _;exact⟨[],rfl,rfl,λj o x h=>by simp at h⟩
    |cons y ys ih =>
     intro hs
     obtain⟨o,eo,po⟩:=each y (hs y mem_cons_self)
     obtain⟨r,er,lr,pr⟩:=ih λx hx=>hs x (mem_cons_of_mem _ hx)
     refine⟨o::r,?_,by rw[length_cons,length_cons,lr],λj o' x' h1 h2=>?_⟩
     ·show((some true).bind λb=>if b=true then(wT m rows (k:Int) y).bind λz=>(xL _ _ ys).bind λzs=>some (z::zs) else xL _ _ ys)=_
      rw[eo,er]
      rfl
     ·cases j with
      |zero=>cases h1;cases h2;exact po
      |succ j=>exact pr j o' x' (by simpa using h1) (by simpa using h2)
   obtain⟨r,er,lr,pr⟩:=key (rng n) λx hx=>hx
   refine⟨r,?_,by rw[lr,xS];omega,λj o ho=>pr j o (j:Int) ho (PN ?_)⟩
   ·unfold xG
    rw[if_pos (yR (by rw[xS];omega)),er]
   ·have:=yC ho
    rw[lr,xS] at this
    omega
  rw[zB,zB,zB,aj]
  refine row.imp λr ⟨rl,hr⟩=>?_
  rw[ud]
  refine⟨yR (by omega),?_⟩
  rw[aj]
  refine⟨by rw[length_append,pl];rfl,λi r' h'=>?_⟩
  rcases Nat.lt_or_ge i P.length with z|z
  ·rw[getElem?_append_left z] at h'
   exact hP i r' h'
  ·rw[getElem?_append_right z] at h'
   have ei:i=k:=by
    have:=yC h'
    rw[length_singleton] at this
    omega
   rw[ei,pl,Nat.sub_self] at h'
   cases(Option.some.inj (show some r=some r' from h'))
   rw[ei]
   exact⟨rl,hr⟩
 ·obtain⟨pl,hP⟩:=hI
  rw[xS] at pl
  rw[aj]
  exact⟨by omega,hP⟩
end
section
variable{C:Addr}{m:aF C}{n:Int}{c:LI}{M N:Nat}
theorem Va{α β:Type}{c:α->Option Bool}{f:α->Option β}{g:α->β}{xs:List α}(hl:xs.length<cap)(hc:∀x∈xs,c x=some true)(hf:∀x∈xs,f x=some (g x)):xG c f xs=some (xs.map g):=by
 unfold xG
 rw[if_pos hl,PK hc hf]
theorem zJe(g:Gr m n)(hm:m.marks.length<64)(hf:m.fair.length<=100):∃t c M,xD m=some (t++[c])/\qY m n (t++[c])/\yT m=some c/\gH m n c M/\zZ c=some (xJ M n.toNat c):=by
 have gp:=g.pos
 have Js:=g.few
 obtain⟨told,e,t,c,rfl,st,fx,ch,tl⟩:=zGk g hm hf
 have cl:=st.len
 obtain⟨M,h1,h2,h3,h4,h5⟩:=zPw (N:=n.toNat) st.can (by omega) (by omega) (by omega)
 refine⟨t,c,M,e,ch,?_,⟨st,fx,h1,h2,h3,h4⟩,h5⟩
 unfold yT
 rw[e]
 exact Wh t c
def due(c:LI)(M N:Nat)(xs:LI):LI:=(rng (M:Int)).filter λk=>(uD N c k.toNat).any λy=>decide (y∈xs)
theorem wL(xs:LI):iJ (M:Int) (due c M N xs):=zDj _ (zJr _)
theorem gP:k∈due c M N xs↔(0<=k/\k<(M:Int))/\∃y,(0<=y/\y<(N:Int)/\ng c y.toNat=k)/\y∈xs:=by
 unfold due
 rw[mem_filter,cX,List.any_eq_true]
 constructor
 ·rintro⟨⟨k0,k1⟩,y,hy,hx⟩
  obtain⟨y0,y1,y2⟩:=dN.mp hy
  exact⟨⟨k0,k1⟩,y,⟨y0,y1,by omega⟩,of_decide_eq_true hx⟩
 ·rintro⟨⟨k0,k1⟩,y,⟨y0,y1,y2⟩,hx⟩
  exact⟨⟨k0,k1⟩,y,dN.mpr ⟨y0,y1,by omega⟩,decide_eq_true hx⟩
theorem HS(h:∀k,(∃y,(0<=y/\y<(N:Int)/\ng c y.toNat=k)/\y∈xs)↔∃y,(0<=y/\y<(N:Int)/\ng c y.toNat=k)/\y∈ys):due c M N xs=due c M N ys:=z_ (wL xs).1 (wL ys).1 λk=>by rw[gP,gP,h]
theorem zGm(h:gH m n c M)(hx:∀t∈xs,0<=t/\t<n):oh (xs.map λt=>ng c t.toNat)=due c M n.toNat xs:=z_ (Jd _) (wL _).1 λk=>by
 rw[xK,mem_map,gP]
 have cl:=h.st.len
 constructor
 ·rintro⟨t,ht,rfl⟩
  obtain⟨t0,t1⟩:=hx t ht
  have:=h.lt t.toNat (by omega)
  have:=(h.st.can t.toNat (by omega)).1
  exact⟨⟨by omega,by omega⟩,t,⟨t0,by omega,rfl⟩,ht⟩
 ·rintro⟨_,y,⟨_,_,e⟩,hy⟩
  exact⟨y,hy,e⟩
def HW(m:aF C)(c:LI)(M N:Nat)(r:LI):LI:=due c M N (nxt m.steps (r.headD 0))
def Ju(c:LI)(M N:Nat)(p:Str×LI):Str×LI:=(p.1,due c M N p.2)
theorem zMt(h:pD n xs)(h0:0<=n)(h1:n<=60):xs.length<=60:=by
 have:=FT (n:=n.toNat) h.1 λz hz=>by have:=h.2.2 z hz;omega
 omega
theorem zJc(g:Gr m n)(hM:uZ n m.marks)(hf:m.fair.length<=100)(hF:∀s∈m.fair,pD n s)(e:yT m=some c)(ok:gH m n c M)(es:zZ c=some (xJ M n.toNat c)) :
  W (Jo C m) λf=>Gr f (M:Int)/\f.steps=(xJ M n.toNat c).map (HW m c M n.toNat)/\f.marks=m.marks.map (Ju c M n.toNat)/\f.fair=m.fair.map (due c M n.toNat):=by
 have gp:=g.pos
 have Js:=g.few
 have Vb:=ok.few
 have M0:=ok.pos
 have cl:=ok.st.len
 have nof:∀xs:LI,(∀t∈xs,0<=t/\t<n)->xs.length<64->zW c xs=some (due c M n.toNat xs):=λxs h1 h2=>by rw[U4 cl h1 h2,zGm ok h1]
 have nos:∀xs:LI,pD n xs->zW c xs=some (due c M n.toNat xs):=λxs h=>nof xs h.2.2 (by have:=zMt h (by omega) Js;omega)
 have M7:∀r∈xJ M n.toNat c,∃a r',r=a::r'/\0<=a/\a<n:=λr hr=>by
  unfold xJ at hr
  obtain⟨k,hk,rfl⟩:=mem_map.mp hr
  obtain⟨a,r',hr',_,a0,a1,_⟩:=Qa ok (mem_range.mp hk)
  exact⟨a,r',hr',a0,a1⟩
 unfold Jo
 rw[e,zB,aj,zB,zB,es,aj]
 rw[Va (xs:=xJ M n.toNat c) (g:=HW m c M n.toNat) (yR (by rw[P_];omega)) (λ_ _=>rfl) (λr hr=>by
  obtain⟨a,r',rfl,a0,a1⟩:=M7 r hr
  obtain⟨_,t1,t2⟩:=um g a0 a1
  have p:=xA (nxt m.steps a)
  rw[show aV (a::r') (0:Int)=some a by rw[wJ (Int.le_refl _)];rfl]
  show((((zV m a).bind λa7=>some ((a7,()))).bind λb8=>some (c,b8)).bind λz6=>zW z6.1 z6.2.1)=_
  rw[PX g a0 a1]
  show zW c (n_ (nxt m.steps a))=some (due c M n.toNat (nxt m.steps a))
  rw[nof _ (λt ht=>t1 t (p.mem_iff.mp ht)) (by rw[p.length_eq];omega)]
  exact congrArg some (HS λk=>⟨λ⟨y,h1,h2⟩=>⟨y,h1,p.mem_iff.mp h2⟩,λ⟨y,h1,h2⟩=>⟨y,h1,p.mem_iff.mpr h2⟩⟩)),aj]
 have m1:=hM.2.1
 rw[zB,zB,aj,Va (xs:=m.marks) (g:=Ju c M n.toNat) (yR (by omega)) (λ_ _=>rfl) (λp hp=>by
  rw[nos p.2 (hM.2.2 p hp).2.2];rfl),aj]
 rw[zB,zB,aj,Va (xs:=m.fair) (g:=due c M n.toNat) (yR (by omega)) (λ_ _=>rfl) (λp hp=>by
  rw[nos p (hF p hp)]),aj]
 refine Dm C (n:=(M:Int)) (by rw[length_map,P_]) (by omega) (by omega) (λxs hx=>?_) ⟨?_,?_,λq hq=>?_⟩ ⟨?_,λxs hx=>?_⟩
 ·obtain⟨r,hr,rfl⟩:=mem_map.mp hx
  obtain⟨a,r',rfl,a0,a1⟩:=M7 r hr
  refine⟨λz=>?_,Mz (wL _) (by omega)⟩
  obtain⟨s1,t1,_⟩:=um g a0 a1
  have ne:=(g.row _ (mem_of_getElem? s1)).1
  obtain⟨t,r2,e2⟩:=List.exists_cons_of_ne_nil ne
  have mt:t∈nxt m.steps a:=by rw[e2];exact mem_cons_self
  obtain⟨t0,t2⟩:=t1 t mt
  have q1:=ok.lt t.toNat (by omega)
  have q2:=(ok.st.can t.toNat (by omega)).1
  have:ng c t.toNat∈due c M n.toNat (nxt m.steps a):=gP.mpr ⟨⟨by omega,by omega⟩,t,⟨t0,by omega,rfl⟩,mt⟩
  have z:due c M n.toNat (nxt m.steps a)=[]:=z
  rw[z] at this
  cases this
 ·show(((m.marks.map (Ju c M n.toNat)).map (·.1))).Nodup
  rw[map_map]
  exact hM.1
 ·show(m.marks.map _).length<=100
  rw[length_map];exact m1
 ·obtain⟨p,hp,rfl⟩:=mem_map.mp (show q∈m.marks.map (Ju c M n.toNat) from hq)
  obtain⟨n1,n2,_⟩:=hM.2.2 p hp
  exact⟨n1,n2,Mz (wL _) (by omega)⟩
 ·show(m.fair.map _).length<=100
  rw[length_map];exact hf
 ·obtain⟨s,hs,rfl⟩:=mem_map.mp (show xs∈m.fair.map (due c M n.toNat) from hx)
  exact Mz (wL _) (by omega)
end
section
variable{C:Addr}{m f:aF C}{n:Int}{c c':LI}{M M':Nat}
structure jy(m:aF C)(n:Int)(c:LI)(M:Nat)(f:aF C):Prop where
 gr:Gr f (M:Int)
 st:f.steps=(xJ M n.toNat c).map (HW m c M n.toNat)
 mks:f.marks=m.marks.map (Ju c M n.toNat)
 fr:f.fair=m.fair.map (due c M n.toNat)
theorem zE3(F:jy m n c M f)(Pq:M<=60)(hM:uZ n m.marks):uZ (M:Int) f.marks:=by
 rw[F.mks]
 refine⟨?_,by rw[length_map];exact hM.2.1,λq hq=>?_⟩
 ·rw[map_map];exact hM.1
 ·obtain⟨p,hp,rfl⟩:=mem_map.mp hq
  obtain⟨n1,n2,_⟩:=hM.2.2 p hp
  exact⟨n1,n2,Mz (wL _) (by omega)⟩
theorem zOp(F:jy m n c M f)(Pq:M<=60)(hf:m.fair.length<=100):f.fair.length<=100/\∀s∈f.fair,pD (M:Int) s:=by
 rw[F.fr]
 refine⟨by rw[length_map];exact hf,λs hs=>?_⟩
 obtain⟨p,_,rfl⟩:=mem_map.mp hs
 exact Mz (wL _) (by omega)
theorem Qj(g:Gr m n)(ok:gH m n c M)(x0:0<=x)(x1:x<n)(h:∀z,0<=z->z<n->ng c z.toNat=ng c x.toNat->(z∈S↔x∈S)):ng c x.toNat∈due c M n.toNat S↔x∈S:=by
 have cl:=ok.st.len
 rw[gP]
 constructor
 ·rintro⟨_,z,⟨z0,z1,ez⟩,hz⟩
  exact(h z z0 (by omega) ez).mp hz
 ·intro hx
  have:=ok.lt x.toNat (by omega)
  have:=(ok.st.can x.toNat (by omega)).1
  exact⟨⟨by omega,by omega⟩,x,⟨x0,by omega,rfl⟩,hx⟩
theorem zHl(g:Gr m n)(ok:gH m n c M)(nd:(m.marks.map (·.1)).Nodup)(F:jy m n c M f)(x0:0<=x)(x1:x<n)(k:Int):k∈nxt f.steps (ng c x.toNat)↔k∈(nxt m.steps x).map λt=>ng c t.toNat:=by
 have cl:=ok.st.len
 have q1:=ok.lt x.toNat (by omega)
 have q2:=(ok.st.can x.toNat (by omega)).1
 have kM:(ng c x.toNat).toNat<M:=by omega
 obtain⟨a,r,hr,ka,a0,a1,_⟩:=Qa ok kM
 have e:nxt f.steps (ng c x.toNat)=due c M n.toNat (nxt m.steps a):=by
  unfold nxt
  rw[F.st,getD_eq_getElem?_getD,getElem?_map]
  have:=zMz (N:=n.toNat) (c:=c) kM
  rw[wJ (by omega),Int.toNat_natCast] at this
  rw[this,hr]
  rfl
 obtain⟨_,t1,_⟩:=um g a0 a1
 rw[e,<-zGm ok t1,xK]
 exact(U7 g ok nd a0 a1 x0 x1 (by rw[ka];omega)).2.2 k
theorem zOo(g:Gr m n)(ok:gH m n c M)(hM:uZ n m.marks)(F:jy m n c M f)(ok':gH f (M:Int) c' M'):M6 m n λx=>ng c' (ng c x.toNat).toNat:=by
 have cl:=ok.st.len
 have nd:=hM.1
 have ndf:=(zE3 F ok.few hM).1
 intro x y x0 x1 y0 y1 e
 have qx:=ok.lt x.toNat (by omega)
 have px:=(ok.st.can x.toNat (by omega)).1
 have qy:=ok.lt y.toNat (by omega)
 have py:=(ok.st.can y.toNat (by omega)).1
 obtain⟨l1,l2,l3⟩:=U7 F.gr ok' ndf px qx py qy e
 have lk:∀{x z:Int},0<=x->x<n->0<=z->z<n->ng c z.toNat=ng c x.toNat->(∀p∈m.marks,(z∈p.2↔x∈p.2))/\∀s∈m.fair,(z∈s↔x∈s):=λ{x z} x0 x1 z0 z1 ez=>by
  obtain⟨a1,a2,_⟩:=U7 g ok nd z0 z1 x0 x1 ez
  exact⟨a1,a2⟩
 have sm:∀p∈m.marks,(x∈p.2↔y∈p.2):=λp hp=>by
  have:=l1 (Ju c M n.toNat p) (by rw[F.mks];exact mem_map.mpr ⟨p,hp,rfl⟩)
  rw[<-Qj g ok x0 x1 (λz z0 z1 ez=>(lk x0 x1 z0 z1 ez).1 p hp),<-Qj g ok y0 y1 (λz z0 z1 ez=>(lk y0 y1 z0 z1 ez).1 p hp)]
  exact this
 have sf:∀s∈m.fair,(x∈s↔y∈s):=λs hs=>by
  have:=l2 (due c M n.toNat s) (by rw[F.fr];exact mem_map.mpr ⟨s,hs,rfl⟩)
  rw[<-Qj g ok x0 x1 (λz z0 z1 ez=>(lk x0 x1 z0 z1 ez).2 s hs),<-Qj g ok y0 y1 (λz z0 z1 ez=>(lk y0 y1 z0 z1 ez).2 s hs)]
  exact this
 refine⟨?_,λt ht=>?_⟩
 ·have e1:vQ m x=vQ m y:=by
   unfold vQ
   refine congrArg _ (List.filter_congr λp hp=>?_)
   rw[decide_eq_decide]
   exact sm p hp
  have e2:cW m x=cW m y:=by
   unfold cW
   refine congrArg _ (List.filter_congr λp hp=>?_)
   rw[decide_eq_decide]
   obtain⟨j,hj⟩:=mem_iff_getElem?.mp hp
   exact sf p.2 (mem_of_getElem? (vJ hj).2)
  unfold k1
  rw[e1,e2]
 ·have h1:ng c t.toNat∈nxt f.steps (ng c x.toNat):=(zHl g ok nd F x0 x1 _).mpr (mem_map.mpr ⟨t,ht,rfl⟩)
  obtain⟨j,hj,ej⟩:=mem_map.mp ((l3 _).mp (mem_map.mpr ⟨_,h1,rfl⟩))
  obtain⟨u,hu,eu⟩:=mem_map.mp ((zHl g ok nd F y0 y1 j).mp hj)
  refine⟨u,hu,?_⟩
  show ng c' (ng c t.toNat).toNat=ng c' (ng c u.toNat).toNat
  rw[show ng c u.toNat=j from eu]
  exact ej.symm
theorem qZ(h:i<M):ng (rng (M:Int)) i=(i:Int):=by
 unfold ng
 rw[getD_eq_getElem?_getD,PN (by omega)];rfl
theorem zRa(g:Gr m n)(ch:qY m n (t++[c]))(ok:gH m n c M)(hM:uZ n m.marks)(F:jy m n c M f)(ok':gH f (M:Int) c' M'):c'=rng (M:Int)/\M'=M:=by
 have st:=zOo g ok hM F ok'
 have cl':=ok'.st.len
 have inj:∀i j:Nat,i<M->j<M->ng c' i=ng c' j->i=j:=λi j hi hj e=>by
  obtain⟨a,_,_,ka,a0,a1,_⟩:=Qa ok hi
  obtain⟨b,_,_,kb,b0,b1,_⟩:=Qa ok hj
  have:=zPi g ch st (i:=t.length) (a:=c) (by rw[getElem?_append_right (Nat.le_refl _),Nat.sub_self];rfl) a b a0 a1 b0 b1 (by
   show ng c' (ng c a.toNat).toNat=ng c' (ng c b.toNat).toNat
   rw[ka,kb,Int.toNat_natCast,Int.toNat_natCast];exact e)
  omega
 have M0:=ok.pos
 have rl:(rng (M:Int)).length=M:=by rw[xS,Int.toNat_natCast]
 have Vc:Can (rng (M:Int)):=λi hi=>by
  rw[rl] at hi
  rw[qZ hi]
  refine⟨by omega,λk k0 k1=>⟨k.toNat,by omega,by rw[qZ (by omega)];omega,λj' hj=>by rw[qZ (by omega)];omega⟩⟩
 have ec:c'=rng (M:Int):=zKo ok'.st.can Vc (by omega) λi j hi hj=>by
  rw[qZ (by omega),qZ (by omega)]
  constructor
  ·intro e;rw[inj i j (by omega) (by omega) e]
  ·intro e;rw[show i=j by omega]
 refine⟨ec,?_⟩
 obtain⟨i,hi,ei⟩:=ok'.top
 have l1:=ok'.lt (M-1) (by omega)
 rw[ec] at ei l1
 rw[qZ (by omega)] at ei l1
 omega
theorem zM0(h:k<M):uD M (rng (M:Int)) k=[(k:Int)]:=z_ (zJq _ _ _) (by simp) λx=>by
 rw[dN,mem_singleton]
 constructor
 ·rintro⟨h0,h1,h2⟩
  rw[qZ (by omega)] at h2
  omega
 ·rintro rfl
  exact⟨by omega,by omega,by rw[qZ (by omega)];omega⟩
theorem Vd(h:iJ (M:Int) xs):due (rng (M:Int)) M M xs=xs:=z_ (wL _).1 h.1 λk=>by
 rw[gP]
 constructor
 ·rintro⟨_,y,⟨y0,y1,ey⟩,hy⟩
  rw[qZ (by omega)] at ey
  rw[show k=y by omega]
  exact hy
 ·intro hk
  obtain⟨k0,k1⟩:=h.2 k hk
  exact⟨⟨k0,k1⟩,k,⟨k0,k1,by rw[qZ (by omega)];omega⟩,hk⟩
theorem HX(hT:wO Qk=some T)(h:Ht n T):W (Mv C Qk) (· = true):=by
 unfold Mv
 rw[hT,zB,zB,zB,aj,aj]
 refine(zKx (C:=C) h).imp λm ⟨g,e1,e2,e3⟩=>?_
 have hM:uZ n m.marks:=by rw[e2];exact h.marks
 have mf:=h.MF
 have ff:=h.Hu
 have hf:m.fair.length<=100:=by rw[e3];omega
 have hF:∀s∈m.fair,pD n s:=by rw[e3];exact h.fair
 obtain⟨t,c,M,_,ch,ec,ok,es⟩:=zJe g (by rw[e2];omega) hf
 have ecl:vO m=some (xJ M n.toNat c):=by unfold vO;rw[ec];exact es
 obtain⟨f,ef,gf,f1,f2,f3⟩:=zJc (C:=C) g hM hf hF ec ok es
 have F:jy m n c M f:=⟨gf,f1,f2,f3⟩
 have M0:=ok.pos
 have Vb:=ok.few
 have hM':=zE3 F Vb hM
 obtain⟨hf',hF'⟩:=zOp F Vb hf
 have lm:f.marks.length=T.b.length:=by rw[f2,length_map,e2]
 have lf:f.fair.length=T.c.length:=by rw[f3,length_map,e3]
 obtain⟨t',c',M',en',ch',ec',ok',es'⟩:=zJe gf (by omega) hf'
 obtain⟨h1,h2⟩:=zRa g ch ok hM F ok'
 subst h2
 rw[Int.toNat_natCast] at es'
 have M8:xJ M' M' c'=(rng (M':Int)).map λk=>[k]:=by
  rw[h1]
  unfold xJ
  rw[show rng (M':Int)=(List.range M').map Int.ofNat by unfold rng;rw[Int.toNat_natCast],map_map]
  refine map_congr_left λk hk=>?_
  have:=zM0 (mem_range.mp hk)
  unfold rng at this
  rw[Int.toNat_natCast] at this
  exact this
 have Ve:vO f=some ((rng (M':Int)).map λk=>[k]):=by unfold vO;rw[ec',<-M8];exact es'
 obtain⟨f',ef',gf',g1,g2,g3⟩:=zJc (C:=C) gf hM' hf' hF' ec' ok' (by rw[Int.toNat_natCast];exact es')
 rw[Int.toNat_natCast,h1] at g1 g2 g3
 have s1:f'.steps=f.steps:=by
  rw[g1]
  refine ext_getElem? λk=>?_
  rw[getElem?_map]
  by_cases hk:k<M'
  ·have:=zMz (N:=M') (c:=rng (M':Int)) hk
   rw[wJ (by omega),Int.toNat_natCast] at this
   obtain⟨sx,_,_⟩:=um gf (x:=(k:Int)) (by omega) (by omega)
   rw[Int.toNat_natCast] at sx
   rw[this,zM0 hk,sx]
   show some (due (rng (M':Int)) M' M' (nxt f.steps (k:Int)))=_
   rw[Vd]
   have hm:=mem_of_getElem? sx
   rw[f1] at hm
   obtain⟨r,_,er⟩:=mem_map.mp hm
   rw[f1,<-er]
   exact wL _
  ·rw[List.getElem?_eq_none (by rw[P_];omega),List.getElem?_eq_none (by have:=gf.len;omega)]
   rfl
 have s2:f'.marks=f.marks:=by
  rw[g2]
  refine(map_congr_left λp hp=>?_).trans (map_id' _)
  rw[f2] at hp
  obtain⟨q,_,rfl⟩:=mem_map.mp hp
  show(q.1,due _ _ _ (due _ _ _ q.2))=(q.1,due _ _ _ q.2)
  rw[Vd (wL _)]
 have s3:f'.fair=f.fair:=by
  rw[g3]
  refine(map_congr_left λp hp=>?_).trans (map_id' _)
  rw[f3] at hp
  obtain⟨q,_,rfl⟩:=mem_map.mp hp
  exact Vd (wL _)
 obtain⟨P,eP,pl,hP⟩:=zKw gf ch' hM'.1 (by omega) (by omega) en'
 rw[ef,zB,aj,zB,Z9 gf,aj,zB,zB,zB,zB,ecl,aj,aj,aj,P_,if_neg (by simp),zB,Ve,aj,zB,zB,vI]
 refine⟨⟨by omega,by omega⟩,?_⟩
 rw[FQ (λx8:Int=>[x8])]
 refine⟨yR (by rw[xS];omega),?_⟩
 rw[aj,if_neg (by simp),zB,ef',aj,zB,s1,s2,s3,if_neg (by simp),if_neg (by simp),aj,if_neg (by simp),zB,eP,aj,zB,zB,vI]
 refine⟨⟨by omega,by omega⟩,?_⟩
 refine Xn (λ_ _=>True) trivial (λi x s hi _=>?_) λs _=>by rw[Cy,aj]
 obtain⟨rfl,il⟩:=yu hi
 rw[zB,zB,vI]
 refine⟨⟨by omega,by omega⟩,?_⟩
 refine Xn (λ_ _=>True) trivial (λj y s hj _=>?_) λs _=>by rw[KC,aj];exact⟨_,rfl,trivial⟩
 obtain⟨rfl,jl⟩:=yu hj
 have hr:=List.getElem?_eq_getElem (show i<P.length by omega)
 obtain⟨rl,ho⟩:=hP i _ hr
 have hoj:=List.getElem?_eq_getElem (show j<P[i].length by omega)
 have po:=ho j _ hoj
 rw[zB,zB,zB,zB,wJ (by omega),Int.toNat_natCast,hr,aj,wJ (by omega),Int.toNat_natCast,hoj,aj,aj,aj]
 have iff:(P[i][j]).isNone=decide ((i:Int)=(j:Int)):=by
  generalize P[i][j]=o at po
  have last:(t'++[c'])[t'.length]?=some c':=by rw[getElem?_append_right (Nat.le_refl _),Nat.sub_self];rfl
  cases o with
  |none =>
   have po:∀a∈t'++[c'],ng a (i:Int).toNat=ng a (j:Int).toNat:=po
   have:=po c' (mem_append_right _ mem_cons_self)
   rw[h1,Int.toNat_natCast,Int.toNat_natCast,qZ (by omega),qZ (by omega)] at this
   rw[decide_eq_true this];rfl
  |some q =>
   obtain⟨p,r⟩:=q
   obtain⟨_,a,_,_,ne,_⟩:=po
   rw[decide_eq_false λz=>ne (by rw[z])];rfl
 rw[iff,if_neg (by simp),aj]
 exact⟨_,rfl,trivial⟩
end
theorem zQ0(C:Addr)(Qk:lJ):W (Mv C Qk) (· = true):=by
 obtain⟨T,e,n,h⟩:=Bp Qk
 exact HX e h
def tV(K:PySem.W.Frag):Sp:=λvs H Q _=>∃(a:Addr)(ns:LI),vs=[.ref a]/\aZ K H a (ns.map V.int)/\ns.length<=63/\∀H',Q (.bl true) H'
section
variable{P:Program}{w:World}{K:PySem.W.Frag}{mg:Str->Option Value}{base h:Heap}{j k:Nat}{f C:Addr}{fd:FuncData}{ps:List Str}{sp:Sp}{x y:Str}{st:Stmt}
abbrev FP(K:PySem.W.Frag)(x:Str)(st:Stmt):Prop:=∃f fd,nsIn K mainGlobals x=some (some (.ref f))/\bR K x x st f fd
abbrev MP(K:PySem.W.Frag)(C:Addr)(x y:Str)(st:Stmt):Prop:=∃f fd,Meth K C x f/\bR K x y st f fd
def Dq(K:PySem.W.Frag):List Str->Prop
 |[]=>True
 |x::r=>nsIn K mainGlobals x=some none/\Dq K r
theorem M9(a:nsIn K mainGlobals x=some (some (.ref f)))(F:bR K x x st f fd):FP K x st:=⟨f,fd,a,F⟩
theorem M_(a:Meth K C x f)(F:bR K x y st f fd):MP K C x y st:=⟨f,fd,a,F⟩
theorem Bu{dV oc kV doc pm cdv ct:Value}{od an:Option Addr}{osl:Array (Option Value)}(l:K.lookup f=some ⟨oc,od,.func (fnOf x y (vT st) (wE st) (zI st) dV kV doc pm an cdv ct),osl⟩)(c:codeIn K cdv y=true)(k:keepIn K (.ref f)=true):sY K x y st dV f (fnOf x y (vT st) (wE st) (zI st) dV kV doc pm an cdv ct):=⟨⟨oc,od,kV,doc,pm,an,cdv,ct,osl,rfl,l,c⟩,k⟩
theorem HY(X:K.In h)(G:h.Ns mainGlobals mg)(p:FP K x st)(t:∀f fd,bR K x x st f fd->aB P w K mg base bH k f fd ps sp/\Binds K fd ps []):bO P w K mg base k x ps sp:=by
 obtain⟨f,fd,a,F⟩:=p
 exact⟨f,fd,(t f fd F).1,(t f fd F).2,F.kp,mg_of X G a⟩
theorem Bv(c:Cls K C)(p:MP K C x y st)(t:∀f fd,bR K x y st f fd->aB P w K mg base bH k f fd ps sp/\Binds K fd ps []):fK P w K mg base k C x ps sp:=by
 obtain⟨f,fd,a,F⟩:=p
 exact⟨⟨f,fd,(t f fd F).1,(t f fd F).2,a⟩,c⟩
theorem bO.m(c:bO P w K mg base j x ps sp)(h:j<=k:=by decide):bO P w K mg base k x ps sp:=c.mono h
theorem fK.m(c:fK P w K mg base j C x ps sp)(h:j<=k:=by decide):fK P w K mg base k C x ps sp:=c.mono h
end
set_option maxHeartbeats 8000000 in
theorem all_mk{l:PySem.W.OpenLaw}{K:PySem.W.Frag}(X:K.In h)(G:h.Ns mainGlobals mg)(hfa:mg "law" = some (.ref fa))(h1:FP K "sources_of" Pn)(h2:FP K "is_stand" iB)(h3:FP K "check_stands" cL)(h4:FP K "check_steps" dh)(h5:FP K "is_name" jo)(h6:FP K "check_marks" dj)(h7:FP K "check_fair" dY)(h8:FP K "copied" jX)(h9:FP K "everywhere" dZ)(h10:FP K "fair_numbers" cP)(h11:FP K "numbered" bW)(h12:FP K "first_numbers" cB)(h13:FP K "numbers_of" d7)(h14:FP K "finer_numbers" cD)(h15:FP K "numberings" d8)(h16:FP K "class_numbers" cF)(h17:FP K "stands_of_numbers" bJ)(h18:FP K "classes" jq)(h19:FP K "folded" jY)(h20:FP K "unshared" cO)(h21:FP K "sight_reason" cQ)(h22:FP K "steps_aside" dw)(h23:FP K "step_reason" dz)(h24:FP K "parting" jr)(h25:FP K "partings" iC)(h26:FP K "_law_cell_at" fQ)(h27:FP K "_law_mixed" jt)(h28:FP K "_law_name_by" fU)(h29:FP K "_law_some_of" fV)(h30:FP K "_law_steps_by" d9)(h31:FP K "_law_sets_by" fW)(h32:FP K "_law_maps_by" fX)(h33:FP K "_law_parts_by" d_)(h34:FP K "_law_machine" fY)(h35:FP K "law" lN)(aC:nsIn K mainGlobals "Machine" = some (some (.ref C)))(mk:Mk K C fI)(FI:sY K "__init__" "Machine.__init__" sW (.ref TD) fI Jp)(lT:K.lookup TD=some ⟨ocT,odT,.seq #[.none,.none] nT,slT⟩)(m0:MP K C "many" "Machine.many" cN)(m1:MP K C "next_of" "Machine.next_of" bU)(m2:MP K C "names_at" "Machine.names_at" bN)(cC:Cls K C)(nC:findIn K (.ref C) "steps" = some none/\findIn K (.ref C) "marks" = some none/\findIn K (.ref C) "fair" = some none/\findIn K (.ref C) "sources" = some none)(kW:nsIn K mainGlobals "LETTERS" = some (some (.str "abcdefghijklmnopqrstuvwxyz" qw)))(dD:nsIn K mainGlobals "LONGEST_NAME" = some (some (.int 8 j5)))(eV:nsIn K mainGlobals "MOST_STANDS" = some (some (.int 60 lC)))(dF:nsIn K mainGlobals "SAYING_WORDS" = some (some (.ref bC)))(lE:K.lookup bC=some ⟨.type "tuple",none,.seq #[.str "all" qD,.str "not" qF,.str "both" qG,.str "either" qH,.str "somenext" qI,.str "eachnext" qJ,.str "sometill" qK,.str "eachtill" qL,.str "someever" qM,.str "eachever" qN] tW,q9⟩)(z:Dq K ["len","range","isinstance","int","bool","list","enumerate","max","min","all","sorted","str","set","tuple"]) :
  ∃fd:FuncData,(∀(s:Shared)(v:Value),BindsTo s fd ⟨[v],[]⟩ [("_law_script",v)])/\∀base:Heap,K.In base->base.Ns mainGlobals mg->aB l.prog w K mg base bH 7 fa fd ["_law_script"] (tV K):=by
 obtain⟨f,fd,a,⟨oc,od,kV,dc,pm,an,cd,ct,sl,rfl,lk,ck⟩,kp⟩:=h35
 have e:=hfa.symm.trans (mg_of X G a)
 cases e
 obtain⟨Vf,H_,nY,Vg,Nb,Nf,pH,G_,tQ,G7,bV,G8,mD,jw,_⟩:=z
 obtain⟨nS,nM,nF,nB⟩:=nC
 have N:∀{x:Str},nsIn K mainGlobals x=some none->mg x=none:=λe=>PySem.W.mg_none_of X G e
 have B:Bl K mg:=⟨N Vf,N H_,N nY,N Vg,N Nb,N Nf,N pH,Km,Kq,Ko⟩
 have Vh:=N G_
 have Ng:=N tQ
 have Vi:=N G7
 have ji:=N bV
 have Vj:=N G8
 have Ia:=N mD
 have tX:=N jw
 have kW:=mg_of X G kW
 have dD:=mg_of X G dD
 have eV:=mg_of X G eV
 have dF:=mg_of X G dF
 have T:Cl K mg C:=⟨cC,nS,nM,nF,nB,mg_of X G aC⟩
 have Jq:Binds K Jp ["self","steps","marks","fair"] []:=λs us KX hl=>by
  obtain⟨_,_,_,_,_,_,_,_,_,rfl,_⟩:=FI.ex
  have h2:us.length=4:=by
   rw[length_append] at hl
   have:([]:List Value).length=0:=rfl
   have h4:(["self","steps","marks","fair"]:List Str).length=4:=rfl
   omega
  match us,h2 with
  |[u0,u1,u2,u3],_=>exact BindsTo.of_defaults rfl (KX _ _ lT) rfl rfl rfl
 refine⟨fnOf "law" "law" (vT lN) (wE lN) (zI lN) .none kV dc pm an cd ct,λs v=>.of_eq rfl,λbase _ _=>?_⟩
 have cal:∀{k:Nat}{x:Str}{st:Stmt}{ps:List Str}{sp:Sp},FP K x st->(∀f fd,bR K x x st f fd->aB l.prog w K mg base bH k f fd ps sp/\Binds K fd ps [])->bO l.prog w K mg base k x ps sp:=λh t=>HY X G h t
 have Ib:∀{k:Nat}{x y:Str}{st:Stmt}{ps:List Str}{sp:Sp},MP K C x y st->(∀f fd,bR K x y st f fd->aB l.prog w K mg base bH k f fd ps sp/\Binds K fd ps [])->fK l.prog w K mg base k C x ps sp:=λh t=>Bv cC h t
 have cR:∀H:Hp,nZ K H bC ((["all","not","both","either","somenext","eachnext","sometill","eachtill","someever","eachever"]:List Str).map V.str):=λH=>.inr ⟨_,_,_,lE,rfl,rfl,(by show 10<=sizeLine;decide),by repeat(first|exact Paired.nil|refine Paired.cons ⟨_,rfl⟩ ?_)⟩
 have iD:=cal h2 λ_ _ F=>⟨zIm (k:=0) F B,pP F⟩
 have aK:=cal h3 λ_ _ F=>⟨zDs (k:=1) F B iD.m,S8 F⟩
 have lF:=cal h4 λ_ _ F=>⟨zEo (k:=2) F B eV aK.m,mX F⟩
 have ju:=cal h5 λ_ _ F=>⟨zLe (k:=0) F B kW dD dF cR Vi Vj,mX F⟩
 have lG:=cal h6 λ_ _ F=>⟨zEp (k:=2) F B aK.m ju.m,pP F⟩
 have mW:=cal h7 λ_ _ F=>⟨zFu (k:=2) F B aK.m,pP F⟩
 have tY:=cal h8 λ_ _ F=>⟨zNt (k:=0) F B,mX F⟩
 have Vk:=cal h1 λ_ _ F=>⟨GR F B,mX F⟩
 have OI:aB l.prog w K mg base bH 4 fI Jp ["self","steps","marks","fair"] (I8 K C (G9 C)):=GX (k:=3) FI T B lF.m lG.m mW.m tY.m Vk.m
 have aX:=Ib m0 λ_ _ F=>⟨zDt (k:=0) (C:=C) F B T,mX F⟩
 have aA:=Ib m1 λ_ _ F=>⟨zBy (k:=0) (C:=C) F B T ji,pP F⟩
 have aH:=Ib m2 λ_ _ F=>⟨zBn (k:=0) (C:=C) F B T ji,pP F⟩
 have aN:=cal h9 λ_ _ F=>⟨zFt (k:=1) (C:=C) F B aX.m,mX F⟩
 have aP:=cal h10 λ_ _ F=>⟨zDr (k:=0) (C:=C) F B T,pP F⟩
 have gj:bO l.prog w K mg base 1 "numbered" ["keys"] (Ua K):=by
  obtain⟨f,fd,a,F⟩:=h11
  exact⟨f,fd,zG6 F B,mX F,F.kp,mg_of X G a⟩
 have gk:bO l.prog w K mg base 1 "numbered" ["keys"] (Ub K):=by
  obtain⟨f,fd,a,F⟩:=h11
  exact⟨f,fd,zG5 F B,mX F,F.kp,mg_of X G a⟩
 have cG:=cal h12 λ_ _ F=>⟨zC2 (k:=2) (C:=C) F B tX aH.m aN.m aP.m gj.m,mX F⟩
 have aL:=cal h13 λ_ _ F=>⟨zFp (k:=0) F B ji Ia,pP F⟩
 have bK:=cal h14 λ_ _ F=>⟨zC3 (k:=2) (C:=C) F B tX aA.m aN.m gk.m aL.m,pP F⟩
 have bG:=cal h15 λ_ _ F=>⟨zFq (k:=3) (C:=C) F B bK.m cG.m,mX F⟩
 have aR:=cal h16 λ_ _ F=>⟨zC4 (k:=4) (C:=C) F B bG.m,mX F⟩
 have aM:=cal h17 λ_ _ F=>⟨zBd (k:=0) F B Vh,mX F⟩
 have gM:=cal h18 λ_ _ F=>⟨zLf (k:=5) (C:=C) F B aR.m aM.m,mX F⟩
 have jh:=cal h19 λ_ _ F=>⟨zNs (k0:=4) (C:=C) F B T mk (OI.mono (by decide)) Jq aA.m aR.m aL.m aM.m,mX F⟩
 have gq:=cal h20 λ_ _ F=>⟨zG4 (k:=0) F B ji Ia,pP F⟩
 have gw:=cal h20 λ_ _ F=>⟨zG3 (k:=0) F B ji Ia,pP F⟩
 have cU:=cal h21 λ_ _ F=>⟨zDp (k:=1) (C:=C) F B aH.m aP.m gq.m gw.m,S8 F⟩
 have bY:=cal h22 λ_ _ F=>⟨zEm (k:=1) (C:=C) F B aA.m aL.m,Pb F⟩
 have dB:=cal h23 λ_ _ F=>⟨zEn (k:=2) (C:=C) F B bY.m,Pb F⟩
 have jx:=cal h24 λ_ _ F=>⟨zLc (k:=3) (C:=C) F B cU.m dB.m,Pb F⟩
 have iG:=cal h25 λ_ _ F=>⟨zIl (k:=4) (C:=C) F B aN.m bG.m jx.m,mX F⟩
 have aq:=cal h26 λ_ _ F=>⟨zHc (k:=0) F B,pP F⟩
 have aY:=cal h27 λ_ _ F=>⟨zLd (k:=0) F B,pP F⟩
 have c7:=cal h28 λ_ _ F=>⟨zG9 (k:=0) F B,pP F⟩
 have bQ:=cal h29 λ_ _ F=>⟨zG7 (k:=0) F B,pP F⟩
 have eO:=cal h30 λ_ _ F=>⟨zFr (k:=1) F B aq.m aY.m bQ.m,S8 F⟩
 have dg:=cal h31 λ_ _ F=>⟨zG8 (k:=1) F B aY.m bQ.m,Pb F⟩
 have gF:=cal h32 λ_ _ F=>⟨zHa (k:=1) F B Ng aq.m aY.m,mX F⟩
 have eU:=cal h33 λ_ _ F=>⟨zFs (k:=2) F B Ng aq.m gF.m c7.m dg.m eO.m,mX F⟩
 have gG:=cal h34 λ_ _ F=>⟨zHb (k0:=4) (C:=C) F B T mk (OI.mono (by decide)) Jq,mX F⟩
 refine aB.imp (Hj (k:=6) (C:=C) (oF lk ck kp) B T aX.m gG.m eU.m gM.m jh.m iG.m) λvs H Q E h=>?_
 obtain⟨a,ns,rfl,hS,h63,hQ⟩:=h
 obtain⟨b,e1,e2⟩:=zQ0 C ⟨ns⟩
 subst e2
 exact⟨(⟨ns⟩,()),true,H,.refl _,e1,.cons ⟨a,rfl,hS⟩ .nil,λv H' _ r=>by cases r;exact hQ H'⟩
theorem walk{l:PySem.W.OpenLaw}{YP:World->Heap->Prop}{d:DefRec}{K:Params->PySem.W.Frag}(hn:l.most=some 63)(hdf:d.params.defaults=[])(hY:∀(w:World) (h:Heap),YP w h->(K w.params).In h)(F:∀(w:World) (mg:Str->Option Value) (fa:Addr) (h:Heap),(K w.params).In h->h.Ns mainGlobals mg->mg d.name=some (.ref fa) ->
   ∃fd:FuncData,(∀(s:Shared) (u:Value),BindsTo s fd ⟨[u],[]⟩ [("_law_script",u)])/\∀base:Heap,(K w.params).In base->base.Ns mainGlobals mg->aB l.prog w (K w.params) mg base bH 7 fa fd ["_law_script"] (tV (K w.params))) :
  PySem.W.WalkO q loose XP YP l.row.toRowW d [] (λf vs=>PySem.call f vs) :=
 L2.wg (n:=63) (k:=7) (x:="_law_script") (CX:=λ_=>bH) (sp:=λw=>tV (K w.params)) hn (by decide) hdf ⟨rfl,by decide,by decide⟩ hY F (λ_ _ a ns hl _ hS=>⟨a,ns,rfl,hS,hl,λ_=>rfl⟩) λ_ _ _ _ _ z=>z
end Ts
namespace PySem.W.Fast
def tw4532369811722206547:=0
def tw6009564419593173103:=0
def tw2762764123387262442:=0
def tw5409653567047901203:=0
def tw15634799389095615264:=0
def tw5463367883527989849:=0
def tw4240520225208770098:=0
def tw11613303568228457716:=0
def tw11795284582439842589:=0
def tw17693449974957396421:=0
def tw882446961325408402:=0
def tw3316545181921412206:=0
def tw14115870958821886202:=0
def tw16260513411378864397:=0
def tw11358646993964310523:=0
def tw14574370419580267580:=0
def tw12220168161616297396:=0
def tw9566845721102379193:=0
def tw15136106927873946137:=0
def tw14311215790552903143:=0
def tw12175857266316810854:=0
def tw3666155701239586269:=0
def tw15344767682988504339:=0
def tw324347310435675941:=0
def tw10131818265385478259:=0
def tw8945611449755633594:=0
def tw5080741125665124158:=0
def tw13241885823987679880:=0
def tw9561614034584213928:=0
def tw5386907367626260481:=0
def tw4893797211194689536:=0
def tw14171177754377574389:=0
def tw17358757209174377653:=0
def tw1669097574548345159:=0
def tw6693988198394953703:=0
def tw3418123605383378721:=0
def tw15733913416602423897:=0
def tw13605243244580760833:=0
def tw12059128440009720860:=0
def tw3808861507242045823:=0
end PySem.W.Fast
open PySem PySem.W PyProof.Rows
set_option maxRecDepth 100000 in
set_option maxHeartbeats 0 in
theorem PySem.Challenge.cw_treesay_k65_folded_twice_holds : PySem.Challenge.rw_treesay_k65_folded_twice.Holds := by
 w_on; o_law; k_head; (case hw=>w_witness2)
 k_fill
 refine Ts.walk (l:=PySem.Challenge.rw_treesay_k65_folded_twice) rfl rfl (fun w h Y=>by first | exact PySem.W.kIn_of Y | exact PySem.W.km_in_of Y) ?F
 case F =>
  intro w mg fa h KX G hmg
  refine' Ts.all_mk KX G hmg ?_ ?_ ?_ ?_ ?_ ?_ ?_ ?_ ?_ ?_ ?_ ?_ ?_ ?_ ?_ ?_ ?_ ?_ ?_ ?_ ?_ ?_ ?_ ?_ ?_ ?_ ?_ ?_ ?_ ?_ ?_ ?_ ?_ ?_ ?_ ?_ ?_ ?_ ?_ ?_ ?_ ?_ ?_ ?_ ?_ ?_ ?_ ?_ ?_ ?_
  all_goals first | refine' Ts.M_ ⟨?_,?_,?_⟩ (L2.oF ?_ ?_ ?_) | refine' Ts.M9 ?_ (L2.oF ?_ ?_ ?_) | refine' Ts.Bu ?_ ?_ ?_ | refine' ⟨?_,?_,?_,?_⟩ | skip
  all_goals repeat' first | refine' And.intro ?_ ?_ | exact True.intro
  all_goals first | k_is | skip
  all_goals first | k_is | skip
